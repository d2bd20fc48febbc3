import Derived.Test.YtfealajbibofiaaTrBel1
/- TrieBelow: what the closures tell. -/
set_option linter.unusedVariables false
set_option linter.unusedSimpArgs false
namespace Go.Proofs.Ytfealajbibofiaa.trbel
open Go.RowKit Go.Lib Go.Proofs.Ytfealajbibofiaa.math1 Go.Proofs.Ytfealajbibofiaa.psof Go.Proofs.Ytfealajbibofiaa.trmath Go.Proofs.Ytfealajbibofiaa.trmem Go.Proofs.Ytfealajbibofiaa.trunder Go.Proofs.Ytfealajbibofiaa.trdrop Go.Proofs.Ytfealajbibofiaa.trlong Go.Proofs.Ytfealajbibofiaa.trhead Go.Proofs.Ytfealajbibofiaa.trwalk Go.Proofs.Ytfealajbibofiaa.trent

def bestL (a b0 : Int) (es : List ((Int × Int) × Value)) : Int := es.foldl (fun b e => if hasB e.1.1 e.1.2 a = true then (if e.1.2 ≤ b then b else e.1.2) else b) b0
theorem run_B (px pn a : Int) : ∀ (es : List ((Int × Int) × Value)) (m b : Int), run (stepB px pn a) (m, b) es = ((m + cov px pn es, bestL a b es), true)
  | [], m, b => by simp [run, cov, bestL]
  | e :: es, m, b => by
    rw [run, if_pos (show (stepB px pn a (m, b) e).2 = true from rfl)]
    rw [show (stepB px pn a (m, b) e).1 = (if coversB px pn e.1.1 e.1.2 = true then m + 1 else m, if hasB e.1.1 e.1.2 a = true then (if e.1.2 ≤ b then b else e.1.2) else b) from rfl, run_B px pn a es]
    refine Prod.ext (Prod.ext ?_ rfl) rfl
    show (if coversB px pn e.1.1 e.1.2 = true then m + 1 else m) + (cov px pn es : Int) = m + (cov px pn (e :: es) : Int)
    unfold cov
    rw [List.filter_cons]
    split
    · rw [List.length_cons]; push_cast; omega
    · rfl
theorem bestL_facts (a : Int) : ∀ (es : List ((Int × Int) × Value)) (b : Int), b ≤ bestL a b es ∧ (∀ e, e ∈ es → hasB e.1.1 e.1.2 a = true → e.1.2 ≤ bestL a b es) ∧ (∀ M, b ≤ M → (∀ e, e ∈ es → hasB e.1.1 e.1.2 a = true → e.1.2 ≤ M) → bestL a b es ≤ M)
  | [], b => ⟨Int.le_refl _, fun e he => (by cases he), fun M h _ => h⟩
  | e :: es, b => by
    obtain ⟨i1, i2, i3⟩ := bestL_facts a es (if hasB e.1.1 e.1.2 a = true then (if e.1.2 ≤ b then b else e.1.2) else b)
    have hst : bestL a b (e :: es) = bestL a (if hasB e.1.1 e.1.2 a = true then (if e.1.2 ≤ b then b else e.1.2) else b) es := rfl
    rw [hst]
    have hb : b ≤ (if hasB e.1.1 e.1.2 a = true then (if e.1.2 ≤ b then b else e.1.2) else b) := by
      split
      · split <;> omega
      · exact Int.le_refl _
    refine ⟨Int.le_trans hb i1, fun f hf hh => ?_, fun M hM hall => i3 M ?_ (fun f hf => hall f (List.mem_cons_of_mem _ hf))⟩
    · rcases List.mem_cons.1 hf with rfl | hf
      · refine Int.le_trans ?_ i1
        rw [if_pos hh]
        split <;> omega
      · exact i2 f hf hh
    · split
      · rename_i hh
        have := hall e (List.mem_cons_self ..) hh
        split <;> omega
      · exact hM
theorem bestTo_ge {T : Tr} {a : Int} {k : Nat} (hg : (T.get (path a k)).isSome = true) : ∀ n, k < n → ∃ i, bestTo T a n = some i ∧ k ≤ i
  | 0, h => by omega
  | n + 1, h => by
    rw [bestTo]
    by_cases hn : (T.get (path a n)).isSome = true
    · rw [if_pos hn]; exact ⟨n, rfl, by omega⟩
    · rw [if_neg hn]
      have : k ≠ n := fun e => hn (e ▸ hg)
      exact bestTo_ge hg n (by omega)
def bi : Option Nat → Int
  | none => -1
  | some i => i
theorem best_fold {T : Tr} {a : Int} (hd : T.height ≤ 33) (ha : 0 ≤ a) (ha1 : a < 4294967296) : bestL a (-1) (entries T 0 0) = bi (best T a) := by
  obtain ⟨i1, i2, i3⟩ := bestL_facts a (entries T 0 0) (-1)
  have spec := fun e he => ent_spec T 0 0 (by kernel_rfl) (by decide) (by decide) (by omega) e he
  -- whatever has the address is no longer than the longest
  have up : ∀ e, e ∈ entries T 0 0 → hasB e.1.1 e.1.2 a = true → e.1.2 ≤ bi (best T a) := fun e he hh => by
    obtain ⟨y, k, e1, e2, e3, _, e5, _, σ, e7, e8⟩ := spec e he
    rw [e1] at hh ⊢
    dsimp only at hh ⊢
    have hp := (has_iff_path e5 e3.1 e3.2 ha ha1 e2).1 hh
    have hs : T.get (path a k) = some e.2 := by
      rw [← hp, e7]
      exact e8
    obtain ⟨i, hi, hki⟩ := bestTo_ge (n := 33) (by rw [hs]; rfl) (by omega)
    rw [show best T a = some i from hi]
    simp only [bi]; omega
  cases hb : best T a with
  | none =>
    rw [hb] at up
    exact Int.le_antisymm (i3 _ (Int.le_refl _) up) i1
  | some i =>
    rw [hb] at up
    have hi := bestTo_lt T a 33 i hb
    obtain ⟨v, hv⟩ : ∃ v, T.get (path a i) = some v := by
      cases e : T.get (path a i) with
      | none => rw [e] at hi; cases hi.2
      | some v => exact ⟨v, rfl⟩
    obtain ⟨y, hy1, hy2⟩ := ent_all T 0 0 (path a i) v (by kernel_rfl) (by decide) (by decide) (by omega) hv
    rw [path_len, Nat.zero_add] at hy1 hy2
    obtain ⟨y', k, e1, e2, e3, _, e5, _, _⟩ := spec _ hy1
    simp only [Prod.mk.injEq] at e1
    obtain ⟨rfl, hk⟩ := e1
    have hik : i = k := by omega
    subst hik
    have hh := (has_iff_path e5 e3.1 e3.2 ha ha1 e2).2 (by rw [hy2]; rfl)
    exact Int.le_antisymm (i3 _ (by simp only [bi]; omega) up) (i2 _ hy1 hh)

/-- a path is one prefix's -/
theorem pre_inj {x y : Int} {n m : Nat} (hx : rightB x n = true) (hy : rightB y m = true) (x0 : 0 ≤ x) (x1 : x < 4294967296) (y0 : 0 ≤ y) (y1 : y < 4294967296) (h : path x n = path y m) : x = y ∧ n = m := by
  obtain ⟨rfl, -⟩ := path_eq h
  have hn : n ≤ 32 := by have := (rightB_iff.1 hx).2.1; omega
  have h1 := (has_range hx).1 ((has_iff_path hn x0 x1 y0 y1 hx).2 h)
  have h2 := (has_range hy).1 ((has_iff_path hn y0 y1 x0 x1 hy).2 h.symm)
  exact ⟨by omega, rfl⟩
theorem sub_height {T : Tr} {x : Int} {n : Nat} (hd : T.Dep) (hn : n ≤ 32) : n + (T.sub (path x n)).height ≤ 33 := by
  cases hs : T.sub (path x n) with
  | nil => simp only [Tr.height]; omega
  | node b l r v h =>
    rw [← hs]
    have := height_le (T := T.sub (path x n)) (32 - n) (fun π hπ => by
      have := hd (path x n ++ π) (by rw [Tr.sub_append]; exact hπ)
      rw [List.length_append, path_len] at this
      omega)
    omega
theorem cov_le (px pn : Int) (L : List ((Int × Int) × Value)) : cov px pn L ≤ L.length := List.length_filter_le _ _
theorem cov_bad {px pn : Int} (h : rightB px pn = false) (L : List ((Int × Int) × Value)) : cov px pn L = 0 := cov_none (fun e _ => by
  cases hc : coversB px pn e.1.1 e.1.2
  · rfl
  · rw [coversB] at hc
    simp only [Bool.and_eq_true] at hc
    have := has_right hc.2.2
    rw [h] at this; cases this)

set_option maxRecDepth 100000 in
theorem below_bad (F : FuncId) (caps : Array Value) (t : Nat) (x n : Int) (w : World) (h0 : 0 ≤ x) (h1 : x < 4294967296) (hr : rightB x n = false) : Calls Try.prog 18 #[.pointer (some ⟨t, 0, none⟩), .agg #[.int .u32 x, .int .i64 n], .func (.func F) #[] caps] w fun e w' => e = .returned (.tuple #[]) ∧ Below w.heap.size w w' := by
  have ba := (Below.refl w.heap.size w).alloc (Nat.le_refl _) (.cells #[.int .u32 x, .int .i64 n] 30)
  have BA := Lib.hid ba
  obtain ⟨V, hV⟩ : ∃ V, V = w.alloc (.cells #[.int .u32 x, .int .i64 n] 30) := ⟨_, rfl⟩
  have k0 := fun s : aid.Keep V => aid.keep_cell (show V.cell? ⟨w.heap.size, 0, none⟩ = some (.int .u32 x) by rw [hV]; exact aid.new2a _ _ _ _) s
  have k1 := fun s : aid.Keep V => aid.keep_cell (show V.cell? ⟨w.heap.size, 1, none⟩ = some (.int .i64 n) by rw [hV]; exact aid.new2b _ _ _ _) s
  have KU := Lib.hid (fun s : aid.Keep V => under_bad t x n s.world h0 h1 hr)
  have KW := Lib.hid (fun s : aid.Keep V => walk_nil x n (.func (.func F) #[] caps) s.world)
  have HV := Lib.hid hV
  have Q := neq_nilC F caps
  clear ba hV h0 h1 hr
  go_enter Try.func18, Try.ntmps18
  go_wp2_with fail
  rw [← HV.out]
  refine aid.wp_region_keep (by kernel_rfl) (by kernel_rfl) ?_
  repeat (go_big_quiet_step (first | (go_at_call 45; (with_reducible exact aid.keep_call (KU.out _))) | (go_at_call 46; (with_reducible exact aid.keep_call (KW.out _)))))
  refine wpQuiet_nil ?_
  rintro _ ⟨s, rfl⟩
  go_wp2_with fail
  go_end0
  exact ⟨rfl, aid.kbk (HV.out ▸ BA.out) s⟩
end Go.Proofs.Ytfealajbibofiaa.trbel
