import Derived.Test.YtfealajbibofiaaTrHead
/- Put and Drop of any prefix, as the laws use them: what stands where, and how many. -/
set_option linter.unusedVariables false
set_option linter.unusedSimpArgs false
namespace Go.Proofs.Ytfealajbibofiaa.trmap
open Go.RowKit Go.Lib Go.Proofs.Ytfealajbibofiaa.math1 Go.Proofs.Ytfealajbibofiaa.trmath Go.Proofs.Ytfealajbibofiaa.trmem Go.Proofs.Ytfealajbibofiaa.trgraft Go.Proofs.Ytfealajbibofiaa.trunder Go.Proofs.Ytfealajbibofiaa.trput Go.Proofs.Ytfealajbibofiaa.trdrop Go.Proofs.Ytfealajbibofiaa.trlong Go.Proofs.Ytfealajbibofiaa.trhead

/-- at so many paths something stands -/
def Cnt (T : Tr) (c : Int) : Prop := ∃ K : List (List Bool), K.Nodup ∧ (∀ σ, σ ∈ K ↔ (T.get σ).isSome = true) ∧ (K.length : Int) = c
theorem cnt_nil : Cnt .nil 0 := ⟨[], List.nodup_nil, fun σ => by rw [Tr.get_nil]; simp, rfl⟩
theorem cnt_one {T T' : Tr} {c c' : Int} (h : Cnt T c) (h' : Cnt T' c') (he : ∀ σ, (T.get σ).isSome = true ↔ (T'.get σ).isSome = true) : c = c' := by
  obtain ⟨K, n, m, l⟩ := h
  obtain ⟨K', n', m', l'⟩ := h'
  have : K.Perm K' := (List.perm_ext_iff_of_nodup n n').2 (fun σ => by rw [m, m', he])
  rw [← l, ← l', this.length_eq]
theorem cnt_zero {T : Tr} {c : Int} (h : Cnt T c) (hn : ∀ σ, T.get σ = none) : c = 0 := cnt_one h cnt_nil (fun σ => by rw [hn, Tr.get_nil])
theorem cnt_pos {T : Tr} {c : Int} (h : Cnt T c) : 0 ≤ c := by obtain ⟨K, _, _, l⟩ := h; omega
theorem cnt_some {T : Tr} {c : Int} (h : Cnt T c) {σ : List Bool} (hs : (T.get σ).isSome = true) : 0 < c := by
  obtain ⟨K, _, m, l⟩ := h
  have := List.length_pos_of_mem ((m σ).2 hs)
  omega
theorem cnt_new {T T' : Tr} {c : Int} {π : List Bool} {v : Value} (h : Cnt T c) (hn : T.get π = none) (hg : ∀ σ, T'.get σ = if σ = π then some v else T.get σ) : Cnt T' (c + 1) := by
  obtain ⟨K, n, m, l⟩ := h
  refine ⟨π :: K, List.nodup_cons.2 ⟨fun hm => ?_, n⟩, fun σ => ?_, by rw [List.length_cons]; omega⟩
  · have := (m π).1 hm; rw [hn] at this; cases this
  · rw [List.mem_cons, m, hg]
    by_cases e : σ = π
    · rw [if_pos e]; simp [e]
    · rw [if_neg e]; simp [e]
theorem cnt_old {T T' : Tr} {c : Int} {π : List Bool} {v : Value} (h : Cnt T c) (hs : (T.get π).isSome = true) (hg : ∀ σ, T'.get σ = if σ = π then some v else T.get σ) : Cnt T' c := by
  obtain ⟨K, n, m, l⟩ := h
  refine ⟨K, n, fun σ => ?_, l⟩
  rw [m, hg]
  by_cases e : σ = π
  · rw [if_pos e, e]; simp [hs]
  · rw [if_neg e]
theorem cnt_drop {T T' : Tr} {c : Int} {π : List Bool} (h : Cnt T c) (hs : (T.get π).isSome = true) (hg : ∀ σ, T'.get σ = if σ = π then none else T.get σ) : Cnt T' (c - 1) := by
  obtain ⟨K, n, m, l⟩ := h
  have hm := (m π).2 hs
  refine ⟨K.erase π, n.erase π, fun σ => ?_, by rw [List.length_erase_of_mem hm]; have := List.length_pos_of_mem hm; omega⟩
  rw [n.mem_erase_iff, m, hg]
  by_cases e : σ = π
  · rw [if_pos e]; simp [e]
  · rw [if_neg e]; simp [e]

/-- a trie of one's own, with its count -/
structure Own (B : Nat) (w : World) (t : Nat) (T : Tr) (m c : Int) : Prop where
  mine : Mine B w t T m c
  cnt : Cnt T c
theorem Own.below {B t : Nat} {w w' : World} {T : Tr} {m c : Int} (h : Own B w t T m c) (k : Below w.heap.size w w') : Own B w' t T m c := ⟨h.mine.below k, h.cnt⟩
theorem Own.kept {B t : Nat} {w w' : World} {T : Tr} {m c : Int} {mm : Nat → Prop} (h : Own B w t T m c) (k : Kept mm w w') (hn : ∀ x, own t T x → ¬ mm x) : Own B w' t T m c := ⟨⟨h.mine.tri.kept k hn, h.mine.dep, h.mine.own⟩, h.cnt⟩

/-- Put of any prefix, where there is room -/
theorem put_all (B t : Nat) (T : Tr) (m c a n v : Int) (w : World) (h : Own B w t T m c) (hB : B ≤ w.heap.size) (h0 : 0 ≤ a) (h1 : a < 4294967296) (hc : c < m) (hm : m ≤ 4096) :
    Calls Try.prog 11 #[.pointer (some ⟨t, 0, none⟩), .agg #[.int .u32 a, .int .i64 n], .int .i64 v] w fun e w' => ∃ T' c', e = .returned (.int .i64 (if rightB a n = true then 0 else 1)) ∧ Own B w' t T' m c' ∧ c' ≤ c + 1 ∧
      (∀ σ, T'.get σ = if rightB a n = true ∧ σ = path a n.toNat then some (.int .i64 v) else T.get σ) ∧ Below B w w' ∧ Kept (own t T) w w' ∧ (∀ x, own t T' x → own t T x ∨ w.heap.size ≤ x) := by
  cases hr : rightB a n
  · refine (put_bad t a n v w h0 h1 hr).mono ?_
    rintro e w' ⟨rfl, hb⟩
    exact ⟨T, c, rfl, h.below hb, by omega, fun σ => by rw [if_neg (by simp)], hb.mono hB, Kept.of_below hb, fun x hx => .inl hx⟩
  · obtain ⟨hn0, hn1, -⟩ := rightB_iff.1 hr
    obtain ⟨n', rfl⟩ : ∃ n' : Nat, n = n' := ⟨n.toNat, by omega⟩
    have e : ((n' : Int)).toNat = n' := rfl
    rw [e]
    have hcz := cnt_pos h.cnt
    by_cases hg : (T.get (path a n')).isSome = true
    · refine (put_old t T m c a v n' w h.mine.tri h0 h1 (by omega) hr hg).mono ?_
      rintro e w' ⟨rfl, hp⟩
      obtain ⟨T', m1, g1, b1, k1, n1⟩ := mine_put h.mine hB hp
      exact ⟨T', c, rfl, ⟨m1, cnt_old h.cnt hg g1⟩, by omega, fun σ => by rw [g1]; simp, b1, k1, fun x hx => by
        rcases hx with hx | hx
        · exact .inl (.inl hx)
        · exact (n1 x hx).imp .inr id⟩
    · have hg' : T.get (path a n') = none := by
        cases e : T.get (path a n') with
        | none => rfl
        | some u => rw [e] at hg; exact absurd rfl hg
      refine (put_new t T m c a v n' w h.mine.tri h0 h1 (by omega) hr hg' hc hcz hm).mono ?_
      rintro e w' ⟨rfl, hp⟩
      obtain ⟨T', m1, g1, b1, k1, n1⟩ := mine_put h.mine hB hp
      exact ⟨T', c + 1, rfl, ⟨m1, cnt_new h.cnt hg' g1⟩, by omega, fun σ => by rw [g1]; simp, b1, k1, fun x hx => by
        rcases hx with hx | hx
        · exact .inl (.inl hx)
        · exact (n1 x hx).imp .inr id⟩

/-- Drop of any prefix -/
theorem drop_all (B t : Nat) (T : Tr) (m c a n : Int) (w : World) (h : Own B w t T m c) (hB : B ≤ w.heap.size) (h0 : 0 ≤ a) (h1 : a < 4294967296) (hc : c ≤ 4096) :
    Calls Try.prog 13 #[.pointer (some ⟨t, 0, none⟩), .agg #[.int .u32 a, .int .i64 n]] w fun e w' => ∃ T' c', e = .returned (.bool (rightB a n && (T.get (path a n.toNat)).isSome)) ∧ Own B w' t T' m c' ∧ c' ≤ c ∧
      (∀ σ, T'.get σ = if rightB a n = true ∧ σ = path a n.toNat then none else T.get σ) ∧ Below B w w' ∧ Kept (own t T) w w' ∧ (∀ x, own t T' x → own t T x) := by
  cases hr : rightB a n
  · refine (drop_no _ a n w (fun W _ => find_bad t a n W h0 h1 hr)).mono ?_
    rintro e w' ⟨rfl, hb⟩
    exact ⟨T, c, rfl, h.below hb, by omega, fun σ => by rw [if_neg (by simp)], hb.mono hB, Kept.of_below hb, fun x hx => hx⟩
  · obtain ⟨hn0, hn1, -⟩ := rightB_iff.1 hr
    obtain ⟨n', rfl⟩ : ∃ n' : Nat, n = n' := ⟨n.toNat, by omega⟩
    have e : ((n' : Int)).toNat = n' := rfl
    rw [e]
    cases hg : (T.get (path a n')).isSome
    · have hg' : T.get (path a n') = none := by
        cases e : T.get (path a n') with
        | none => rfl
        | some u => rw [e] at hg; cases hg
      have hfv : findV T (path a n') = .pointer none := by rw [findV, hg']; rfl
      have K := fun (W : World) (hb : Below w.heap.size w W) => find_any t T m c a n' W (h.mine.tri.below hb) h0 h1 (by omega) hr
      rw [hfv] at K
      refine (drop_no _ a n' w K).mono ?_
      rintro e w' ⟨rfl, hb⟩
      exact ⟨T, c, rfl, h.below hb, by omega, fun σ => by
        by_cases e : σ = path a n'
        · rw [if_pos ⟨rfl, e⟩, e, hg']
        · rw [if_neg (fun h => e h.2)], hb.mono hB, Kept.of_below hb, fun x hx => hx⟩
    · refine (drop_yes t T m c a n' w h.mine.tri h0 h1 (by omega) hr hg (cnt_pos h.cnt) hc).mono ?_
      rintro e w' ⟨rfl, hp⟩
      obtain ⟨T', m1, g1, b1, k1, n1⟩ := mine_drop h.mine hB hp
      exact ⟨T', c - 1, rfl, ⟨m1, cnt_drop h.cnt hg g1⟩, by omega, fun σ => by rw [g1]; simp, b1, k1, fun x hx => hx.imp id (fun h => n1 x h)⟩

/-- the longest hangs on what stands alone -/
theorem best_ext {T T' : Tr} (h : ∀ σ, T.get σ = T'.get σ) (a : Int) : best T a = best T' a := by
  have key : ∀ k, bestTo T a k = bestTo T' a k := by
    intro k
    induction k with
    | zero => rfl
    | succ k ih => rw [bestTo, bestTo, h, ih]
  exact key 33
theorem long_ext {T T' : Tr} (h : ∀ σ, T.get σ = T'.get σ) (a : Int) : longV T a = longV T' a := by
  rw [longV, longV, best_ext h]
  cases best T' a with
  | none => rfl
  | some i => simp only [longO]; rw [h]
theorem long_shape {T : Tr} (h : ∀ σ v, T.get σ = some v → ∃ z : Int, v = .int .i64 z) (a : Int) : ∃ (p q z : Int) (b : Bool), longV T a = .tuple #[.agg #[.int .u32 p, .int .i64 q], .int .i64 z, .bool b] := by
  rw [longV]
  cases hb : best T a with
  | none => exact ⟨_, _, _, _, rfl⟩
  | some i =>
    have := (bestTo_lt T a 33 i hb).2
    cases e : T.get (path a i) with
    | none => rw [e] at this; cases this
    | some v =>
      obtain ⟨z, rfl⟩ := h _ v e
      exact ⟨netI a i, clampI i, z, true, by simp only [longO]; rw [e]; rfl⟩
end Go.Proofs.Ytfealajbibofiaa.trmap
