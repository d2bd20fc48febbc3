import Derived.Test.YtfealajbibofiaaTrWalk2
import Derived.Test.YtfealajbibofiaaTbPut2
/- Package trie at bool: New, Put of any prefix, walk, Below, All (the same texts as at int). -/
set_option linter.unusedVariables false
set_option linter.unusedSimpArgs false
namespace Go.Proofs.Ytfealajbibofiaa.tbwalk
open Go.RowKit Go.Lib Go.Proofs.Ytfealajbibofiaa.math1 Go.Proofs.Ytfealajbibofiaa.trmath Go.Proofs.Ytfealajbibofiaa.trmem Go.Proofs.Ytfealajbibofiaa.trgraft Go.Proofs.Ytfealajbibofiaa.tbunder Go.Proofs.Ytfealajbibofiaa.tbput Go.Proofs.Ytfealajbibofiaa.trwalk

theorem new_any (m : Int) (h0 : 0 ≤ m) (h1 : m ≤ 4096) (w : World) : Calls Try.prog 33 #[.int .i64 m] w fun e w' => e = .returned (.pointer (some ⟨w.heap.size, 0, none⟩)) ∧ Tri w' w.heap.size .nil m 0 ∧ Below w.heap.size w w' := by
  go_enter Try.func33, Try.ntmps33
  go_wp2_with fail
  go_ret
  refine ⟨rfl, ⟨?_, ?_, ?_, fun i hi => World.frozen?_alloc_at _ _ _ _ rfl, trivial, List.nodup_nil, fun h => by cases h⟩, (Below.refl _ _).alloc (Nat.le_refl _) _⟩
  · go_simp; rfl
  · go_simp
  · go_simp

theorem mine_putb {B t : Nat} {w w' : World} {T : Tr} {m c c' : Int} {π : List Bool} {v : Value} (h : trhead.Mine B w t T m c) (hB : B ≤ w.heap.size) (p : PutOk w w' t T m c' π v) :
    ∃ T', trhead.Mine B w' t T' m c' ∧ (∀ σ, T'.get σ = if σ = π then some v else T.get σ) ∧ Below B w w' ∧ Kept (trmem.own t T) w w' ∧ (∀ x, x ∈ T'.blocks → x ∈ T.blocks ∨ w.heap.size ≤ x) := by
  obtain ⟨T', h1, h2, h3, h4, h5⟩ := p
  exact ⟨T', ⟨h1, fun ρ hρ => (h5 ρ hρ).elim (h.dep ρ) id, fun x hx => by
    rcases hx with hx | hx
    · exact h.own x (.inl hx)
    · rcases h3 x hx with hx | hx
      · exact h.own x (.inr hx)
      · omega⟩, h2, h4.below hB (fun x hx ho => by have := h.own x ho; omega), h4, h3⟩
/-- Put of any prefix, where there is room -/
theorem put_all (B t : Nat) (T : Tr) (m c a n : Int) (v : Bool) (w : World) (h : trmap.Own B w t T m c) (hB : B ≤ w.heap.size) (h0 : 0 ≤ a) (h1 : a < 4294967296) (hc : c < m) (hm : m ≤ 4096) :
    Calls Try.prog 34 #[.pointer (some ⟨t, 0, none⟩), .agg #[.int .u32 a, .int .i64 n], .bool v] w fun e w' => ∃ T' c', e = .returned (.int .i64 (if rightB a n = true then 0 else 1)) ∧ trmap.Own B w' t T' m c' ∧ c' ≤ c + 1 ∧
      (∀ σ, T'.get σ = if rightB a n = true ∧ σ = path a n.toNat then some (.bool v) else T.get σ) ∧ Below B w w' ∧ Kept (own t T) w w' ∧ (∀ x, own t T' x → own t T x ∨ w.heap.size ≤ x) := by
  cases hr : rightB a n
  · refine (put_bad t a n v w h0 h1 hr).mono ?_
    rintro e w' ⟨rfl, hb⟩
    exact ⟨T, c, rfl, h.below hb, by omega, fun σ => by rw [if_neg (by simp)], hb.mono hB, Kept.of_below hb, fun x hx => .inl hx⟩
  · obtain ⟨hn0, hn1, -⟩ := rightB_iff.1 hr
    obtain ⟨n', rfl⟩ : ∃ n' : Nat, n = n' := ⟨n.toNat, by omega⟩
    have e : ((n' : Int)).toNat = n' := rfl
    rw [e]
    have hcz := trmap.cnt_pos h.cnt
    by_cases hg : (T.get (path a n')).isSome = true
    · refine (put_old t T m c a v n' w h.mine.tri h0 h1 (by omega) hr hg).mono ?_
      rintro e w' ⟨rfl, hp⟩
      obtain ⟨T', m1, g1, b1, k1, n1⟩ := mine_putb h.mine hB hp
      exact ⟨T', c, rfl, ⟨m1, trmap.cnt_old h.cnt hg g1⟩, by omega, fun σ => by rw [g1]; simp, b1, k1, fun x hx => by
        rcases hx with hx | hx
        · exact .inl (.inl hx)
        · exact (n1 x hx).imp .inr id⟩
    · have hg' : T.get (path a n') = none := by
        cases e : T.get (path a n') with
        | none => rfl
        | some u => rw [e] at hg; exact absurd rfl hg
      refine (put_new t T m c a v n' w h.mine.tri h0 h1 (by omega) hr hg' hc hcz hm).mono ?_
      rintro e w' ⟨rfl, hp⟩
      obtain ⟨T', m1, g1, b1, k1, n1⟩ := mine_putb h.mine hB hp
      exact ⟨T', c + 1, rfl, ⟨m1, trmap.cnt_new h.cnt hg' g1⟩, by omega, fun σ => by rw [g1]; simp, b1, k1, fun x hx => by
        rcases hx with hx | hx
        · exact .inl (.inl hx)
        · exact (n1 x hx).imp .inr id⟩

set_option maxRecDepth 100000 in
theorem walk_nil (x n : Int) (f : Value) (w : World) : Calls Try.prog 57 #[.pointer none, .agg #[.int .u32 x, .int .i64 n], f] w fun e w' => e = .returned (.bool true) ∧ Below w.heap.size w w' := by
  go_enter Try.func57, Try.ntmps57
  go_wp2_with fail
  go_ret
  exact ⟨rfl, (Below.refl _ _).alloc (Nat.le_refl _) _⟩
theorem neq_nilC (F : FuncId) (caps : Array Value) (W : World) : (binOp .neq 66 (.func (.func F) #[] caps) Value.nilFunc).run Try.prog W = .ok (.bool true) W := by kernel_rfl
set_option maxRecDepth 100000 in
set_option maxHeartbeats 4000000 in
theorem walk_step {S : Type} (F : FuncId) (caps : Array Value) (eg : ∀ args w, (callFunc F args).run Try.prog w = .ok (.enter F args) w) (Inv : S → World → Prop) (C : Nat → Prop) (b : Nat) (l r : Tr) (v : Value) (hh : Bool) (x n : Int) (w : World) (b0 b1 b2 : Bool) (s s0 s1 s2 : S)
    (HINV : Hid (∀ s W, ∀ W', Inv s W → Below W.heap.size W W' → Inv s W'))
    (KFH : Hid (∀ W, Inv s W → (∀ q, C q → q < W.heap.size) → hh = true → Calls Try.prog F (#[.agg #[.int .u32 x, .int .i64 n], v] ++ caps) W fun e w' => e = .returned (.bool b0) ∧ Inv s0 w' ∧ Kept C W w')) (h00 : hh = false → b0 = true ∧ s0 = s)
    (hin : In w (.node b l r v hh)) (hC : ∀ q, q ∈ (Tr.node b l r v hh).blocks → ¬ C q) (hCw : ∀ q, C q → q < w.heap.size) (hI : Inv s w)
    (x0 n0 e0 x1 n1 e1 : Int)
    (KH0 : Hid (∀ W, Calls Try.prog 55 #[.agg #[.int .u32 x, .int .i64 n], .int .i64 0] W fun e w' => e = .returned (.tuple #[.agg #[.int .u32 x0, .int .i64 n0], .int .i64 e0]) ∧ Below W.heap.size W w'))
    (KH1 : Hid (∀ W, Calls Try.prog 55 #[.agg #[.int .u32 x, .int .i64 n], .int .i64 1] W fun e w' => e = .returned (.tuple #[.agg #[.int .u32 x1, .int .i64 n1], .int .i64 e1]) ∧ Below W.heap.size W w'))
    (KL : Hid (∀ W, In W l → Inv s0 W → (∀ q, C q → q < W.heap.size) → Calls Try.prog 57 #[l.ptr, .agg #[.int .u32 x0, .int .i64 n0], .func (.func F) #[] caps] W fun e w' => e = .returned (.bool b1) ∧ Inv s1 w' ∧ Kept C W w'))
    (KR : Hid (∀ W, In W r → Inv s1 W → (∀ q, C q → q < W.heap.size) → Calls Try.prog 57 #[r.ptr, .agg #[.int .u32 x1, .int .i64 n1], .func (.func F) #[] caps] W fun e w' => e = .returned (.bool b2) ∧ Inv s2 w' ∧ Kept C W w')) :
    Calls Try.prog 57 #[.pointer (some ⟨b, 0, none⟩), .agg #[.int .u32 x, .int .i64 n], .func (.func F) #[] caps] w fun e w' => e = .returned (.bool (b0 && b1 && b2)) ∧ Inv (if b0 then if b1 then s2 else s1 else s0) w' ∧ Kept C w w' := by
  obtain ⟨c0, c1, c2, c3, -, il, ir⟩ := hin
  have ba := (Below.refl w.heap.size w).alloc (Nat.le_refl _) (.cells #[.int .u32 x, .int .i64 n] 30)
  obtain ⟨V, hV⟩ : ∃ V, V = w.alloc (.cells #[.int .u32 x, .int .i64 n] 30) := ⟨_, rfl⟩
  rw [← hV] at ba
  have hVs : w.heap.size < V.heap.size := by rw [hV]; simp
  have q0 : V.cell? ⟨w.heap.size, 0, none⟩ = some (.int .u32 x) := by rw [hV]; exact aid.new2a _ _ _ _
  have q1 : V.cell? ⟨w.heap.size, 1, none⟩ = some (.int .i64 n) := by rw [hV]; exact aid.new2b _ _ _ _
  have nb : ¬ C b := hC b (List.mem_cons_self ..)
  have nw : ¬ C w.heap.size := fun h => Nat.lt_irrefl _ (hCw _ h)
  have HP0 := Lib.hid (show ∀ W, Kept C V W → W.cell? ⟨w.heap.size, 0, none⟩ = some (.int .u32 x) from fun W h => Kept.cell h q0 nw)
  have HP1 := Lib.hid (show ∀ W, Kept C V W → W.cell? ⟨w.heap.size, 0 + 1, none⟩ = some (.int .i64 n) from fun W h => Kept.cell h q1 nw)
  have HC3 := Lib.hid (show ∀ W, Kept C V W → W.cell? ⟨b, 3, none⟩ = some (.bool hh) from fun W h => Kept.cell h (aid.kc ba c3) nb)
  have HC2 := Lib.hid (show ∀ W, Kept C V W → W.cell? ⟨b, 2, none⟩ = some v from fun W h => Kept.cell h (aid.kc ba c2) nb)
  obtain ⟨pl, hpl⟩ : ∃ p, l.ptr = .pointer p := by cases l <;> exact ⟨_, rfl⟩
  obtain ⟨pr, hpr⟩ : ∃ p, r.ptr = .pointer p := by cases r <;> exact ⟨_, rfl⟩
  rw [hpl] at c0 KL
  rw [hpr] at c1 KR
  have HC0 := Lib.hid (show ∀ W, Kept C V W → W.cell? ⟨b, 0, none⟩ = some (.pointer pl) from fun W h => Kept.cell h (aid.kc ba c0) nb)
  have HC1 := Lib.hid (show ∀ W, Kept C V W → W.cell? ⟨b, 1, none⟩ = some (.pointer pr) from fun W h => Kept.cell h (aid.kc ba c1) nb)
  have i0 : ∀ W, (Instr.index 89 (.agg #[.pointer pl, .pointer pr]) (.int .i64 0)).run Try.prog W = .ok (.pointer pl) W := fun _ => by kernel_rfl
  have i1 : ∀ W, (Instr.index 89 (.agg #[.pointer pl, .pointer pr]) (.int .i64 1)).run Try.prog W = .ok (.pointer pr) W := fun _ => by kernel_rfl
  have IL := Lib.hid (show ∀ W, Kept C V W → In W l from fun W h => in_kept (in_below il ba) h (fun q hq => hC q (List.mem_cons_of_mem _ (List.mem_append_left _ hq))))
  have IR := Lib.hid (show ∀ W, Kept C V W → In W r from fun W h => in_kept (in_below ir ba) h (fun q hq => hC q (List.mem_cons_of_mem _ (List.mem_append_right _ hq))))
  have SV := Lib.hid (HINV.out s w V hI ba)
  have KW := Lib.hid (show ∀ W, Kept C V W → Kept C w W from fun W h => (Kept.of_below (may := C) ba).trans h (fun _ _ h => h))
  have HCV := Lib.hid (show ∀ W, Kept C V W → ∀ q, C q → q < W.heap.size from fun W h q hq => Nat.lt_of_lt_of_le (hCw q hq) (Nat.le_trans ba.size h.size))
  have HV := Lib.hid hV
  clear c0 c1 c2 c3 il ir ba q0 q1 nb nw hpl hpr hC hCw hI hV
  cases hh
  · obtain ⟨rfl, rfl⟩ := h00 rfl
    have k3 := fun s : aid.Keep V => HC3.out s.world (Kept.of_below s.below)
    go_enter Try.func57, Try.ntmps57
    go_wp2_with fail
    rw [← HV.out]
    refine aid.wp_region_keep (by kernel_rfl) (by kernel_rfl) ?_
    repeat (go_big_quiet_step (fail))
    refine wpQuiet_nil ?_
    rintro _ ⟨sk, rfl⟩
    have I2 := Lib.hid (HINV.out s0 V sk.world SV.out sk.below)
    have KS := Lib.hid (Kept.of_below (may := C) sk.below)
    have c0 := HC0.out _ KS.out
    have c1 := HC1.out _ KS.out
    clear k3
    go_wp2_with fail
    go_loopw [31] (fun iv wr => ∃ k : Nat, k ≤ 2 ∧ iv = .int .i64 k ∧ Hid (k = 0 ∨ b1 = true) ∧ Hid (k = 2 → b2 = true) ∧ Hid (Inv (if k = 0 then s0 else if k = 1 then s1 else s2) wr) ∧ Hid (Kept C V wr)) (fun iv _ => 2 - (intOf iv).toNat)
    case atStart => exact ⟨0, by omega, rfl, Lib.hid (.inl rfl), Lib.hid (fun h => by cases h), Lib.hid I2.out, KS⟩
    case round =>
      obtain ⟨k, hk, rfl, hb1, hb2, hI, Bl⟩ := hrel
      have z0 := HP0.out _ Bl.out
      have z1 : wr.cell? ⟨w.heap.size, 1, none⟩ = some (.int .i64 n) := HP1.out _ Bl.out
      have hcase : k = 0 ∨ k = 1 ∨ k = 2 := by omega
      rcases hcase with rfl | rfl | rfl
      · go_wp2_with fail
        refine (KH0.out _).mono ?_
        rintro e w1 ⟨rfl, hb⟩
        have y := aid.kb ((Below.refl w1.heap.size w1).alloc (Nat.le_refl _) (.cells #[.int .u32 x0, .int .i64 n0] 30)) hb
        have I3 := Lib.hid (HINV.out s0 _ _ hI.out y)
        have K3 := Lib.hid (Kept.then Bl.out y)
        clear hb y
        go_wp2_with fail
        refine (KL.out _ (IL.out _ K3.out) I3.out (HCV.out _ K3.out)).mono ?_
        rintro e w2 ⟨rfl, hi, hk⟩
        have I4 := Lib.hid hi
        have K4 := Lib.hid (Kept.trans K3.out hk (fun _ _ h => h))
        clear hi hk
        cases b1
        · go_wp2_with fail
          go_ret
          exact ⟨rfl, I4.out, KW.out _ K4.out⟩
        · go_wp2_with fail
          go_roundw
          case rel => exact ⟨1, by omega, by go_num, Lib.hid (.inr (by trivial)), Lib.hid (fun h => by cases h), I4, K4⟩
          case measure => simp [intOf]
      · obtain rfl : b1 = true := by
          rcases hb1.out with h | h
          · cases h
          · exact h
        go_wp2_with fail
        refine (KH1.out _).mono ?_
        rintro e w1 ⟨rfl, hb⟩
        have y := aid.kb ((Below.refl w1.heap.size w1).alloc (Nat.le_refl _) (.cells #[.int .u32 x1, .int .i64 n1] 30)) hb
        have I3 := Lib.hid (HINV.out s1 _ _ hI.out y)
        have K3 := Lib.hid (Kept.then Bl.out y)
        clear hb y
        go_wp2_with fail
        refine (KR.out _ (IR.out _ K3.out) I3.out (HCV.out _ K3.out)).mono ?_
        rintro e w2 ⟨rfl, hi, hk⟩
        have I4 := Lib.hid hi
        have K4 := Lib.hid (Kept.trans K3.out hk (fun _ _ h => h))
        clear hi hk
        cases b2
        · go_wp2_with fail
          go_ret
          exact ⟨rfl, I4.out, KW.out _ K4.out⟩
        · go_wp2_with fail
          go_roundw
          case rel => exact ⟨2, by omega, by go_num, Lib.hid (.inr (by trivial)), Lib.hid (fun _ => by trivial), I4, K4⟩
          case measure => simp [intOf]
      · obtain rfl : b1 = true := by
          rcases hb1.out with h | h
          · cases h
          · exact h
        obtain rfl : b2 = true := hb2.out rfl
        go_wp2_with fail
        go_ret
        exact ⟨rfl, hI.out, KW.out _ Bl.out⟩

  · go_enter Try.func57, Try.ntmps57
    go_wp2_with fail
    rw [← HV.out]
    refine wp_region_noPanic ?_
    refine wp_region_held_drew (S := fun W => Kept C V W) (by kernel_rfl) ((Kept.refl _ _).drew) (fun hSx => ?_)
    change wpAnyH _ _ _ _ _ 14 _ _ _
    have hS0 : Kept C V V.drew := hSx
    clear hSx
    refine wpAnyH_take (i := 0) (v := .pointer (some ⟨b, 0, none⟩)) rfl (by kernel_rfl) (by kernel_rfl) (by kernel_rfl) (fun _ _ _ h => h) (.inl ⟨rfl, fun _ _ => rfl⟩) hS0 ?_
    try simp only [Act.put, List.setIfInBounds_toArray, List.set_cons_zero, List.set_cons_succ, List.getElem_toArray, List.getElem_cons_zero, List.getElem_cons_succ]
    refine wpAnyH_take (i := 1) (v := .pointer (some ⟨b, 0, none⟩)) rfl (by kernel_rfl) (by kernel_rfl) (by kernel_rfl) (fun _ _ _ h => h) (.inl ⟨rfl, fun _ _ => by kernel_rfl⟩) hS0 ?_
    try simp only [Act.put, List.setIfInBounds_toArray, List.set_cons_zero, List.set_cons_succ, List.getElem_toArray, List.getElem_cons_zero, List.getElem_cons_succ]
    refine wpAnyH_take (i := 2) (v := .pointer (some ⟨b, 3, none⟩)) rfl (by kernel_rfl) (by kernel_rfl) (by kernel_rfl) (fun _ _ _ h => h) (.inl ⟨rfl, fun _ _ => by kernel_rfl⟩) hS0 ?_
    try simp only [Act.put, List.setIfInBounds_toArray, List.set_cons_zero, List.set_cons_succ, List.getElem_toArray, List.getElem_cons_zero, List.getElem_cons_succ]
    refine wpAnyH_take (i := 3) (v := .bool true) rfl (by kernel_rfl) (by kernel_rfl) (by kernel_rfl) (fun _ _ _ h => h) (yields_bool rfl (.tmp 15) rfl b 3 rfl _ HC3.out) hS0 ?_
    try simp only [Act.put, List.setIfInBounds_toArray, List.set_cons_zero, List.set_cons_succ, List.getElem_toArray, List.getElem_cons_zero, List.getElem_cons_succ]
    refine wpAnyH_take (i := 4) (v := .bool true) rfl (by kernel_rfl) (by kernel_rfl) (by kernel_rfl) (fun _ _ _ h => h) (.inl ⟨rfl, fun _ _ => rfl⟩) hS0 ?_
    try simp only [Act.put, List.setIfInBounds_toArray, List.set_cons_zero, List.set_cons_succ, List.getElem_toArray, List.getElem_cons_zero, List.getElem_cons_succ]
    refine wpAnyH_take (i := 5) (v := .func (.func F) #[] caps) rfl (by kernel_rfl) (by kernel_rfl) (by kernel_rfl) (fun _ _ _ h => h) (.inl ⟨rfl, fun _ _ => rfl⟩) hS0 ?_
    try simp only [Act.put, List.setIfInBounds_toArray, List.set_cons_zero, List.set_cons_succ, List.getElem_toArray, List.getElem_cons_zero, List.getElem_cons_succ]
    refine wpAnyH_take (i := 6) (v := .agg #[.int .u32 x, .int .i64 n]) rfl (by kernel_rfl) (by kernel_rfl) (by kernel_rfl) (fun _ _ _ h => h) (trdrop.yields_pfx rfl (.tmp 4) rfl w.heap.size 0 rfl _ _ HP0.out HP1.out) hS0 ?_
    try simp only [Act.put, List.setIfInBounds_toArray, List.set_cons_zero, List.set_cons_succ, List.getElem_toArray, List.getElem_cons_zero, List.getElem_cons_succ]
    refine wpAnyH_take (i := 7) (v := .pointer (some ⟨b, 0, none⟩)) rfl (by kernel_rfl) (by kernel_rfl) (by kernel_rfl) (fun _ _ _ h => h) (.inl ⟨rfl, fun _ _ => rfl⟩) hS0 ?_
    try simp only [Act.put, List.setIfInBounds_toArray, List.set_cons_zero, List.set_cons_succ, List.getElem_toArray, List.getElem_cons_zero, List.getElem_cons_succ]
    refine wpAnyH_take (i := 8) (v := .pointer (some ⟨b, 0, none⟩)) rfl (by kernel_rfl) (by kernel_rfl) (by kernel_rfl) (fun _ _ _ h => h) (.inl ⟨rfl, fun _ _ => by kernel_rfl⟩) hS0 ?_
    try simp only [Act.put, List.setIfInBounds_toArray, List.set_cons_zero, List.set_cons_succ, List.getElem_toArray, List.getElem_cons_zero, List.getElem_cons_succ]
    refine wpAnyH_take (i := 9) (v := .pointer (some ⟨b, 2, none⟩)) rfl (by kernel_rfl) (by kernel_rfl) (by kernel_rfl) (fun _ _ _ h => h) (.inl ⟨rfl, fun _ _ => by kernel_rfl⟩) hS0 ?_
    try simp only [Act.put, List.setIfInBounds_toArray, List.set_cons_zero, List.set_cons_succ, List.getElem_toArray, List.getElem_cons_zero, List.getElem_cons_succ]
    refine wpAnyH_take (i := 10) (v := v) rfl (by kernel_rfl) (by kernel_rfl) (by kernel_rfl) (fun _ _ _ h => h) (yields_bool rfl (.tmp 22) rfl b 2 rfl _ HC2.out) hS0 ?_
    try simp only [Act.put, List.setIfInBounds_toArray, List.set_cons_zero, List.set_cons_succ, List.getElem_toArray, List.getElem_cons_zero, List.getElem_cons_succ]
    refine wpAnyH_ready (rs := [11]) (by kernel_rfl) (by simp) ?_
    refine AllReadyH.cons rfl (fun K hK => ?_) AllReadyH.nil
    go_simp
    refine (KFH.out _ (HINV.out _ _ _ SV.out (Below.refl _ _).drew) (HCV.out _ (Kept.refl _ _).drew) (by trivial)).mono ?_
    rintro e0 w2 ⟨rfl, hi2, hk2⟩
    have hS1 : Kept C V w2 := Kept.trans (show Kept C V V.drew from hS0) hk2 (fun x _ h => h)
    go_wp2_with fail
    refine hK.out _ _ hS1 (fun _ => ?_)
    clear hK K
    try simp only [Act.put, List.setIfInBounds_toArray, List.set_cons_zero, List.set_cons_succ, List.getElem_toArray, List.getElem_cons_zero, List.getElem_cons_succ]
    have I2 := Lib.hid hi2
    have KS := Lib.hid hS1
    clear hi2 hk2

    cases b0
    · skip
      refine wpAnyH_ready (rs := [12]) (by kernel_rfl) (by simp) ?_
      refine AllReadyH.cons rfl (fun K hK => ?_) AllReadyH.nil
      go_simp
      refine hK.out _ _ hS1 (fun _ => ?_)
      clear hK K
      try simp only [Act.put, List.setIfInBounds_toArray, List.set_cons_zero, List.set_cons_succ, List.getElem_toArray, List.getElem_cons_zero, List.getElem_cons_succ]
      refine wpAnyH_ready (rs := [13]) (by kernel_rfl) (by simp) ?_
      refine AllReadyH.cons rfl (fun K hK => ?_) AllReadyH.nil
      go_simp
      refine hK.out _ _ hS1 (fun _ => ?_)
      clear hK K
      try simp only [Act.put, List.setIfInBounds_toArray, List.set_cons_zero, List.set_cons_succ, List.getElem_toArray, List.getElem_cons_zero, List.getElem_cons_succ]
      refine wpAnyH_done (by kernel_rfl) ?_ _
      refine NoPanic.normal ?_

      clear hS0 hS1
      go_wp2_with fail
      go_ret
      exact ⟨rfl, I2.out, KW.out _ KS.out⟩
    · skip
      refine wpAnyH_ready (rs := [12]) (by kernel_rfl) (by simp) ?_
      refine AllReadyH.cons rfl (fun K hK => ?_) AllReadyH.nil
      go_simp
      refine hK.out _ _ hS1 (fun _ => ?_)
      clear hK K
      try simp only [Act.put, List.setIfInBounds_toArray, List.set_cons_zero, List.set_cons_succ, List.getElem_toArray, List.getElem_cons_zero, List.getElem_cons_succ]
      refine wpAnyH_ready (rs := [13]) (by kernel_rfl) (by simp) ?_
      refine AllReadyH.cons rfl (fun K hK => ?_) AllReadyH.nil
      go_simp
      refine hK.out _ _ hS1 (fun _ => ?_)
      clear hK K
      try simp only [Act.put, List.setIfInBounds_toArray, List.set_cons_zero, List.set_cons_succ, List.getElem_toArray, List.getElem_cons_zero, List.getElem_cons_succ]
      refine wpAnyH_done (by kernel_rfl) ?_ _
      refine NoPanic.normal ?_

      have c0 := HC0.out _ KS.out
      have c1 := HC1.out _ KS.out
      clear hS0 hS1
      go_wp2_with fail
      go_loopw [31] (fun iv wr => ∃ k : Nat, k ≤ 2 ∧ iv = .int .i64 k ∧ Hid (k = 0 ∨ b1 = true) ∧ Hid (k = 2 → b2 = true) ∧ Hid (Inv (if k = 0 then s0 else if k = 1 then s1 else s2) wr) ∧ Hid (Kept C V wr)) (fun iv _ => 2 - (intOf iv).toNat)
      case atStart => exact ⟨0, by omega, rfl, Lib.hid (.inl rfl), Lib.hid (fun h => by cases h), Lib.hid I2.out, KS⟩
      case round =>
        obtain ⟨k, hk, rfl, hb1, hb2, hI, Bl⟩ := hrel
        have z0 := HP0.out _ Bl.out
        have z1 : wr.cell? ⟨w.heap.size, 1, none⟩ = some (.int .i64 n) := HP1.out _ Bl.out
        have hcase : k = 0 ∨ k = 1 ∨ k = 2 := by omega
        rcases hcase with rfl | rfl | rfl
        · go_wp2_with fail
          refine (KH0.out _).mono ?_
          rintro e w1 ⟨rfl, hb⟩
          have y := aid.kb ((Below.refl w1.heap.size w1).alloc (Nat.le_refl _) (.cells #[.int .u32 x0, .int .i64 n0] 30)) hb
          have I3 := Lib.hid (HINV.out s0 _ _ hI.out y)
          have K3 := Lib.hid (Kept.then Bl.out y)
          clear hb y
          go_wp2_with fail
          refine (KL.out _ (IL.out _ K3.out) I3.out (HCV.out _ K3.out)).mono ?_
          rintro e w2 ⟨rfl, hi, hk⟩
          have I4 := Lib.hid hi
          have K4 := Lib.hid (Kept.trans K3.out hk (fun _ _ h => h))
          clear hi hk
          cases b1
          · go_wp2_with fail
            go_ret
            exact ⟨rfl, I4.out, KW.out _ K4.out⟩
          · go_wp2_with fail
            go_roundw
            case rel => exact ⟨1, by omega, by go_num, Lib.hid (.inr (by trivial)), Lib.hid (fun h => by cases h), I4, K4⟩
            case measure => simp [intOf]
        · obtain rfl : b1 = true := by
            rcases hb1.out with h | h
            · cases h
            · exact h
          go_wp2_with fail
          refine (KH1.out _).mono ?_
          rintro e w1 ⟨rfl, hb⟩
          have y := aid.kb ((Below.refl w1.heap.size w1).alloc (Nat.le_refl _) (.cells #[.int .u32 x1, .int .i64 n1] 30)) hb
          have I3 := Lib.hid (HINV.out s1 _ _ hI.out y)
          have K3 := Lib.hid (Kept.then Bl.out y)
          clear hb y
          go_wp2_with fail
          refine (KR.out _ (IR.out _ K3.out) I3.out (HCV.out _ K3.out)).mono ?_
          rintro e w2 ⟨rfl, hi, hk⟩
          have I4 := Lib.hid hi
          have K4 := Lib.hid (Kept.trans K3.out hk (fun _ _ h => h))
          clear hi hk
          cases b2
          · go_wp2_with fail
            go_ret
            exact ⟨rfl, I4.out, KW.out _ K4.out⟩
          · go_wp2_with fail
            go_roundw
            case rel => exact ⟨2, by omega, by go_num, Lib.hid (.inr (by trivial)), Lib.hid (fun _ => by trivial), I4, K4⟩
            case measure => simp [intOf]
        · obtain rfl : b1 = true := by
            rcases hb1.out with h | h
            · cases h
            · exact h
          obtain rfl : b2 = true := hb2.out rfl
          go_wp2_with fail
          go_ret
          exact ⟨rfl, hI.out, KW.out _ Bl.out⟩

theorem walk_any {S : Type} (F : FuncId) (caps : Array Value) (eg : ∀ args w, (callFunc F args).run Try.prog w = .ok (.enter F args) w) (Inv : S → World → Prop) (C : Nat → Prop) (step : S → ((Int × Int) × Value) → S × Bool) (OK : ((Int × Int) × Value) → Prop)
    (HINV : ∀ s W W', Inv s W → Below W.heap.size W W' → Inv s W')
    (KF : ∀ s e W, OK e → Inv s W → (∀ q, C q → q < W.heap.size) → Calls Try.prog F (#[.agg #[.int .u32 e.1.1, .int .i64 e.1.2], e.2] ++ caps) W fun e1 w' => e1 = .returned (.bool (step s e).2) ∧ Inv (step s e).1 w' ∧ Kept C W w') :
    ∀ (U : Tr) (x : Int) (n : Nat) (w : World) (s : S), In w U → (∀ q, q ∈ U.blocks → ¬ C q) → (∀ q, C q → q < w.heap.size) → Inv s w → rightB x n = true → 0 ≤ x → x < 4294967296 → n + U.height ≤ 33 → (∀ e, e ∈ entries U x n → OK e) →
    Calls Try.prog 57 #[U.ptr, .agg #[.int .u32 x, .int .i64 n], .func (.func F) #[] caps] w fun e w' => e = .returned (.bool (run step s (entries U x n)).2) ∧ Inv (run step s (entries U x n)).1 w' ∧ Kept C w w'
  | .nil, x, n, w, s, _, _, _, hI, _, _, _, _, _ => (walk_nil x n (.func (.func F) #[] caps) w).mono fun e w' ⟨he, hb⟩ => ⟨he, HINV s w w' hI hb, Kept.of_below hb⟩
  | .node b l r v hh, x, n, w, s, hin, hC, hCw, hI, hr, h0, h1, hht, hOK => by
    have ihl := fun x n w s => walk_any F caps eg Inv C step OK HINV KF l x n w s
    have ihr := fun x n w s => walk_any F caps eg Inv C step OK HINV KF r x n w s
    have hl : n + 1 + l.height ≤ 33 ∧ n + 1 + r.height ≤ 33 := by simp only [Tr.height] at hht; omega
    have hn32 : n ≤ 32 := by omega
    have cl : ∀ q, q ∈ l.blocks → ¬ C q := fun q hq => hC q (List.mem_cons_of_mem _ (List.mem_append_left _ hq))
    have cr : ∀ q, q ∈ r.blocks → ¬ C q := fun q hq => hC q (List.mem_cons_of_mem _ (List.mem_append_right _ hq))
    have e2 : ∀ e, e ∈ entries l x (n + 1) → OK e := fun e he => hOK e (List.mem_append_right _ (List.mem_append_left _ he))
    have e3 : ∀ e, e ∈ entries r (x + sz (n + 1)) (n + 1) → OK e := fun e he => hOK e (List.mem_append_right _ (List.mem_append_right _ he))
    obtain ⟨s0, b0, hs0⟩ : ∃ s0 b0, (s0, b0) = if hh then step s ((x, n), v) else (s, true) := ⟨_, _, rfl⟩
    obtain ⟨s1, b1, hs1⟩ : ∃ s1 b1, (s1, b1) = run step s0 (entries l x (n + 1)) := ⟨_, _, rfl⟩
    obtain ⟨s2, b2, hs2⟩ : ∃ s2 b2, (s2, b2) = run step s1 (entries r (x + sz (n + 1)) (n + 1)) := ⟨_, _, rfl⟩
    have hrun : run step s (entries (.node b l r v hh) x n) = (if b0 then if b1 then s2 else s1 else s0, b0 && b1 && b2) := by
      rw [entries, run_append]
      have hfirst : run step s (if hh then [((x, (n : Int)), v)] else []) = (s0, b0) := by
        rw [hs0]
        cases hh
        · rfl
        · simp only [if_true, run]
          by_cases h : (step s ((x, (n : Int)), v)).2 = true
          · rw [if_pos h]; exact Prod.ext rfl h.symm
          · rw [if_neg h]; exact Prod.ext rfl (by simpa using h)
      rw [hfirst]
      cases b0
      · simp
      · simp only [if_true]
        rw [run_append, ← hs1]
        cases b1
        · simp
        · simp only [if_true, Bool.true_and]
          rw [← hs2]
    rw [hrun]
    have KFH : Hid (∀ W, Inv s W → (∀ q, C q → q < W.heap.size) → hh = true → Calls Try.prog F (#[.agg #[.int .u32 x, .int .i64 n], v] ++ caps) W fun e w' => e = .returned (.bool b0) ∧ Inv s0 w' ∧ Kept C W w') := Lib.hid (fun W hW hc hht' => by
      subst hht'
      simp only [if_true] at hs0
      have := KF s ((x, (n : Int)), v) W (hOK _ (List.mem_append_left _ (List.mem_singleton.2 rfl))) hW hc
      rw [← hs0] at this
      exact this)
    have h00 : hh = false → b0 = true ∧ s0 = s := fun h => by
      subst h
      simp only [Bool.false_eq_true, if_false] at hs0
      exact ⟨congrArg Prod.snd hs0, congrArg Prod.fst hs0⟩
    by_cases h32 : n = 32
    · have hln : l = .nil := by cases l with | nil => rfl | node => simp only [Tr.height] at hl; omega
      have hrn : r = .nil := by cases r with | nil => rfl | node => simp only [Tr.height] at hl; omega
      subst hln hrn
      obtain ⟨x0, n0, e0, _, kh0⟩ := half_some x n 0 (.inl rfl) h0 h1
      obtain ⟨x1, n1, e1, _, kh1⟩ := half_some x n 1 (.inr rfl) h0 h1
      have a1 : s1 = s0 ∧ b1 = true := ⟨congrArg Prod.fst hs1, congrArg Prod.snd hs1⟩
      have a2 : s2 = s1 ∧ b2 = true := ⟨congrArg Prod.fst hs2, congrArg Prod.snd hs2⟩
      exact walk_step F caps eg Inv C b .nil .nil v hh x n w b0 b1 b2 s s0 s1 s2 (Lib.hid HINV) KFH h00 hin hC hCw hI x0 n0 e0 x1 n1 e1 (Lib.hid kh0) (Lib.hid kh1)
        (Lib.hid (fun W _ hW _ => by rw [a1.1, a1.2]; exact (walk_nil x0 n0 _ W).mono fun e w' ⟨he, hb⟩ => ⟨he, HINV _ _ _ hW hb, Kept.of_below hb⟩))
        (Lib.hid (fun W _ hW _ => by rw [a2.1, a2.2]; exact (walk_nil x1 n1 _ W).mono fun e w' ⟨he, hb⟩ => ⟨he, HINV _ _ _ hW hb, Kept.of_below hb⟩))
    · obtain ⟨r1, r2, -, -⟩ := right_mono hr (by omega)
      have hb := (half_bits x n h0 h1 (by omega) (by omega) (rightB_iff.1 hr).2.2).2
      have hsz := sz_pos ((n : Int) + 1)
      have kh0 := fun W => ip1.half_yes x n 0 W h0 h1 hr (by omega)
      have kh1 := fun W => ip1.half_yes x n 1 W h0 h1 hr (by omega)
      rw [show ip1.halfI x n 0 = x from rfl] at kh0
      rw [show ip1.halfI x n 1 = x + sz ((n : Int) + 1) from rfl] at kh1
      exact walk_step F caps eg Inv C b l r v hh x n w b0 b1 b2 s s0 s1 s2 (Lib.hid HINV) KFH h00 hin hC hCw hI x (n + 1) 0 (x + sz ((n : Int) + 1)) (n + 1) 0 (Lib.hid kh0) (Lib.hid kh1)
        (Lib.hid (fun W hW hIW hcW => by
          have := ihl x (n + 1) W s0 hW cl hcW hIW r1 h0 h1 hl.1 e2
          rw [show ((n + 1 : Nat) : Int) = (n : Int) + 1 from rfl] at this
          rw [← hs1] at this
          exact this))
        (Lib.hid (fun W hW hIW hcW => by
          have := ihr (x + sz ((n : Int) + 1)) (n + 1) W s1 hW cr hcW hIW r2 (by omega) hb hl.2 e3
          rw [show ((n + 1 : Nat) : Int) = (n : Int) + 1 from rfl] at this
          rw [← hs2] at this
          exact this))
set_option maxRecDepth 100000 in
set_option maxHeartbeats 2000000 in
theorem below_any {S : Type} (F : FuncId) (caps : Array Value) (eg : ∀ args w, (callFunc F args).run Try.prog w = .ok (.enter F args) w) (Inv : S → World → Prop) (C : Nat → Prop) (step : S → ((Int × Int) × Value) → S × Bool) (OK : ((Int × Int) × Value) → Prop)
    (HINV : ∀ s W W', Inv s W → Below W.heap.size W W' → Inv s W')
    (KF : ∀ s e W, OK e → Inv s W → (∀ q, C q → q < W.heap.size) → Calls Try.prog F (#[.agg #[.int .u32 e.1.1, .int .i64 e.1.2], e.2] ++ caps) W fun e1 w' => e1 = .returned (.bool (step s e).2) ∧ Inv (step s e).1 w' ∧ Kept C W w')
    (t : Nat) (T : Tr) (m c : Int) (x : Int) (n : Nat) (w : World) (s : S) (hT : Tri w t T m c) (hd : T.height ≤ 33) (hC : ∀ q, own t T q → ¬ C q) (hCw : ∀ q, C q → q < w.heap.size) (hI : Inv s w) (hr : rightB x n = true) (h0 : 0 ≤ x) (h1 : x < 4294967296) (hht : n + (T.sub (path x n)).height ≤ 33) (hOK : ∀ e, e ∈ entries (T.sub (path x n)) x n → OK e) :
    Calls Try.prog 52 #[.pointer (some ⟨t, 0, none⟩), .agg #[.int .u32 x, .int .i64 n], .func (.func F) #[] caps] w fun e w' => e = .returned (.tuple #[]) ∧ Inv (run step s (entries (T.sub (path x n)) x n)).1 w' ∧ Kept C w w' := by
  have hn : n ≤ 32 := by have := (rightB_iff.1 hr).2.1; omega
  have ba := (Below.refl w.heap.size w).alloc (Nat.le_refl _) (.cells #[.int .u32 x, .int .i64 n] 30)
  obtain ⟨V, hV⟩ : ∃ V, V = w.alloc (.cells #[.int .u32 x, .int .i64 n] 30) := ⟨_, rfl⟩
  rw [← hV] at ba
  have q0 : V.cell? ⟨w.heap.size, 0, none⟩ = some (.int .u32 x) := by rw [hV]; exact aid.new2a _ _ _ _
  have q1 : V.cell? ⟨w.heap.size, 1, none⟩ = some (.int .i64 n) := by rw [hV]; exact aid.new2b _ _ _ _
  have nw : ¬ C w.heap.size := fun h => Nat.lt_irrefl _ (hCw _ h)
  have HP0 := Lib.hid (show ∀ W, Kept C V W → W.cell? ⟨w.heap.size, 0, none⟩ = some (.int .u32 x) from fun W h => Kept.cell h q0 nw)
  have HP1 := Lib.hid (show ∀ W, Kept C V W → W.cell? ⟨w.heap.size, 0 + 1, none⟩ = some (.int .i64 n) from fun W h => Kept.cell h q1 nw)
  have TV := hT.below ba
  have ku := fun W (hb : Below V.heap.size V W) => under_any t T m c x n W (TV.below hb) h0 h1 hn hr
  have kw := fun W (hb : Below V.heap.size V W) => walk_any F caps eg Inv C step OK HINV KF (T.sub (path x n)) x n W s (in_sub (TV.below hb).tin _) (fun q hq => hC q (.inr (Tr.sub_blocks hq))) (fun q hq => Nat.lt_of_lt_of_le (hCw q hq) (Nat.le_trans ba.size hb.size)) (HINV _ _ _ (HINV _ _ _ hI ba) hb) hr h0 h1 hht hOK
  obtain ⟨pl, hpl⟩ : ∃ p, (T.sub (path x n)).ptr = .pointer p := by cases T.sub (path x n) <;> exact ⟨_, rfl⟩
  rw [hpl] at ku kw
  obtain ⟨sr, hsr⟩ : ∃ sr, sr = run step s (entries (T.sub (path x n)) x n) := ⟨_, rfl⟩
  rw [← hsr] at kw ⊢
  have KU := Lib.hid ku
  have KW := Lib.hid kw
  have HV := Lib.hid hV
  have HB := Lib.hid ba
  have Q := neq_nilC F caps
  clear ba hV TV ku kw hpl hT hsr q0 q1 nw hOK hht hI hC hCw hd KF HINV hr h0 h1 hn eg
  go_enter Try.func52, Try.ntmps52
  go_wp2_with fail
  rw [← HV.out]
  refine wp_region_noPanic ?_
  refine wp_region_held_drew (S := fun W => Kept C V W) (by kernel_rfl) ((Kept.refl _ _).drew) (fun hSx => ?_)
  change wpAnyH _ _ _ _ _ 6 _ _ _
  have hS0 : Kept C V V.drew := hSx
  clear hSx
  refine wpAnyH_take (i := 0) (v := .pointer (some ⟨t, 0, none⟩)) rfl (by kernel_rfl) (by kernel_rfl) (by kernel_rfl) (fun _ _ _ h => h) (.inl ⟨rfl, fun _ _ => rfl⟩) hS0 ?_
  try simp only [Act.put, List.setIfInBounds_toArray, List.set_cons_zero, List.set_cons_succ, List.getElem_toArray, List.getElem_cons_zero, List.getElem_cons_succ]
  refine wpAnyH_take (i := 1) (v := .agg #[.int .u32 x, .int .i64 n]) rfl (by kernel_rfl) (by kernel_rfl) (by kernel_rfl) (fun _ _ _ h => h) (trdrop.yields_pfx rfl (.tmp 4) rfl w.heap.size 0 rfl _ _ HP0.out HP1.out) hS0 ?_
  try simp only [Act.put, List.setIfInBounds_toArray, List.set_cons_zero, List.set_cons_succ, List.getElem_toArray, List.getElem_cons_zero, List.getElem_cons_succ]
  refine wpAnyH_take (i := 3) (v := .agg #[.int .u32 x, .int .i64 n]) rfl (by kernel_rfl) (by kernel_rfl) (by kernel_rfl) (fun _ _ _ h => h) (trdrop.yields_pfx rfl (.tmp 4) rfl w.heap.size 0 rfl _ _ HP0.out HP1.out) hS0 ?_
  try simp only [Act.put, List.setIfInBounds_toArray, List.set_cons_zero, List.set_cons_succ, List.getElem_toArray, List.getElem_cons_zero, List.getElem_cons_succ]
  refine wpAnyH_take (i := 4) (v := .func (.func F) #[] caps) rfl (by kernel_rfl) (by kernel_rfl) (by kernel_rfl) (fun _ _ _ h => h) (.inl ⟨rfl, fun _ _ => rfl⟩) hS0 ?_
  try simp only [Act.put, List.setIfInBounds_toArray, List.set_cons_zero, List.set_cons_succ, List.getElem_toArray, List.getElem_cons_zero, List.getElem_cons_succ]
  refine wpAnyH_ready (rs := [2]) (by kernel_rfl) (by simp) ?_
  refine AllReadyH.cons rfl (fun K hK => ?_) AllReadyH.nil
  go_simp
  refine (KU.out _ (Below.refl _ _).drew).mono ?_
  rintro e0 w2 ⟨rfl, hb2⟩
  have hS1 : Kept C V w2 := Kept.then (show Kept C V V.drew from hS0) hb2
  have bV2 : Below V.heap.size V w2 := (show Below V.heap.size V V.drew from (Below.refl _ _).drew).trans hb2
  go_wp2_with fail
  refine hK.out _ _ hS1 (fun _ => ?_)
  clear hK K
  try simp only [Act.put, List.setIfInBounds_toArray, List.set_cons_zero, List.set_cons_succ, List.getElem_toArray, List.getElem_cons_zero, List.getElem_cons_succ]
  refine wpAnyH_ready (rs := [5]) (by kernel_rfl) (by simp) ?_
  refine AllReadyH.cons rfl (fun K hK => ?_) AllReadyH.nil
  go_simp
  refine (KW.out _ bV2).mono ?_
  rintro e0 w3 ⟨rfl, hi3, hk3⟩
  have hS2 : Kept C V w3 := Kept.trans hS1 hk3 (fun _ _ h => h)
  go_wp2_with fail
  refine hK.out _ _ hS2 (fun _ => ?_)
  clear hK K
  try simp only [Act.put, List.setIfInBounds_toArray, List.set_cons_zero, List.set_cons_succ, List.getElem_toArray, List.getElem_cons_zero, List.getElem_cons_succ]
  refine wpAnyH_done (by kernel_rfl) ?_ _
  refine NoPanic.normal ?_
  have KF2 := Lib.hid (show Kept C w w3 from (Kept.of_below (may := C) HB.out).trans hS2 (fun _ _ h => h))
  have I3 := Lib.hid hi3
  clear hS0 hS1 hS2 hk3 hi3 hb2 bV2
  go_wp2_with fail
  go_end0
  exact ⟨rfl, I3.out, KF2.out⟩
theorem all_any {S : Type} (F : FuncId) (caps : Array Value) (eg : ∀ args w, (callFunc F args).run Try.prog w = .ok (.enter F args) w) (Inv : S → World → Prop) (C : Nat → Prop) (step : S → ((Int × Int) × Value) → S × Bool) (OK : ((Int × Int) × Value) → Prop)
    (HINV : ∀ s W W', Inv s W → Below W.heap.size W W' → Inv s W')
    (KF : ∀ s e W, OK e → Inv s W → (∀ q, C q → q < W.heap.size) → Calls Try.prog F (#[.agg #[.int .u32 e.1.1, .int .i64 e.1.2], e.2] ++ caps) W fun e1 w' => e1 = .returned (.bool (step s e).2) ∧ Inv (step s e).1 w' ∧ Kept C W w')
    (t : Nat) (T : Tr) (m c : Int) (w : World) (s : S) (hT : Tri w t T m c) (hd : T.height ≤ 33) (hC : ∀ q, own t T q → ¬ C q) (hCw : ∀ q, C q → q < w.heap.size) (hI : Inv s w) (hOK : ∀ e, e ∈ entries T 0 0 → OK e) :
    Calls Try.prog 35 #[.pointer (some ⟨t, 0, none⟩), .func (.func F) #[] caps] w fun e w' => e = .returned (.tuple #[]) ∧ Inv (run step s (entries T 0 0)).1 w' ∧ Kept C w w' := by
  have K := Lib.hid (below_any F caps eg Inv C step OK HINV KF t T m c 0 0 w s hT hd hC hCw hI (by kernel_rfl) (by decide) (by decide) (show 0 + T.height ≤ 33 by omega) hOK)
  obtain ⟨sr, hsr⟩ : ∃ sr, sr = run step s (entries T 0 0) := ⟨_, rfl⟩
  have K2 := Lib.hid (show Calls Try.prog 52 #[.pointer (some ⟨t, 0, none⟩), .agg #[.int .u32 0, .int .i64 0], .func (.func F) #[] caps] w fun e w' => e = .returned (.tuple #[]) ∧ Inv sr.1 w' ∧ Kept C w w' by rw [hsr]; exact K.out)
  rw [← hsr]
  clear hT hd hC hCw hI hOK K hsr KF HINV eg
  go_enter Try.func35, Try.ntmps35
  go_wp2_with fail
  refine (K2.out).mono ?_
  rintro e w1 ⟨rfl, hi, hk⟩
  have I := Lib.hid hi
  have KK := Lib.hid hk
  clear hi hk
  go_wp2_with fail
  go_end0
  exact ⟨rfl, I.out, KK.out⟩

end Go.Proofs.Ytfealajbibofiaa.tbwalk
