import Derived.Test.YthcbhehdilaejaaCkOps
/- Where a name stands. -/
set_option linter.unusedVariables false
set_option linter.unusedSimpArgs false
namespace Go.Proofs.Ythcbhehdilaejaa.ck
open Go.RowKit Go.Lib Go.Proofs.Ythcbhehdilaejaa.ckmath

set_option maxRecDepth 100000 in
theorem find1_any (x1 x2 name : Int) (b : Nat) (w : World) (hb : w.cell? ⟨b, 0, none⟩ = some (.int .i64 name)) : Calls Try.prog 21 #[.agg #[.int .i64 x1, .int .i64 x2], .pointer (some ⟨b, 0, none⟩)] w fun e w' => e = .returned (.bool (decide (x2 = name))) ∧ Below w.heap.size w w' := by
  have BA := Lib.hid ((Below.refl w.heap.size w).alloc (Nat.le_refl _) (.cells #[.int .i64 x1, .int .i64 x2] 48))
  have hb2 := aid.ca (.cells #[.int .i64 x1, .int .i64 x2] 48) hb
  by_cases h : x2 = name
  · subst h
    have hd : decide (x2 = x2) = true := decide_eq_true rfl
    have he : (x2 == x2) = true := by simp
    rw [hd]
    go_enter Try.func21, Try.ntmps21
    go_wp2_with fail
    go_ret
    exact ⟨rfl, BA.out⟩
  · have hd : decide (x2 = name) = false := decide_eq_false h
    have he : (x2 == name) = false := by simp [h]
    rw [hd]
    go_enter Try.func21, Try.ntmps21
    go_wp2_with fail
    go_ret
    exact ⟨rfl, BA.out⟩

/-- where the first of a name stands, from k on; -1: nowhere -/
def findN (l : Array E) (name : Int) (r : Int) (k : Nat) : Prop := (∃ i : Nat, r = i ∧ k ≤ i ∧ i < l.size ∧ l[i]!.2 = name) ∨ (r = -1 ∧ ∀ i, k ≤ i → i < l.size → l[i]!.2 ≠ name)
set_option maxRecDepth 100000 in
set_option maxHeartbeats 1000000 in
theorem index_any {w : World} {B c : Nat} {v : Value} {now : Int} {l : Array E} (hp : Hp w B c v now l) (name : Int) (b : Nat) (hb : w.cell? ⟨b, 0, none⟩ = some (.int .i64 name)) (hm : l.size ≤ 1000) :
    Calls Try.prog 20 #[v, .func (.func 21) #[] #[.pointer (some ⟨b, 0, none⟩)]] w fun e w' => ∃ r, e = .returned (.int .i64 r) ∧ findN l name r 0 ∧ Below w.heap.size w w' := by
  obtain ⟨a, cap, hv⟩ := hp.shape
  have RW : ∀ k, k < l.size → ∃ g, a = some ⟨g, 0, none⟩ ∧ w.cell? ⟨g, k * 2, none⟩ = some (.int .i64 l[k]!.1) ∧ w.cell? ⟨g, k * 2 + 1, none⟩ = some (.int .i64 l[k]!.2) := fun k hk => by
    obtain ⟨g, cap', e, _⟩ := hp.form (by omega)
    have ow := hp.own
    rw [e] at ow
    obtain ⟨c0, c1⟩ := (own2_row ow).2 k hk
    rw [hv] at e
    simp only [Value.slice.injEq] at e
    exact ⟨g, e.1, c0, c1⟩
  subst hv
  obtain ⟨N, hN⟩ : ∃ N, N = l.size := ⟨_, rfl⟩
  rw [← hN] at hm ⊢
  have HR := Lib.hid RW
  have HN := Lib.hid hN
  clear hp RW hN
  go_enter Try.func20, Try.ntmps20
  go_wp2_with fail
  go_loopw [8] (fun s8 wr => ∃ k : Nat, k ≤ N ∧ s8 = .int .i64 k ∧ Hid (∀ i, i < k → l[i]!.2 ≠ name) ∧ Hid (Below w.heap.size w wr)) (fun s8 _ => N - (intOf s8).toNat)
  case atStart => exact ⟨0, by omega, rfl, Lib.hid (fun i hi => by omega), Lib.hid (Below.refl _ _)⟩
  case round =>
    obtain ⟨k, hk, rfl, NO, Bl⟩ := hrel
    by_cases hlt : k < N
    · obtain ⟨g, rfl, k0, k1⟩ := HR.out k (by rw [← HN.out]; exact hlt)
      have hb1 := (Bl.out.cell (World.block_lt_of_cell? _ _ hb)).trans hb
      have g0 := (Bl.out.cell (World.block_lt_of_cell? _ _ k0)).trans k0
      have g1 := (Bl.out.cell (World.block_lt_of_cell? _ _ k1)).trans k1
      clear k0 k1
      obtain ⟨⟨x1, x2⟩, hx⟩ : ∃ x, x = l[k]! := ⟨_, rfl⟩
      rw [← hx] at g0 g1
      dsimp only at g0 g1
      have HX := Lib.hid hx
      have K1 := Lib.hid (find1_any x1 x2 name b wr hb1)
      have hlt2 : (k : Int) < (N : Int) := by omega
      clear hx
      by_cases h : x2 = name
      · rw [decide_eq_true h] at K1
        have H := Lib.hid h
        clear h
        go_wp2_with fail
        refine K1.out.mono ?_
        rintro e w1 ⟨rfl, hb9⟩
        have B9 := Lib.hid (aid.kb hb9 Bl.out)
        clear hb9
        go_wp2_with fail
        go_ret
        exact ⟨_, rfl, .inl ⟨k, rfl, Nat.zero_le _, by rw [← HN.out]; exact hlt, by rw [← HX.out]; exact H.out⟩, B9.out⟩
      · rw [decide_eq_false h] at K1
        have H := Lib.hid h
        clear h
        go_wp2_with fail
        refine K1.out.mono ?_
        rintro e w1 ⟨rfl, hb9⟩
        have B9 := Lib.hid (aid.kb hb9 Bl.out)
        have N9 : Hid (∀ i, i < k + 1 → l[i]!.2 ≠ name) := Lib.hid fun i hi => by
          by_cases e : i = k
          · subst e; rw [← HX.out]; exact H.out
          · exact NO.out i (by omega)
        clear hb9
        go_wp2_with fail
        go_roundw
        case rel => exact ⟨k + 1, by omega, by go_num, N9, B9⟩
        case measure => simp [intOf]; omega
    · have hk' : k = N := by omega
      subst hk'
      go_wp2_with fail
      go_ret
      exact ⟨_, rfl, .inr ⟨rfl, fun i _ hi => NO.out i (by rw [HN.out]; exact hi)⟩, Bl.out⟩
set_option maxRecDepth 100000 in
theorem find_any {w : World} {B c : Nat} {v : Value} {now : Int} {l : Array E} (hp : Hp w B c v now l) (name : Int) (hm : l.size ≤ 1000) :
    Calls Try.prog 15 #[v, .int .i64 name] w fun e w' => ∃ r, e = .returned (.int .i64 r) ∧ findN l name r 0 ∧ Below w.heap.size w w' := by
  have HP := hp.below ((Below.refl w.heap.size w).alloc (Nat.le_refl _) (.cells #[.int .i64 name] 3))
  have K := Lib.hid (index_any HP name w.heap.size (World.cell?_alloc_at _ _ _ _ rfl) hm)
  have BA := Lib.hid ((Below.refl w.heap.size w).alloc (Nat.le_refl _) (.cells #[.int .i64 name] 3))
  clear hp HP
  go_enter Try.func15, Try.ntmps15
  go_wp2_with fail
  refine K.out.mono ?_
  rintro e w1 ⟨r, rfl, hf, hb9⟩
  have B9 := Lib.hid (aid.kb hb9 BA.out)
  have F9 := Lib.hid hf
  clear hb9 hf
  go_wp2_with fail
  go_ret
  exact ⟨_, rfl, F9.out, B9.out⟩
end Go.Proofs.Ythcbhehdilaejaa.ck
