import Derived.Test.YthcbhehdilaejaaCkRow
/- Two entries held against each other. -/
set_option linter.unusedVariables false
set_option linter.unusedSimpArgs false
namespace Go.Proofs.Ythcbhehdilaejaa.ck
open Go.RowKit Go.Lib Go.Proofs.Ythcbhehdilaejaa.ckmath

def Row2 (W : World) (g : Nat) (l : Array E) : Prop := ∀ k, k < l.size → W.cell? ⟨g, k * 2, none⟩ = some (.int .i64 l[k]!.1) ∧ W.cell? ⟨g, k * 2 + 1, none⟩ = some (.int .i64 l[k]!.2)
theorem lt_cmp (x y : E) : decide ((if cmpI x.1 y.1 = 0 then cmpI x.2 y.2 else cmpI x.1 y.1) < 0) = ltE x y := by
  unfold cmpI
  rcases h : ltE x y with _ | _
  · rw [geE_iff] at h
    simp only [decide_eq_false_iff_not]
    split <;> split <;> (try split) <;> omega
  · rw [ltE_iff] at h
    simp only [decide_eq_true_eq]
    split <;> split <;> (try split) <;> omega
set_option maxRecDepth 100000 in
set_option maxHeartbeats 1000000 in
theorem less_any (g n cap : Nat) (l : Array E) (i j : Nat) (w : World) (hN : n = l.size) (R : Row2 w g l) (hi : i < n) (hj : j < n) (hm : n ≤ 1000) :
    Calls Try.prog 41 #[.slice (some ⟨g, 0, none⟩) n cap, .int .i64 i, .int .i64 j] w fun e w' => e = .returned (.bool (ltE l[i]! l[j]!)) ∧ Below w.heap.size w w' := by
  obtain ⟨a0, a1⟩ := R i (hN ▸ hi)
  obtain ⟨b0, b1⟩ := R j (hN ▸ hj)
  obtain ⟨⟨x1, x2⟩, hx⟩ : ∃ x, x = l[i]! := ⟨_, rfl⟩
  obtain ⟨⟨y1, y2⟩, hy⟩ : ∃ y, y = l[j]! := ⟨_, rfl⟩
  rw [← hx] at a0 a1 ⊢
  rw [← hy] at b0 b1 ⊢
  dsimp only at a0 a1 b0 b1
  have L := Lib.hid (lt_cmp (x1, x2) (y1, y2))
  dsimp only at L
  obtain ⟨r, hr⟩ : ∃ r, r = ltE (x1, x2) (y1, y2) := ⟨_, rfl⟩
  rw [← hr] at L ⊢
  obtain ⟨p, hp⟩ : ∃ p, p = cmpI x1 y1 := ⟨_, rfl⟩
  obtain ⟨q, hq⟩ : ∃ q, q = cmpI x2 y2 := ⟨_, rfl⟩
  have K1 := Lib.hid (fun W : World => cmp_any x1 y1 W)
  have K2 := Lib.hid (fun W : World => cmp_any x2 y2 W)
  rw [← hp] at K1 L
  rw [← hq] at K2 L
  have A0 := aid.keep_cell a0
  have A1 := aid.keep_cell a1
  have B0 := aid.keep_cell b0
  have B1 := aid.keep_cell b1
  have i1 : (0 : Int) ≤ (i : Int) := by omega
  have i2 : (i : Int) < (n : Int) := by omega
  have j1 : (0 : Int) ≤ (j : Int) := by omega
  have j2 : (j : Int) < (n : Int) := by omega
  clear R hx hy hr hp hq hN
  go_enter Try.func41, Try.ntmps41
  go_wp2_with fail
  refine tail.wp_region_keep_tail 22 (by kernel_rfl) (by kernel_rfl) ?_
  simp only [List.take_succ_cons, List.take_zero, List.drop_succ_cons, List.drop_zero]
  repeat (go_big_quiet_step (((go_at_call 44; first | ((with_reducible exact aid.keep_same (K1.out _))) | ((with_reducible exact aid.keep_same (K2.out _)))))))
  refine wpQuiet_nil ?_
  rintro _ ⟨s, rfl⟩
  have KO := Lib.hid (or_any s.world.heap.size p q (s.world.alloc (.cells #[.int .i64 p, .int .i64 q] 3)) (aid.new2a _ _ _ _) (aid.new2b _ _ _ _))
  obtain ⟨z, hz⟩ : ∃ z, z = (if p = 0 then q else p) := ⟨_, rfl⟩
  rw [← hz] at KO L
  clear hz
  have BA := Lib.hid (s.below.alloc s.below.size (.cells #[.int .i64 p, .int .i64 q] 3))
  go_wp2_with fail
  refine KO.out.mono ?_
  rintro e v1 ⟨rfl, rfl⟩
  go_wp2_with fail
  go_ret
  exact ⟨by rw [← L.out]; rfl, BA.out⟩
end Go.Proofs.Ythcbhehdilaejaa.ck
