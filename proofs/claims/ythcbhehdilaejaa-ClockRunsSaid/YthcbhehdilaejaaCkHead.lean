import Derived.Test.YthcbhehdilaejaaCkNext
/- The document's example. -/
set_option linter.unusedVariables false
set_option linter.unusedSimpArgs false
namespace Go.Proofs.Ythcbhehdilaejaa.ck
open Go.RowKit Go.Lib Go.Proofs.Ythcbhehdilaejaa.ckmath

theorem ck_below {w w' : World} {B c : Nat} {v v' : Value} {now : Int} {L : List E} (h : Tr w c v w' v') (H : Ck w B c v now L) (hB : B ≤ w.heap.size) : Below B w w' := by
  obtain ⟨l, h1, _⟩ := H.ex
  exact h.below h1.hp hB

set_option maxRecDepth 100000 in
set_option maxHeartbeats 2000000 in
theorem head_true (w : World) : Calls Try.prog 7 #[] w fun e w' => e = .returned (.bool true) ∧ Below w.heap.size w w' := by
  have K0 := Lib.hid (new_any w.heap.size w (Nat.le_refl _))
  go_enter Try.func7, Try.ntmps7
  go_wp2_with fail
  refine K0.out.mono ?_
  rintro e w1 ⟨rfl, c1, b1⟩
  have B1 := Lib.hid b1
  have C1 := Lib.hid c1
  have K1 := Lib.hid (set_new c1 (name := 5) (fun x hx => by cases hx) (by decide) 10 (by decide) (by decide))
  clear b1 c1 K0
  go_wp2_with fail
  refine K1.out.mono ?_
  rintro e w2 ⟨rfl, v2, c2, t2⟩
  have T2 := Lib.hid t2
  have K2 := Lib.hid (set_new c2 (name := 3) (fun x hx => by simp at hx; subst hx; decide) (by decide) 10 (by decide) (by decide))
  clear t2 c2 K1
  go_wp2_with fail
  refine K2.out.mono ?_
  rintro e w3 ⟨rfl, v3, c3, t3⟩
  have T3 := Lib.hid (T2.out.trans t3)
  have K3 := Lib.hid (set_new c3 (name := 4) (fun x hx => by simp at hx; rcases hx with rfl | rfl <;> decide) (by decide) 7 (by decide) (by decide))
  clear t3 c3 K2 T2
  go_wp2_with fail
  refine K3.out.mono ?_
  rintro e w4 ⟨rfl, v4, c4, t4⟩
  have T4 := Lib.hid (T3.out.trans t4)
  have A4 := (Below.refl w4.heap.size w4).alloc (Nat.le_refl _) (.cells #[.int .i64 4, .int .i64 3, .int .i64 5] 3)
  have T5 := Lib.hid (T4.out.then A4)
  have K4 := Lib.hid (next_some (c4.below A4) (fun y hy => by simp at hy; rcases hy with rfl | rfl <;> decide) 20 (by decide) (by decide) (by decide))
  have q0 : (w4.alloc (.cells #[.int .i64 4, .int .i64 3, .int .i64 5] 3)).cell? ⟨w4.heap.size, 0, none⟩ = some (.int .i64 4) := World.cell?_alloc_at _ _ _ _ rfl
  have q1 : (w4.alloc (.cells #[.int .i64 4, .int .i64 3, .int .i64 5] 3)).cell? ⟨w4.heap.size, 1, none⟩ = some (.int .i64 3) := World.cell?_alloc_at _ _ _ _ rfl
  have q2 : (w4.alloc (.cells #[.int .i64 4, .int .i64 3, .int .i64 5] 3)).cell? ⟨w4.heap.size, 2, none⟩ = some (.int .i64 5) := World.cell?_alloc_at _ _ _ _ rfl
  have NM : Hid (¬ mine w.heap.size v4 w4.heap.size) := Lib.hid fun hm => by
    obtain ⟨l, h, _⟩ := c4.ex
    have := (h.hp.ownLt hm).2
    omega
  clear t4 c4 K3 T3 T4 A4
  go_wp2_with fail
  refine wp_loop_rounds 4 ?_
  rw [rounds_succ]
  go_wp2_with fail
  refine K4.out.mono ?_
  rintro e w5 ⟨rfl, v5, c5, t5⟩
  have p1 := t5.kept.cell q1 NM.out
  have p2 := t5.kept.cell q2 NM.out
  have T6 := Lib.hid (T5.out.trans t5)
  have K5 := Lib.hid (next_some (c5.perm (M := [(10, 3), (10, 5)]) (List.Perm.refl _)) (fun y hy => by simp at hy; subst hy; decide) 20 (by decide) (by decide) (by decide))
  have NM2 : Hid (¬ mine w.heap.size v5 w4.heap.size) := Lib.hid fun hm => by
    rcases t5.fresh _ hm with h | h
    · exact NM.out h
    · have : w4.heap.size < (w4.alloc (.cells #[.int .i64 4, .int .i64 3, .int .i64 5] 3)).heap.size := by simp
      omega
  have lt5 : Hid (w4.heap.size < w5.heap.size) := Lib.hid (World.block_lt_of_cell? _ _ p1)
  clear t5 c5 K4 T5 q0 q1 q2
  go_wp2_with fail
  rw [rounds_succ]
  go_wp2_with fail
  refine K5.out.mono ?_
  rintro e w6 ⟨rfl, v6, c6, t6⟩
  have p3 := t6.kept.cell p2 NM2.out
  have T7 := Lib.hid (T6.out.trans t6)
  have K6 := Lib.hid (next_some (c6.perm (M := [(10, 5)]) (List.Perm.refl _)) (fun y hy => by cases hy) 20 (by decide) (by decide) (by decide))
  clear t6 c6 K5 T6 p1 p2
  go_wp2_with fail
  rw [rounds_succ]
  go_wp2_with fail
  refine K6.out.mono ?_
  rintro e w7 ⟨rfl, v7, c7, t7⟩
  have T8 := Lib.hid (T7.out.trans t7)
  have K7 := Lib.hid (next_empty c7 20 (by decide) (by decide))
  clear t7 c7 K6 T7 p3
  go_wp2_with fail
  rw [rounds_succ]
  go_wp2_with fail
  refine K7.out.mono ?_
  rintro e w8 ⟨rfl, c8, t8⟩
  have BF := Lib.hid (B1.out.trans ((ck_below (T8.out.trans t8) C1.out B1.out.size)))
  have K8 := Lib.hid (now_any c8)
  have K9 := Lib.hid (clen_any c8 0 rfl)
  clear t8 c8 K7 T8
  go_wp2_with fail
  refine K8.out.mono ?_
  rintro e w9 ⟨rfl, rfl⟩
  go_wp2_with fail
  refine K9.out.mono ?_
  rintro e w9 ⟨rfl, rfl⟩
  go_wp2_with fail
  go_ret
  exact ⟨rfl, BF.out⟩
end Go.Proofs.Ythcbhehdilaejaa.ck
