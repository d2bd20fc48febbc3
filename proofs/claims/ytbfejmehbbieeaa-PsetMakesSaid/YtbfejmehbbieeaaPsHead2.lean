import Derived.Test.YtbfejmehbbieeaaPsHead1
/- The example at the head of every law of sets holds. -/
set_option linter.unusedVariables false
set_option linter.unusedSimpArgs false
namespace Go.Proofs.Ytbfejmehbbieeaa.pshead
open Go.RowKit Go.Shelf Go.Lib Go.Sort Go.Proofs.Ytbfejmehbbieeaa.math1 Go.Proofs.Ytbfejmehbbieeaa.pscmp Go.Proofs.Ytbfejmehbbieeaa.psfind Go.Proofs.Ytbfejmehbbieeaa.pssort Go.Proofs.Ytbfejmehbbieeaa.psuniq Go.Proofs.Ytbfejmehbbieeaa.pscompact Go.Proofs.Ytbfejmehbbieeaa.psof Go.Proofs.Ytbfejmehbbieeaa.psask Go.Proofs.Ytbfejmehbbieeaa.psplaces Go.Proofs.Ytbfejmehbbieeaa.psgroup Go.Proofs.Ytbfejmehbbieeaa.pssame

set_option maxRecDepth 100000 in
set_option maxHeartbeats 1000000 in
theorem head_true (w : World) : Calls Try.prog 9 #[] w fun e w' => e = .returned (.bool true) ∧ Below w.heap.size w w' := by
  have KA := Lib.hid at_any
  have K1 := Lib.hid (of_lit #[q 3, q 1, q 2, q 1] #[q 1, q 2, q 3] 4 3 rfl rfl (by decide) mk1 (by decide) ok1)
  have K2 := Lib.hid (of_lit #[q 1, q 2] #[q 1, q 2] 2 2 rfl rfl (by decide) mk2 (by decide) ok2)
  have K3 := Lib.hid (of_lit #[q 2] #[q 2] 1 1 rfl rfl (by decide) mk3 (by decide) ok3)
  have K4 := Lib.hid (of_lit #[q 1, q 3] #[q 1, q 3] 2 2 rfl rfl (by decide) mk4 (by decide) ok4)
  have LR := Lib.hid (fun W t cs d h => lit_row W t cs d h)
  go_enter Try.func9, Try.ntmps9
  go_wp2_with fail
  refine (KA.out 3 (by decide) (by decide) _).mono ?_
  rintro e a1 ⟨rfl, b1⟩
  go_wp2_with fail
  refine (KA.out 1 (by decide) (by decide) _).mono ?_
  rintro e a2 ⟨rfl, b2⟩
  go_wp2_with fail
  refine (KA.out 2 (by decide) (by decide) _).mono ?_
  rintro e a3 ⟨rfl, b3⟩
  go_wp2_with fail
  refine (KA.out 1 (by decide) (by decide) _).mono ?_
  rintro e a4 ⟨rfl, b4⟩
  have t1 := (aid.kb b4 (aid.kb b3 (aid.kb b2 b1)))
  have B1 := Lib.hid (t1)
  clear t1 b1 b2 b3 b4
  have R1 := Lib.hid (LR.out a4 26 #[.int .u32 50331648, .int .i64 8, .int .u32 16777216, .int .i64 8, .int .u32 33554432, .int .i64 8, .int .u32 16777216, .int .i64 8] #[q 3, q 1, q 2, q 1] ((fl_of [q 3, q 1, q 2, q 1]).symm ▸ rfl))
  have BA1 := Lib.hid ((Below.refl a4.heap.size a4).alloc (Nat.le_refl _) (.cells #[.int .u32 50331648, .int .i64 8, .int .u32 16777216, .int .i64 8, .int .u32 33554432, .int .i64 8, .int .u32 16777216, .int .i64 8] 26))
  go_wp2_with fail
  refine (K1.out _ _ _ (by simp) R1.out).mono ?_
  rintro e c1 ⟨⟨g1, o1, q1, rfl, r1, l1⟩, d1⟩
  have u1 := aid.kb d1 BA1.out
  have y1 : Below c1.heap.size c1 (c1.alloc (.cells #[.slice (some ⟨g1, o1, none⟩) 3 q1] 29)) := (Below.refl _ _).alloc (Nat.le_refl _) _
  have BV1 := Lib.hid (aid.kb y1 (aid.kb u1 B1.out))
  have v1 := Lib.hid (Var.new (m := 3) (cap := q1) c1 29 r1 l1)
  clear u1 y1 r1 l1 d1
  go_wp2_with fail
  refine (KA.out 1 (by decide) (by decide) _).mono ?_
  rintro e a5 ⟨rfl, b5⟩
  go_wp2_with fail
  refine (KA.out 2 (by decide) (by decide) _).mono ?_
  rintro e a6 ⟨rfl, b6⟩
  have t2 := (aid.kb b6 b5)
  have B2 := Lib.hid (aid.kb t2 BV1.out)
  have v1a := Lib.hid (v1.out.below t2)
  clear t2 b5 b6
  have R2 := Lib.hid (LR.out a6 26 #[.int .u32 16777216, .int .i64 8, .int .u32 33554432, .int .i64 8] #[q 1, q 2] ((fl_of [q 1, q 2]).symm ▸ rfl))
  have BA2 := Lib.hid ((Below.refl a6.heap.size a6).alloc (Nat.le_refl _) (.cells #[.int .u32 16777216, .int .i64 8, .int .u32 33554432, .int .i64 8] 26))
  go_wp2_with fail
  refine (K2.out _ _ _ (by simp) R2.out).mono ?_
  rintro e c2 ⟨⟨g2, o2, q2, rfl, r2, l2⟩, d2⟩
  have u2 := aid.kb d2 BA2.out
  have y2 : Below c2.heap.size c2 (c2.alloc (.cells #[.slice (some ⟨g2, o2, none⟩) 2 q2] 29)) := (Below.refl _ _).alloc (Nat.le_refl _) _
  have BV2 := Lib.hid (aid.kb y2 (aid.kb u2 B2.out))
  have v1aa := Lib.hid ((v1a.out.below u2).below y2)
  have v2 := Lib.hid (Var.new (m := 2) (cap := q2) c2 29 r2 l2)
  clear u2 y2 r2 l2 d2
  go_wp2_with fail
  refine (KA.out 2 (by decide) (by decide) _).mono ?_
  rintro e a7 ⟨rfl, b7⟩
  have t3 := b7
  have B3 := Lib.hid (aid.kb t3 BV2.out)
  have v1aaa := Lib.hid (v1aa.out.below t3)
  have v2a := Lib.hid (v2.out.below t3)
  clear t3 b7
  have R3 := Lib.hid (LR.out a7 26 #[.int .u32 33554432, .int .i64 8] #[q 2] ((fl_of [q 2]).symm ▸ rfl))
  have BA3 := Lib.hid ((Below.refl a7.heap.size a7).alloc (Nat.le_refl _) (.cells #[.int .u32 33554432, .int .i64 8] 26))
  go_wp2_with fail
  refine (K3.out _ _ _ (by simp) R3.out).mono ?_
  rintro e c3 ⟨⟨g3, o3, q3, rfl, r3, l3⟩, d3⟩
  have u3 := aid.kb d3 BA3.out
  have y3 : Below c3.heap.size c3 (c3.alloc (.cells #[.slice (some ⟨g3, o3, none⟩) 1 q3] 29)) := (Below.refl _ _).alloc (Nat.le_refl _) _
  have BV3 := Lib.hid (aid.kb y3 (aid.kb u3 B3.out))
  have v1aaaa := Lib.hid ((v1aaa.out.below u3).below y3)
  have v2aa := Lib.hid ((v2a.out.below u3).below y3)
  have v3 := Lib.hid (Var.new (m := 1) (cap := q3) c3 29 r3 l3)
  clear u3 y3 r3 l3 d3
  go_wp2_with fail
  refine (KA.out 1 (by decide) (by decide) _).mono ?_
  rintro e a8 ⟨rfl, b8⟩
  go_wp2_with fail
  refine (KA.out 3 (by decide) (by decide) _).mono ?_
  rintro e a9 ⟨rfl, b9⟩
  have t4 := (aid.kb b9 b8)
  have B4 := Lib.hid (aid.kb t4 BV3.out)
  have v1aaaaa := Lib.hid (v1aaaa.out.below t4)
  have v2aaa := Lib.hid (v2aa.out.below t4)
  have v3a := Lib.hid (v3.out.below t4)
  clear t4 b8 b9
  have R4 := Lib.hid (LR.out a9 26 #[.int .u32 16777216, .int .i64 8, .int .u32 50331648, .int .i64 8] #[q 1, q 3] ((fl_of [q 1, q 3]).symm ▸ rfl))
  have BA4 := Lib.hid ((Below.refl a9.heap.size a9).alloc (Nat.le_refl _) (.cells #[.int .u32 16777216, .int .i64 8, .int .u32 50331648, .int .i64 8] 26))
  go_wp2_with fail
  refine (K4.out _ _ _ (by simp) R4.out).mono ?_
  rintro e c4 ⟨⟨g4, o4, q4, rfl, r4, l4⟩, d4⟩
  have u4 := aid.kb d4 BA4.out
  have y4 : Below c4.heap.size c4 (c4.alloc (.cells #[.slice (some ⟨g4, o4, none⟩) 2 q4] 29)) := (Below.refl _ _).alloc (Nat.le_refl _) _
  have BV4 := Lib.hid (aid.kb y4 (aid.kb u4 B4.out))
  have v1aaaaaa := Lib.hid ((v1aaaaa.out.below u4).below y4)
  have v2aaaa := Lib.hid ((v2aaa.out.below u4).below y4)
  have v3aa := Lib.hid ((v3a.out.below u4).below y4)
  have v4 := Lib.hid (Var.new (m := 2) (cap := q4) c4 29 r4 l4)
  clear u4 y4 r4 l4 d4
  have x1 := Lib.hid v1aaaaaa.out
  have x2 := Lib.hid v2aaaa.out
  have x3 := Lib.hid v3aa.out
  have x4 := Lib.hid v4.out
  clear v1aaaaaa v2aaaa v3aa v4 v1 v1a v1aa v1aaa v1aaaa v1aaaaa v2 v2a v2aa v2aaa v3 v3a B1 B2 B3 B4 BV1 BV2 BV3 R1 R2 R3 R4 BA1 BA2 BA3 BA4
  have f1 := x1.out.cell
  have KL := Lib.hid (fun W => len_any (.slice (some ⟨g1, o1, none⟩) 3 q1) W 3 (.inr ⟨_, _, rfl⟩))
  go_wp2_with fail
  refine (KL.out _).mono ?_
  rintro e h1 ⟨rfl, m1⟩
  have y1 := Lib.hid (x1.out.below m1)
  have y2 := Lib.hid (x2.out.below m1)
  have y3 := Lib.hid (x3.out.below m1)
  have y4 := Lib.hid (x4.out.below m1)
  have BH := Lib.hid (aid.kb m1 BV4.out)
  clear f1 x1 x2 x3 x4 BV4 m1
  have f1 := y1.out.cell
  have f2 := y2.out.cell
  have f3 := y3.out.cell
  have yA : Below h1.heap.size h1 (h1.alloc (.cells #[.slice (some ⟨g2, o2, none⟩) 2 q2, .slice (some ⟨g3, o3, none⟩) 1 q3] 29)) := (Below.refl _ _).alloc (Nat.le_refl _) _
  have KGA := Lib.hid (group_A _ g1 o1 q1 h1.heap.size 2 (.slice (some ⟨g2, o2, none⟩) 2 q2) (.slice (some ⟨g3, o3, none⟩) 1 q3) (y1.out.below yA).row (aid.new2a h1 _ _ _) (aid.new2b h1 _ _ _)
    (.inr ⟨g2, o2, q2, rfl, (y2.out.below yA).row, (y2.out.below yA).lt⟩) (.inr ⟨g3, o3, q3, rfl, (y3.out.below yA).row, (y3.out.below yA).lt⟩))
  have BA := Lib.hid yA
  clear yA
  go_wp2_with fail
  refine KGA.out.mono ?_
  rintro e h2 ⟨⟨gA, cA, rfl⟩, m2⟩
  have m3 := aid.kb m2 BA.out
  have z1 := Lib.hid (y1.out.below m3)
  have z3 := Lib.hid (y3.out.below m3)
  have z4 := Lib.hid (y4.out.below m3)
  have BI := Lib.hid (aid.kb m3 BH.out)
  clear f1 f2 f3 y1 y2 y3 y4 BH BA m2 m3 KGA
  have f1 := z1.out.cell
  have f4 := z4.out.cell
  have yB : Below h2.heap.size h2 (h2.alloc (.cells #[.slice (some ⟨g4, o4, none⟩) 2 q4] 29)) := (Below.refl _ _).alloc (Nat.le_refl _) _
  have KGB := Lib.hid (group_B _ g1 o1 q1 h2.heap.size 1 (.slice (some ⟨g4, o4, none⟩) 2 q4) (z1.out.below yB).row (show (h2.alloc (.cells #[.slice (some ⟨g4, o4, none⟩) 2 q4] 29)).cell? ⟨h2.heap.size, 0, none⟩ = _ by go_simp)
    (.inr ⟨g4, o4, q4, rfl, (z4.out.below yB).row, (z4.out.below yB).lt⟩))
  have BB := Lib.hid yB
  clear yB
  go_wp2_with fail
  refine KGB.out.mono ?_
  rintro e h3 ⟨⟨gB, cB, a0, c0, a1, c1', rfl, k0, k1, r0, r1⟩, m4⟩
  have m5 := aid.kb m4 BB.out
  have t3 := Lib.hid (z3.out.below m5)
  have t4 := Lib.hid (z4.out.below m5)
  have BJ := Lib.hid (aid.kb m5 BI.out)
  clear f1 f4 z1 z3 z4 BI BB m4 m5 KGB
  have n0 := fun s : aid.Keep h3 => aid.keep_cell k0 s
  have n1 := fun s : aid.Keep h3 => aid.keep_cell k1 s
  have n3 := fun s : aid.Keep h3 => aid.keep_cell t3.out.cell s
  have n4 := fun s : aid.Keep h3 => aid.keep_cell t4.out.cell s
  have KS1 := Lib.hid (fun s : aid.Keep h3 => same_set (.slice a0 2 c0) (.slice (some ⟨g4, o4, none⟩) 2 q4) #[q 1, q 3] #[q 1, q 3] s.world (r0.below s.below) (.inr ⟨g4, o4, q4, rfl, t4.out.row.below s.below, Nat.lt_of_lt_of_le t4.out.lt s.below.size⟩) (by decide))
  have KS2 := Lib.hid (fun s : aid.Keep h3 => same_set (.slice a1 1 c1') (.slice (some ⟨g3, o3, none⟩) 1 q3) #[q 2] #[q 2] s.world (r1.below s.below) (.inr ⟨g3, o3, q3, rfl, t3.out.row.below s.below, Nat.lt_of_lt_of_le t3.out.lt s.below.size⟩) (by decide))
  rw [decide_eq_true rfl] at KS1 KS2
  clear r0 r1 k0 k1
  go_wp2_with fail
  refine aid.wp_region_keep (by kernel_rfl) (by kernel_rfl) ?_
  repeat (go_big_quiet_step ((go_at_call 24; first | ((with_reducible exact aid.keep_call (KS1.out _))) | ((with_reducible exact aid.keep_call (KS2.out _))))))
  refine wpQuiet_nil ?_
  rintro _ ⟨s, rfl⟩
  go_wp2_with fail
  go_ret
  exact ⟨rfl, aid.kbk BJ.out s⟩
end Go.Proofs.Ytbfejmehbbieeaa.pshead
