import Derived.Test.YtedlclgimeafeaaDoorLawGetsR
/- A part of HeadGets. -/
set_option linter.unusedVariables false
set_option linter.unusedSimpArgs false
namespace Go.Proofs.YtedlclgimeafeaaDoor.lawGetsB
open Go.ChangeShapes Go.WideShapes Go.ChangeAt Go.RowKit Go.Proofs.YtedlclgimeafeaaDoor.frame Go.Proofs.YtedlclgimeafeaaDoor.hmath Go.Proofs.YtedlclgimeafeaaDoor.head1 Go.Proofs.YtedlclgimeafeaaDoor.head2 Go.Proofs.YtedlclgimeafeaaDoor.hrow Go.Proofs.YtedlclgimeafeaaDoor.head3 Go.Proofs.YtedlclgimeafeaaDoor.head5 Go.Proofs.YtedlclgimeafeaaDoor.head6 Go.Proofs.YtedlclgimeafeaaDoor.head7 Go.Proofs.YtedlclgimeafeaaDoor.lawGetsR

set_option maxRecDepth 100000 in
set_option maxHeartbeats 4000000 in
theorem walk_lo_lt (h : Hd) (f gv c : Int) (w : World)
    (KG7 : Hid (∀ w, Laid w → Calls Tryd.prog 10 #[hd7.val, .int .i64 3] w fun e w' => e = .returned (.int .u64 7) ∧ Below w.heap.size w w'))
    (KC7 : Hid (∀ w, Laid w → Calls Tryd.prog 11 #[hd256.val] w fun e w' => e = .returned (.int .i64 1) ∧ Below w.heap.size w w'))
    (KN : Hid (∀ w, Calls Tryd.prog 12 #[h.val] w fun e w' => e = .returned (.agg (nums h)) ∧ Below w.heap.size w w'))
    (KG : Hid (∀ w, Laid w → Calls Tryd.prog 10 #[h.val, .int .i64 f] w fun e w' => e = .returned (.int .u64 gv) ∧ Below w.heap.size w w'))
    (KC : Hid (∀ w, Laid w → Calls Tryd.prog 11 #[h.val] w fun e w' => e = .returned (.int .i64 c) ∧ Below w.heap.size w w'))
    (HC : Hid ((Right h.p h.t h.pr h.sp h.dp → c = 0) ∧ (¬ Right h.p h.t h.pr h.sp h.dp → c = 1)))
    (L : Laid w) (hd : h.dp < 65536) (f0 : f < 0) (hgv : gv = 0) :
    Calls Tryd.prog 4 #[h.val, .int .i64 f] w fun e w' => e = .returned (.bool true) ∧ Below w.heap.size w w' := by
  subst hgv
  have L0 := Lib.hid L
  have R0 := Lib.hid (alloc_row w h.cells 33)
  have B0 := Lib.hid ((Below.refl w.heap.size w).alloc (Nat.le_refl _) (.cells h.cells 33))
  clear L
  simp only [Hd.val] at KG7 KC7 KN KG KC ⊢
  go_enter Tryd.func4, Tryd.ntmps4
  go_wp2_with (first | (refine wp_build_one rfl 3 (.int .i64 7) hd7.cells rfl build_7 ?_) | (refine wp_build_one rfl 0 (.int .i64 256) hd256.cells rfl build_256 ?_))
  refine (KG7.out _ (laid_below B0.out L0.out)).mono ?_
  rintro e w1 ⟨rfl, hb1⟩
  have B1 := Lib.hid (aid.kb hb1 B0.out)
  have R1 := Lib.hid (row_below hb1 R0.out)
  clear hb1 R0 B0
  go_wp2_with (refine wp_build_one rfl 0 (.int .i64 256) hd256.cells rfl build_256 ?_)
  refine (KC7.out _ (laid_below B1.out L0.out)).mono ?_
  rintro e w2 ⟨rfl, hb2⟩
  have B2 := Lib.hid (aid.kb hb2 B1.out)
  have R2 := Lib.hid (row_below hb2 R1.out)
  clear hb2 R1 B1
  have c0 := row_cell R2.out 0 _ rfl
  have c1 := row_cell R2.out 13 _ rfl
  have c2 := row_cell R2.out 16 _ rfl
  have c3 := row_cell R2.out 17 _ rfl
  have c4 := row_cell R2.out 18 _ rfl
  go_wp2_with (refine wp_load_hdr rfl (.tmp 2) rfl w.heap.size rfl h.cells rfl R2.out ?_)
  all_goals
    clear c0 c1 c2 c3 c4
    first
    | (have hc : c = 0 := HC.out.1 (by unfold Right; omega))
    | (have hc : c = 1 := HC.out.2 (by unfold Right; omega))
    subst hc
    refine (KG.out _ (laid_below B2.out L0.out)).mono ?_
    rintro e w4 ⟨rfl, hb4⟩
    have B4 := Lib.hid (aid.kb hb4 B2.out)
    have R4 := Lib.hid (row_below hb4 R2.out)
    clear hb4
    go_wp2_with (refine wp_load_hdr rfl (.tmp 2) rfl w.heap.size rfl h.cells rfl R4.out ?_)
    refine (KC.out _ (laid_below B4.out L0.out)).mono ?_
    rintro e w5 ⟨rfl, hb5⟩
    have B5 := Lib.hid (aid.kb hb5 B4.out)
    have R5 := Lib.hid (row_below hb5 R4.out)
    clear hb5
    go_wp2_with (refine wp_load_hdr rfl (.tmp 2) rfl w.heap.size rfl h.cells rfl R5.out ?_)
    first
    | (go_ret; exact ⟨rfl, B5.out⟩)
    | (refine (KC.out _ (laid_below B5.out L0.out)).mono ?_
       rintro e w6 ⟨rfl, hb6⟩
       have B6 := Lib.hid (aid.kb hb6 B5.out)
       clear hb6
       go_wp2_with fail
       go_ret
       exact ⟨rfl, B6.out⟩)

set_option maxRecDepth 100000 in
set_option maxHeartbeats 4000000 in
theorem walk_lo_ge (h : Hd) (f gv c : Int) (w : World)
    (KG7 : Hid (∀ w, Laid w → Calls Tryd.prog 10 #[hd7.val, .int .i64 3] w fun e w' => e = .returned (.int .u64 7) ∧ Below w.heap.size w w'))
    (KC7 : Hid (∀ w, Laid w → Calls Tryd.prog 11 #[hd256.val] w fun e w' => e = .returned (.int .i64 1) ∧ Below w.heap.size w w'))
    (KN : Hid (∀ w, Calls Tryd.prog 12 #[h.val] w fun e w' => e = .returned (.agg (nums h)) ∧ Below w.heap.size w w'))
    (KG : Hid (∀ w, Laid w → Calls Tryd.prog 10 #[h.val, .int .i64 f] w fun e w' => e = .returned (.int .u64 gv) ∧ Below w.heap.size w w'))
    (KC : Hid (∀ w, Laid w → Calls Tryd.prog 11 #[h.val] w fun e w' => e = .returned (.int .i64 c) ∧ Below w.heap.size w w'))
    (HC : Hid ((Right h.p h.t h.pr h.sp h.dp → c = 0) ∧ (¬ Right h.p h.t h.pr h.sp h.dp → c = 1)))
    (L : Laid w) (hd : 65536 ≤ h.dp) (f0 : f < 0) (hgv : gv = 0) :
    Calls Tryd.prog 4 #[h.val, .int .i64 f] w fun e w' => e = .returned (.bool true) ∧ Below w.heap.size w w' := by
  subst hgv
  have hdb : decide (h.dp < 65536) = false := decide_eq_false (by omega)
  have L0 := Lib.hid L
  have R0 := Lib.hid (alloc_row w h.cells 33)
  have B0 := Lib.hid ((Below.refl w.heap.size w).alloc (Nat.le_refl _) (.cells h.cells 33))
  clear L
  simp only [Hd.val] at KG7 KC7 KN KG KC ⊢
  go_enter Tryd.func4, Tryd.ntmps4
  go_wp2_with (first | (refine wp_build_one rfl 3 (.int .i64 7) hd7.cells rfl build_7 ?_) | (refine wp_build_one rfl 0 (.int .i64 256) hd256.cells rfl build_256 ?_))
  refine (KG7.out _ (laid_below B0.out L0.out)).mono ?_
  rintro e w1 ⟨rfl, hb1⟩
  have B1 := Lib.hid (aid.kb hb1 B0.out)
  have R1 := Lib.hid (row_below hb1 R0.out)
  clear hb1 R0 B0
  go_wp2_with (refine wp_build_one rfl 0 (.int .i64 256) hd256.cells rfl build_256 ?_)
  refine (KC7.out _ (laid_below B1.out L0.out)).mono ?_
  rintro e w2 ⟨rfl, hb2⟩
  have B2 := Lib.hid (aid.kb hb2 B1.out)
  have R2 := Lib.hid (row_below hb2 R1.out)
  clear hb2 R1 B1
  have c0 := row_cell R2.out 0 _ rfl
  have c1 := row_cell R2.out 13 _ rfl
  have c2 := row_cell R2.out 16 _ rfl
  have c3 := row_cell R2.out 17 _ rfl
  have c4 := row_cell R2.out 18 _ rfl
  go_wp2_with (refine wp_load_hdr rfl (.tmp 2) rfl w.heap.size rfl h.cells rfl R2.out ?_)
  all_goals
    clear c0 c1 c2 c3 c4
    first
    | (have hc : c = 0 := HC.out.1 (by unfold Right; omega))
    | (have hc : c = 1 := HC.out.2 (by unfold Right; omega))
    subst hc
    refine (KG.out _ (laid_below B2.out L0.out)).mono ?_
    rintro e w4 ⟨rfl, hb4⟩
    have B4 := Lib.hid (aid.kb hb4 B2.out)
    have R4 := Lib.hid (row_below hb4 R2.out)
    clear hb4
    go_wp2_with (refine wp_load_hdr rfl (.tmp 2) rfl w.heap.size rfl h.cells rfl R4.out ?_)
    refine (KC.out _ (laid_below B4.out L0.out)).mono ?_
    rintro e w5 ⟨rfl, hb5⟩
    have B5 := Lib.hid (aid.kb hb5 B4.out)
    have R5 := Lib.hid (row_below hb5 R4.out)
    clear hb5
    go_wp2_with (refine wp_load_hdr rfl (.tmp 2) rfl w.heap.size rfl h.cells rfl R5.out ?_)
    first
    | (go_ret; exact ⟨rfl, B5.out⟩)
    | (refine (KC.out _ (laid_below B5.out L0.out)).mono ?_
       rintro e w6 ⟨rfl, hb6⟩
       have B6 := Lib.hid (aid.kb hb6 B5.out)
       clear hb6
       go_wp2_with fail
       go_ret
       exact ⟨rfl, B6.out⟩)

end Go.Proofs.YtedlclgimeafeaaDoor.lawGetsB
