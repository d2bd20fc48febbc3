import Derived.Test.YtedlclgimeafeaaDoorHead8
/- A part of HeadWiths. -/
set_option linter.unusedVariables false
set_option linter.unusedSimpArgs false
namespace Go.Proofs.YtedlclgimeafeaaDoor.lawWithsA
open Go.ChangeShapes Go.WideShapes Go.ChangeAt Go.RowKit Go.Proofs.YtedlclgimeafeaaDoor.frame Go.Proofs.YtedlclgimeafeaaDoor.hmath Go.Proofs.YtedlclgimeafeaaDoor.head1 Go.Proofs.YtedlclgimeafeaaDoor.head2 Go.Proofs.YtedlclgimeafeaaDoor.hrow Go.Proofs.YtedlclgimeafeaaDoor.head3 Go.Proofs.YtedlclgimeafeaaDoor.head5 Go.Proofs.YtedlclgimeafeaaDoor.head6 Go.Proofs.YtedlclgimeafeaaDoor.head7 Go.Proofs.YtedlclgimeafeaaDoor.head8

set_option maxRecDepth 100000 in
set_option maxHeartbeats 1000000 in
theorem bad_lo (h g : Hd) (f n x e1 : Int) (w : World)
    (KF : Hid (∀ w, Laid w → Calls Tryd.prog 9 #[.int .i64 f] w fun e w' => e = .returned (.int .u64 x) ∧ w = w'))
    (KW : Hid (∀ w, Laid w → Calls Tryd.prog 13 #[h.val, .int .i64 f, .int .u64 n] w fun e w' => e = .returned (.tuple #[.agg g.cells, .int .i64 e1]) ∧ Below w.heap.size w w'))
    (L : Laid w) (hg : g = zeroHd) (he : e1 = 1) (hf : f < 0) :
    Calls Tryd.prog 5 #[h.val, .int .i64 f, .int .u64 n] w fun e w' => e = .returned (.bool true) ∧ Below w.heap.size w w' := by
  subst hg he
  have Q := eql_hdr zeroHd
  obtain ⟨g0, e0, hv0, hg0, -⟩ := with_parts zeroHd 8 80
  obtain ⟨rfl, rfl⟩ := hg0 (by decide)
  have K0 := Lib.hid (fun w L => with_any zeroHd 8 80 (by unfold hmath.I64; omega) (by unfold hmath.U64; omega) w L)
  rw [hv0] at K0
  have c80 : (setI zeroHd 8 80).cells.toList[18]? = some (.int .i64 80) := rfl
  obtain ⟨g0, hg0'⟩ : ∃ g0, g0 = setI zeroHd 8 80 := ⟨_, rfl⟩
  rw [← hg0'] at K0 c80
  clear hg0' hv0
  have L0 := Lib.hid L
  have R3 := Lib.hid (alloc_row w h.cells 33)
  have B0 := Lib.hid ((Below.refl w.heap.size w).alloc (Nat.le_refl _) (.cells h.cells 33))
  have s0 : w.heap.size < (w.alloc (.cells h.cells 33)).heap.size := by simp
  have S0 := Lib.hid s0
  clear s0 L hg0
  simp only [Hd.val] at K0 KW  ⊢
  go_enter Tryd.func5, Tryd.ntmps5
  go_wp2_with (refine wp_build_zero rfl rfl ?_)
  refine (K0.out _ (laid_below B0.out L0.out)).mono ?_
  rintro e w1 ⟨rfl, hb1⟩
  obtain ⟨V1, hV1, r7, t7, b1, z1⟩ := new_hdr w1 g0.cells (size_hdr _)
  have B1 := Lib.hid (aid.kb b1 (aid.kb hb1 B0.out))
  have R31 := Lib.hid (row_below b1 (row_below hb1 R3.out))
  have c18 := row_cell r7 18 _ c80
  have HV1 := Lib.hid hV1
  have N1 := Lib.hid (new_there w1)
  clear hV1 b1 z1 hb1 R3 B0 S0 r7 t7 c80
  go_wp2_with (first | (refine wp_store_hdr rfl (.tmp 7) (.tmp 18) rfl w1.heap.size rfl g0.cells rfl (size_hdr g0) (one_hdr g0) (N1.out) V1 HV1.out ?_) | (refine wp_load_hdr rfl (.tmp 3) rfl w.heap.size rfl h.cells rfl R31.out ?_))
  refine (KW.out _ (laid_below B1.out L0.out)).mono ?_
  rintro e w2 ⟨rfl, hb2⟩
  obtain ⟨V2, hV2, r9, t9, b2, z2⟩ := new_hdr w2 zeroHd.cells (size_hdr _)
  have B2 := Lib.hid (aid.kb b2 (aid.kb hb2 B1.out))
  have R32 := Lib.hid (row_below b2 (row_below hb2 R31.out))
  have HV2 := Lib.hid hV2
  have R92 := Lib.hid r9
  have N2 := Lib.hid (new_there w2)
  clear hV2 b2 z2 hb2 r9 t9 R31 B1 HV1 N1 c18
  go_wp2_with (first | (refine wp_store_hdr rfl (.tmp 9) (.tmp 32) rfl w2.heap.size rfl zeroHd.cells rfl (size_hdr zeroHd) (one_hdr zeroHd) (N2.out) V2 HV2.out ?_) | (refine wp_load_hdr rfl (.tmp 9) rfl w2.heap.size rfl zeroHd.cells rfl R92.out ?_) | (refine wp_build_zero rfl rfl ?_))
  go_ret
  exact ⟨rfl, B2.out⟩

set_option maxRecDepth 100000 in
set_option maxHeartbeats 1000000 in
theorem bad_hi (h g : Hd) (f n x e1 : Int) (w : World)
    (KF : Hid (∀ w, Laid w → Calls Tryd.prog 9 #[.int .i64 f] w fun e w' => e = .returned (.int .u64 x) ∧ w = w'))
    (KW : Hid (∀ w, Laid w → Calls Tryd.prog 13 #[h.val, .int .i64 f, .int .u64 n] w fun e w' => e = .returned (.tuple #[.agg g.cells, .int .i64 e1]) ∧ Below w.heap.size w w'))
    (L : Laid w) (hg : g = zeroHd) (he : e1 = 1) (hf : ¬ f < 0) (hf2 : 9 ≤ f) :
    Calls Tryd.prog 5 #[h.val, .int .i64 f, .int .u64 n] w fun e w' => e = .returned (.bool true) ∧ Below w.heap.size w w' := by
  subst hg he
  have Q := eql_hdr zeroHd
  obtain ⟨g0, e0, hv0, hg0, -⟩ := with_parts zeroHd 8 80
  obtain ⟨rfl, rfl⟩ := hg0 (by decide)
  have K0 := Lib.hid (fun w L => with_any zeroHd 8 80 (by unfold hmath.I64; omega) (by unfold hmath.U64; omega) w L)
  rw [hv0] at K0
  have c80 : (setI zeroHd 8 80).cells.toList[18]? = some (.int .i64 80) := rfl
  obtain ⟨g0, hg0'⟩ : ∃ g0, g0 = setI zeroHd 8 80 := ⟨_, rfl⟩
  rw [← hg0'] at K0 c80
  clear hg0' hv0
  have L0 := Lib.hid L
  have R3 := Lib.hid (alloc_row w h.cells 33)
  have B0 := Lib.hid ((Below.refl w.heap.size w).alloc (Nat.le_refl _) (.cells h.cells 33))
  have s0 : w.heap.size < (w.alloc (.cells h.cells 33)).heap.size := by simp
  have S0 := Lib.hid s0
  clear s0 L hg0
  simp only [Hd.val] at K0 KW  ⊢
  go_enter Tryd.func5, Tryd.ntmps5
  go_wp2_with (refine wp_build_zero rfl rfl ?_)
  refine (K0.out _ (laid_below B0.out L0.out)).mono ?_
  rintro e w1 ⟨rfl, hb1⟩
  obtain ⟨V1, hV1, r7, t7, b1, z1⟩ := new_hdr w1 g0.cells (size_hdr _)
  have B1 := Lib.hid (aid.kb b1 (aid.kb hb1 B0.out))
  have R31 := Lib.hid (row_below b1 (row_below hb1 R3.out))
  have c18 := row_cell r7 18 _ c80
  have HV1 := Lib.hid hV1
  have N1 := Lib.hid (new_there w1)
  clear hV1 b1 z1 hb1 R3 B0 S0 r7 t7 c80
  go_wp2_with (first | (refine wp_store_hdr rfl (.tmp 7) (.tmp 18) rfl w1.heap.size rfl g0.cells rfl (size_hdr g0) (one_hdr g0) (N1.out) V1 HV1.out ?_) | (refine wp_load_hdr rfl (.tmp 3) rfl w.heap.size rfl h.cells rfl R31.out ?_))
  refine (KW.out _ (laid_below B1.out L0.out)).mono ?_
  rintro e w2 ⟨rfl, hb2⟩
  obtain ⟨V2, hV2, r9, t9, b2, z2⟩ := new_hdr w2 zeroHd.cells (size_hdr _)
  have B2 := Lib.hid (aid.kb b2 (aid.kb hb2 B1.out))
  have R32 := Lib.hid (row_below b2 (row_below hb2 R31.out))
  have HV2 := Lib.hid hV2
  have R92 := Lib.hid r9
  have N2 := Lib.hid (new_there w2)
  clear hV2 b2 z2 hb2 r9 t9 R31 B1 HV1 N1 c18
  go_wp2_with (first | (refine wp_store_hdr rfl (.tmp 9) (.tmp 32) rfl w2.heap.size rfl zeroHd.cells rfl (size_hdr zeroHd) (one_hdr zeroHd) (N2.out) V2 HV2.out ?_) | (refine wp_load_hdr rfl (.tmp 9) rfl w2.heap.size rfl zeroHd.cells rfl R92.out ?_) | (refine wp_build_zero rfl rfl ?_))
  go_ret
  exact ⟨rfl, B2.out⟩

set_option maxRecDepth 100000 in
set_option maxHeartbeats 1000000 in
theorem bad_full (h g : Hd) (f n x e1 : Int) (w : World)
    (KF : Hid (∀ w, Laid w → Calls Tryd.prog 9 #[.int .i64 f] w fun e w' => e = .returned (.int .u64 x) ∧ w = w'))
    (KW : Hid (∀ w, Laid w → Calls Tryd.prog 13 #[h.val, .int .i64 f, .int .u64 n] w fun e w' => e = .returned (.tuple #[.agg g.cells, .int .i64 e1]) ∧ Below w.heap.size w w'))
    (L : Laid w) (hg : g = zeroHd) (he : e1 = 1) (hf : ¬ f < 0) (hf2 : f < 9) (hx : x < n) :
    Calls Tryd.prog 5 #[h.val, .int .i64 f, .int .u64 n] w fun e w' => e = .returned (.bool true) ∧ Below w.heap.size w w' := by
  subst hg he
  have Q := eql_hdr zeroHd
  obtain ⟨g0, e0, hv0, hg0, -⟩ := with_parts zeroHd 8 80
  obtain ⟨rfl, rfl⟩ := hg0 (by decide)
  have K0 := Lib.hid (fun w L => with_any zeroHd 8 80 (by unfold hmath.I64; omega) (by unfold hmath.U64; omega) w L)
  rw [hv0] at K0
  have c80 : (setI zeroHd 8 80).cells.toList[18]? = some (.int .i64 80) := rfl
  obtain ⟨g0, hg0'⟩ : ∃ g0, g0 = setI zeroHd 8 80 := ⟨_, rfl⟩
  rw [← hg0'] at K0 c80
  clear hg0' hv0
  have L0 := Lib.hid L
  have R3 := Lib.hid (alloc_row w h.cells 33)
  have B0 := Lib.hid ((Below.refl w.heap.size w).alloc (Nat.le_refl _) (.cells h.cells 33))
  have s0 : w.heap.size < (w.alloc (.cells h.cells 33)).heap.size := by simp
  have S0 := Lib.hid s0
  clear s0 L hg0
  simp only [Hd.val] at K0 KW  ⊢
  go_enter Tryd.func5, Tryd.ntmps5
  go_wp2_with (refine wp_build_zero rfl rfl ?_)
  refine (K0.out _ (laid_below B0.out L0.out)).mono ?_
  rintro e w1 ⟨rfl, hb1⟩
  obtain ⟨V1, hV1, r7, t7, b1, z1⟩ := new_hdr w1 g0.cells (size_hdr _)
  have B1 := Lib.hid (aid.kb b1 (aid.kb hb1 B0.out))
  have R31 := Lib.hid (row_below b1 (row_below hb1 R3.out))
  have c18 := row_cell r7 18 _ c80
  have HV1 := Lib.hid hV1
  have N1 := Lib.hid (new_there w1)
  clear hV1 b1 z1 hb1 R3 B0 S0 r7 t7 c80
  go_wp2_with (first | (refine wp_store_hdr rfl (.tmp 7) (.tmp 18) rfl w1.heap.size rfl g0.cells rfl (size_hdr g0) (one_hdr g0) (N1.out) V1 HV1.out ?_) | (refine wp_load_hdr rfl (.tmp 3) rfl w.heap.size rfl h.cells rfl R31.out ?_))
  refine (KW.out _ (laid_below B1.out L0.out)).mono ?_
  rintro e w2 ⟨rfl, hb2⟩
  obtain ⟨V2, hV2, r9, t9, b2, z2⟩ := new_hdr w2 zeroHd.cells (size_hdr _)
  have B2 := Lib.hid (aid.kb b2 (aid.kb hb2 B1.out))
  have R32 := Lib.hid (row_below b2 (row_below hb2 R31.out))
  have HV2 := Lib.hid hV2
  have R92 := Lib.hid r9
  have N2 := Lib.hid (new_there w2)
  clear hV2 b2 z2 hb2 r9 t9 R31 B1 HV1 N1 c18
  go_wp2_with (refine wp_store_hdr rfl (.tmp 9) (.tmp 32) rfl w2.heap.size rfl zeroHd.cells rfl (size_hdr zeroHd) (one_hdr zeroHd) (N2.out) V2 HV2.out ?_)
  refine (KF.out _ (laid_below B2.out L0.out)).mono ?_
  rintro e w' ⟨rfl, rfl⟩
  go_wp2_with (first | (refine wp_load_hdr rfl (.tmp 9) rfl w2.heap.size rfl zeroHd.cells rfl R92.out ?_) | (refine wp_build_zero rfl rfl ?_))
  go_ret
  exact ⟨rfl, B2.out⟩

end Go.Proofs.YtedlclgimeafeaaDoor.lawWithsA
