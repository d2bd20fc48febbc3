import Derived.Test.YtedlclgimeafeaaDoorHead5
/- A part of HeadTwice. -/
set_option linter.unusedVariables false
set_option linter.unusedSimpArgs false
namespace Go.Proofs.YtedlclgimeafeaaDoor.lawTwiceC
open Go.ChangeShapes Go.WideShapes Go.ChangeAt Go.RowKit Go.Proofs.YtedlclgimeafeaaDoor.frame Go.Proofs.YtedlclgimeafeaaDoor.hmath Go.Proofs.YtedlclgimeafeaaDoor.head1 Go.Proofs.YtedlclgimeafeaaDoor.hrow Go.Proofs.YtedlclgimeafeaaDoor.head3 Go.Proofs.YtedlclgimeafeaaDoor.head5

set_option maxRecDepth 100000 in
set_option maxHeartbeats 4000000 in
theorem good_ne (h p q pq qp r : Hd) (f g a b x y e1 e2 e3 e4 e5 : Int) (w : World)
    (KF : Hid (∀ w, Laid w → Calls Tryd.prog 9 #[.int .i64 f] w fun e w' => e = .returned (.int .u64 x) ∧ w = w'))
    (KG : Hid (∀ w, Laid w → Calls Tryd.prog 9 #[.int .i64 g] w fun e w' => e = .returned (.int .u64 y) ∧ w = w'))
    (KP : Hid (∀ w, Laid w → Calls Tryd.prog 13 #[h.val, .int .i64 f, .int .u64 (bits .and .u64 a x)] w fun e w' => e = .returned (.tuple #[.agg p.cells, .int .i64 e1]) ∧ Below w.heap.size w w'))
    (KQ : Hid (∀ w, Laid w → Calls Tryd.prog 13 #[h.val, .int .i64 g, .int .u64 (bits .and .u64 b y)] w fun e w' => e = .returned (.tuple #[.agg q.cells, .int .i64 e2]) ∧ Below w.heap.size w w'))
    (KPQ : Hid (∀ w, Laid w → Calls Tryd.prog 13 #[p.val, .int .i64 g, .int .u64 (bits .and .u64 b y)] w fun e w' => e = .returned (.tuple #[.agg pq.cells, .int .i64 e3]) ∧ Below w.heap.size w w'))
    (KQP : Hid (∀ w, Laid w → Calls Tryd.prog 13 #[q.val, .int .i64 f, .int .u64 (bits .and .u64 a x)] w fun e w' => e = .returned (.tuple #[.agg qp.cells, .int .i64 e4]) ∧ Below w.heap.size w w'))
    (KR : Hid (∀ w, Laid w → Calls Tryd.prog 13 #[h.val, .int .i64 g, .int .u64 (bits .and .u64 b y)] w fun e w' => e = .returned (.tuple #[.agg r.cells, .int .i64 e5]) ∧ Below w.heap.size w w'))
    (L : Laid w) (hf : ¬ f < 0) (hf2 : f < 9) (hg : ¬ g < 0) (hg2 : g < 9) (hne : (f == g) = false) (hx : pq = qp) :
    Calls Tryd.prog 7 #[h.val, .int .i64 f, .int .i64 g, .int .u64 a, .int .u64 b] w fun e w' => e = .returned (.bool true) ∧ Below w.heap.size w w' := by
  subst hx
  have Q := eql_hdr pq
  obtain ⟨g0, e0, hv0, hg0, -⟩ := with_parts zeroHd 8 80
  obtain ⟨rfl, rfl⟩ := hg0 (by decide)
  have K0 := Lib.hid (fun w L => with_any zeroHd 8 80 (by unfold hmath.I64; omega) (by unfold hmath.U64; omega) w L)
  rw [hv0] at K0
  have c80 : (setI zeroHd 8 80).cells.toList[18]? = some (.int .i64 80) := rfl
  obtain ⟨g0, hg0'⟩ : ∃ g0, g0 = setI zeroHd 8 80 := ⟨_, rfl⟩
  rw [← hg0'] at K0 c80
  clear hg0' hv0
  have L0 := Lib.hid L
  have R5 := Lib.hid (alloc_row w h.cells 33)
  have B0 := Lib.hid ((Below.refl w.heap.size w).alloc (Nat.le_refl _) (.cells h.cells 33))
  have s0 : w.heap.size < (w.alloc (.cells h.cells 33)).heap.size := by simp
  have S0 := Lib.hid s0
  clear s0 L hg0
  simp only [Hd.val] at K0 KP KQ KPQ KQP KR ⊢
  go_enter Tryd.func7, Tryd.ntmps7
  go_wp2_with (refine wp_build_zero rfl rfl ?_)
  refine (K0.out _ (laid_below B0.out L0.out)).mono ?_
  rintro e w1 ⟨rfl, hb1⟩
  obtain ⟨V1, hV1, r11, t11, b1, z1⟩ := new_hdr w1 g0.cells (size_hdr _)
  have B1 := Lib.hid (aid.kb b1 (aid.kb hb1 B0.out))
  have R51 := Lib.hid (row_below b1 (row_below hb1 R5.out))
  have s1 : w.heap.size < w1.heap.size := Nat.lt_of_lt_of_le S0.out hb1.size
  have c18 := row_cell r11 18 _ c80
  have HV1 := Lib.hid hV1
  have S1 := Lib.hid s1
  have Z1 := Lib.hid z1
  have N1 := Lib.hid (new_there w1)
  clear hV1 b1 z1 hb1 R5 B0 s1 S0 r11 t11 c80
  go_wp2_with (refine wp_store_hdr rfl (.tmp 11) (.tmp 21) rfl w1.heap.size rfl g0.cells rfl (size_hdr g0) (one_hdr g0) (N1.out) V1 HV1.out ?_)
  refine (KF.out _ (laid_below B1.out L0.out)).mono ?_
  rintro e w' ⟨rfl, rfl⟩
  go_wp2_with fail
  refine (KG.out _ (laid_below B1.out L0.out)).mono ?_
  rintro e w' ⟨rfl, rfl⟩
  clear c18
  go_wp2_with (refine wp_load_hdr rfl (.tmp 5) rfl w.heap.size rfl h.cells rfl R51.out ?_)
  refine (KP.out _ (laid_below B1.out L0.out)).mono ?_
  rintro e w2 ⟨rfl, hb2⟩
  obtain ⟨V2, hV2, r13, t13, b2, z2⟩ := new_hdr w2 p.cells (size_hdr _)
  have B2 := Lib.hid (aid.kb b2 (aid.kb hb2 B1.out))
  have R52 := Lib.hid (row_below b2 (row_below hb2 R51.out))
  have s2 : w.heap.size < w2.heap.size := Nat.lt_of_lt_of_le (Nat.lt_trans S1.out Z1.out) hb2.size
  have HV2 := Lib.hid hV2
  have S2 := Lib.hid s2
  have Z2 := Lib.hid z2
  have R13 := Lib.hid r13
  have T13 := Lib.hid t13
  have N2 := Lib.hid (new_there w2)
  clear hV2 b2 z2 hb2 r13 t13 R51 B1 s2 HV1 N1
  go_wp2_with (first | (refine wp_store_hdr rfl (.tmp 13) (.tmp 43) rfl w2.heap.size rfl p.cells rfl (size_hdr p) (one_hdr p) (N2.out) V2 HV2.out ?_) | (refine wp_load_hdr rfl (.tmp 5) rfl w.heap.size rfl h.cells rfl R52.out ?_))
  refine (KQ.out _ (laid_below B2.out L0.out)).mono ?_
  rintro e w3 ⟨rfl, hb3⟩
  obtain ⟨V3, hV3, r14, t14, b3, z3⟩ := new_hdr w3 q.cells (size_hdr _)
  have B3 := Lib.hid (aid.kb b3 (aid.kb hb3 B2.out))
  have R53 := Lib.hid (row_below b3 (row_below hb3 R52.out))
  have R133 := Lib.hid (row_below b3 (row_below hb3 R13.out))
  have T133 := Lib.hid (there_below b3 (there_below hb3 T13.out))
  have s3 : w2.heap.size < w3.heap.size := Nat.lt_of_lt_of_le Z2.out hb3.size
  have HV3 := Lib.hid hV3
  have S3 := Lib.hid s3
  have Z3 := Lib.hid z3
  have R14 := Lib.hid r14
  have T14 := Lib.hid t14
  have N3 := Lib.hid (new_there w3)
  clear hV3 b3 z3 hb3 r14 t14 R52 B2 s3 HV2 N2 R13 T13
  go_wp2_with (first | (refine wp_store_hdr rfl (.tmp 14) (.tmp 50) rfl w3.heap.size rfl q.cells rfl (size_hdr q) (one_hdr q) (N3.out) V3 HV3.out ?_) | (refine wp_load_hdr rfl (.tmp 13) rfl w2.heap.size rfl p.cells rfl R133.out ?_))
  refine (KPQ.out _ (laid_below B3.out L0.out)).mono ?_
  rintro e w4 ⟨rfl, hb4⟩
  obtain ⟨V4, hV4, r134, z4, b4, rr4, tt4⟩ := set_hdr w4 w2.heap.size pq.cells (size_hdr _) (there_below hb4 T133.out)
  have B4 := Lib.hid (b4 _ _ (Nat.le_of_lt S2.out) (aid.kb hb4 B3.out))
  have R54 := Lib.hid (rr4 _ _ (Nat.ne_of_lt S2.out) (row_below hb4 R53.out))
  have R144 := Lib.hid (rr4 _ _ (Nat.ne_of_gt S3.out) (row_below hb4 R14.out))
  have T144 := Lib.hid (tt4 _ _ (there_below hb4 T14.out))
  have N4 := Lib.hid (there_below hb4 T133.out)
  have HV4 := Lib.hid hV4
  have R134 := Lib.hid r134
  have Z4 := Lib.hid (show w3.heap.size < V4.heap.size by rw [z4]; exact Nat.lt_of_lt_of_le Z3.out hb4.size)
  clear hV4 r134 z4 b4 rr4 tt4 hb4 T133 R53 B3 HV3 N3 R14 T14 R133
  go_wp2_with (first | (refine wp_store_hdr rfl (.tmp 13) (.tmp 77) rfl w2.heap.size rfl pq.cells rfl (size_hdr pq) (one_hdr pq) (N4.out) V4 HV4.out ?_) | (refine wp_load_hdr rfl (.tmp 14) rfl w3.heap.size rfl q.cells rfl R144.out ?_))
  refine (KQP.out _ (laid_below B4.out L0.out)).mono ?_
  rintro e w5 ⟨rfl, hb5⟩
  obtain ⟨V5, hV5, r145, z5, b5, rr5, tt5⟩ := set_hdr w5 w3.heap.size pq.cells (size_hdr _) (there_below hb5 T144.out)
  have B5 := Lib.hid (b5 _ _ (Nat.le_of_lt (Nat.lt_trans S2.out S3.out)) (aid.kb hb5 B4.out))
  have R55 := Lib.hid (rr5 _ _ (Nat.ne_of_lt (Nat.lt_trans S2.out S3.out)) (row_below hb5 R54.out))
  have R135 := Lib.hid (rr5 _ _ (Nat.ne_of_lt S3.out) (row_below hb5 R134.out))
  have N5 := Lib.hid (there_below hb5 T144.out)
  have HV5 := Lib.hid hV5
  have R145 := Lib.hid r145
  clear hV5 r145 z5 b5 rr5 tt5 hb5 T144 R54 B4 HV4 N4 R134 R144
  go_wp2_with (first | (refine wp_store_hdr rfl (.tmp 14) (.tmp 84) rfl w3.heap.size rfl pq.cells rfl (size_hdr pq) (one_hdr pq) (N5.out) V5 HV5.out ?_) | (refine wp_load_hdr rfl (.tmp 13) rfl w2.heap.size rfl pq.cells rfl R135.out ?_) | (refine wp_load_hdr rfl (.tmp 14) rfl w3.heap.size rfl pq.cells rfl R145.out ?_))
  go_ret
  exact ⟨rfl, B5.out⟩

end Go.Proofs.YtedlclgimeafeaaDoor.lawTwiceC
