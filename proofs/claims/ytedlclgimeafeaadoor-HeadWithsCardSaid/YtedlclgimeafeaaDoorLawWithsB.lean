import Derived.Test.YtedlclgimeafeaaDoorHead8
import Derived.Deep.RegionHeld3
/- A part of HeadWiths. -/
set_option linter.unusedVariables false
set_option linter.unusedSimpArgs false
namespace Go.Proofs.YtedlclgimeafeaaDoor.lawWithsB
open Go.ChangeShapes Go.WideShapes Go.ChangeAt Go.RowKit Go.Proofs.YtedlclgimeafeaaDoor.frame Go.Proofs.YtedlclgimeafeaaDoor.hmath Go.Proofs.YtedlclgimeafeaaDoor.head1 Go.Proofs.YtedlclgimeafeaaDoor.head2 Go.Proofs.YtedlclgimeafeaaDoor.hrow Go.Proofs.YtedlclgimeafeaaDoor.head3 Go.Proofs.YtedlclgimeafeaaDoor.head5 Go.Proofs.YtedlclgimeafeaaDoor.head6 Go.Proofs.YtedlclgimeafeaaDoor.head7 Go.Proofs.YtedlclgimeafeaaDoor.head8

/-- a new array of nine numbers, in which some are written -/
theorem new_nine (w : World) (cs : Array Value) (hsz : cs.size = 9) : ∃ V, (w.alloc (.cells zero9 36)).setCells w.heap.size 0 cs.toList = V ∧ V.rangeAt w.heap.size 0 cs.toList ∧ Below w.heap.size w V ∧ (w.alloc (.cells zero9 36)).there w.heap.size 0 9 :=
  ⟨_, rfl, World.rangeAt_setCells_same _ _ _ _ (by rw [Array.length_toList, hsz]; exact alloc_there w zero9 _), below_setCells (Nat.le_refl _) _ _ _ ((Below.refl _ _).alloc (Nat.le_refl _) _), alloc_there w zero9 _⟩

theorem nums_at (h : Hd) (k : Nat) (hk : k < 9) : (nums h).toList[k]? = some (.int .u64 (getI h k)) := by
  have : k = 0 ∨ k = 1 ∨ k = 2 ∨ k = 3 ∨ k = 4 ∨ k = 5 ∨ k = 6 ∨ k = 7 ∨ k = 8 := by omega
  rcases this with rfl | rfl | rfl | rfl | rfl | rfl | rfl | rfl | rfl <;> rfl

theorem lt_of_range {W : World} {b : Nat} {cs : List Value} (h : W.rangeAt b 0 cs) (hl : cs.length = 19) : b < W.heap.size := by
  have := h 0 (cs[0]'(by omega)) (List.getElem?_eq_getElem (by omega))
  exact World.block_lt_of_cell? W _ this
theorem sk_call {w W W' : World} {E : Nat} {gl hl : List Value} (hb : Below W.heap.size W W') (hS : W.rangeAt E 0 gl ∧ W.rangeAt w.heap.size 0 hl ∧ Below w.heap.size w W) : W'.rangeAt E 0 gl ∧ W'.rangeAt w.heap.size 0 hl ∧ Below w.heap.size w W' :=
  ⟨row_below hb hS.1, row_below hb hS.2.1, aid.kb hb hS.2.2⟩
theorem sk_alloc {w W : World} {E : Nat} {gl hl : List Value} (o : Obj) (hS : W.rangeAt E 0 gl ∧ W.rangeAt w.heap.size 0 hl ∧ Below w.heap.size w W) : (W.alloc o).rangeAt E 0 gl ∧ (W.alloc o).rangeAt w.heap.size 0 hl ∧ Below w.heap.size w (W.alloc o) :=
  sk_call ((Below.refl _ _).alloc (Nat.le_refl _) o) hS
theorem sk_set {w W : World} {E b : Nat} {gl hl : List Value} (vs : List Value) (hE : E < b) (hb : w.heap.size < b) (hS : W.rangeAt E 0 gl ∧ W.rangeAt w.heap.size 0 hl ∧ Below w.heap.size w W) :
    (W.setCells b 0 vs).rangeAt E 0 gl ∧ (W.setCells b 0 vs).rangeAt w.heap.size 0 hl ∧ Below w.heap.size w (W.setCells b 0 vs) :=
  ⟨World.rangeAt_setCells_apart hS.1 _ _ _ (.inl (by omega)), World.rangeAt_setCells_apart hS.2.1 _ _ _ (.inl (by omega)), below_setCells (by omega) _ _ _ hS.2.2⟩
theorem laidS {w W : World} {E : Nat} {gl hl : List Value} (hS : W.rangeAt E 0 gl ∧ W.rangeAt w.heap.size 0 hl ∧ Below w.heap.size w W) (L : Laid w) : Laid W := laid_below hS.2.2 L
theorem sk_new {w W : World} {E b : Nat} {gl hl : List Value} (bl : List Value) (hl19 : bl.length = 19) (ht : W.there b 0 19) (hE : E < b) (hb : w.heap.size < b) (hS : W.rangeAt E 0 gl ∧ W.rangeAt w.heap.size 0 hl ∧ Below w.heap.size w W) :
    ∃ V, W.setCells b 0 bl = V ∧ V.rangeAt b 0 bl ∧ (V.rangeAt E 0 gl ∧ V.rangeAt w.heap.size 0 hl ∧ Below w.heap.size w V) :=
  ⟨_, rfl, World.rangeAt_setCells_same _ b 0 bl (by rw [hl19]; exact ht), sk_set bl hE hb hS⟩
theorem step_store {ops : Array Oper} {o : Oper} {a : Act} {K : Act → World → Prop} {Q : Exit → Act → World → Prop} {E : Prop} {w : World} (hw : Region.wanted o (yielded ops a.tmps) = true) (x y : Operand) (ho : o.op = .store 33 x y) (b : Nat) (hx : a.eval x = .pointer (some ⟨b, 0, none⟩))
    (cs : List Value) (hy : a.eval y = .agg cs.toArray) (h19 : cs.length = 19) (h1 : ∀ v ∈ cs, v.oneCell' = true) (ht : w.there b 0 19) (V : World) (hV : w.setCells b 0 cs = V) (h : K (a.put o.dst undef) V) :
    if Region.wanted o (yielded ops a.tmps) = true then Oper.wp Tryd.prog o a w K Q else E := by
  rw [if_pos hw]
  subst hV
  refine wp_store_mid 33 x y ho b 0 cs.toArray hx hy (by rw [List.size_toArray, h19]; exact ht) (by rw [infoHdr, List.size_toArray, h19]) (all_oneCell_toArray h1) ?_
  rw [List.toList_toArray]
  exact h
theorem zero_there (W : World) : (W.alloc (.cells #[.int .i64 0, .int .u8 0, .int .u8 0, .int .u8 0, .int .u8 0, .int .u8 0, .int .u8 0, .int .u8 0, .int .u8 0, .int .u8 0, .int .u8 0, .int .u8 0, .int .u8 0, .int .i64 0, .int .u32 0, .int .u32 0, .int .i64 0, .int .i64 0, .int .i64 0] 33)).there W.heap.size 0 19 := new_there W

set_option maxRecDepth 100000 in
set_option maxHeartbeats 4000000 in
theorem good (h g b : Hd) (f n x v c : Int) (w : World)
    (KF : Hid (∀ w, Laid w → Calls Tryd.prog 9 #[.int .i64 f] w fun e w' => e = .returned (.int .u64 x) ∧ w = w'))
    (KW : Hid (∀ w, Laid w → Calls Tryd.prog 13 #[h.val, .int .i64 f, .int .u64 n] w fun e w' => e = .returned (.tuple #[.agg g.cells, .int .i64 0]) ∧ Below w.heap.size w w'))
    (KGg : Hid (∀ w, Laid w → Calls Tryd.prog 10 #[g.val, .int .i64 f] w fun e w' => e = .returned (.int .u64 n) ∧ Below w.heap.size w w'))
    (KGh : Hid (∀ w, Laid w → Calls Tryd.prog 10 #[h.val, .int .i64 f] w fun e w' => e = .returned (.int .u64 v) ∧ Below w.heap.size w w'))
    (KNh : Hid (∀ w, Calls Tryd.prog 12 #[h.val] w fun e w' => e = .returned (.agg (nums h)) ∧ Below w.heap.size w w'))
    (KNg : Hid (∀ w, Calls Tryd.prog 12 #[g.val] w fun e w' => e = .returned (.agg (nums g)) ∧ Below w.heap.size w w'))
    (KB : Hid (∀ w, Laid w → Calls Tryd.prog 13 #[g.val, .int .i64 f, .int .u64 v] w fun e w' => e = .returned (.tuple #[.agg b.cells, .int .i64 0]) ∧ Below w.heap.size w w'))
    (KC : Hid (∀ w, Laid w → Calls Tryd.prog 11 #[h.val] w fun e w' => e = .returned (.int .i64 c) ∧ Below w.heap.size w w'))
    (HB : Hid (c = 0 → b = h)) (HN : Hid (∀ k : Int, k ≠ f → getI g k = getI h k))
    (L : Laid w) (hf : ¬ f < 0) (hf2 : f < 9) (hx : n ≤ x) :
    Calls Tryd.prog 5 #[h.val, .int .i64 f, .int .u64 n] w fun e w' => e = .returned (.bool true) ∧ Below w.heap.size w w' := by
  have Q := eql_hdr h
  obtain ⟨g0, e0, hv0, hg0, -⟩ := with_parts zeroHd 8 80
  obtain ⟨rfl, rfl⟩ := hg0 (by decide)
  have K0 := Lib.hid (fun w L => with_any zeroHd 8 80 (by unfold hmath.I64; omega) (by unfold hmath.U64; omega) w L)
  rw [hv0] at K0
  have c80 : (setI zeroHd 8 80).cells.toList[18]? = some (.int .i64 80) := rfl
  obtain ⟨g0, hg0'⟩ : ∃ g0, g0 = setI zeroHd 8 80 := ⟨_, rfl⟩
  rw [← hg0'] at K0 c80
  clear hg0' hv0
  have L0 := Lib.hid L
  have R3 := Lib.hid (alloc_row w h.cells 33)
  have B0 := Lib.hid ((Below.refl w.heap.size w).alloc (Nat.le_refl _) (.cells h.cells 33))
  have s0 : w.heap.size < (w.alloc (.cells h.cells 33)).heap.size := by simp
  have S0 := Lib.hid s0
  clear s0 L hg0
  simp only [Hd.val] at K0 KW KGg KGh KNh KNg KB KC ⊢
  go_enter Tryd.func5, Tryd.ntmps5
  go_wp2_with (refine wp_build_zero rfl rfl ?_)
  refine (K0.out _ (laid_below B0.out L0.out)).mono ?_
  rintro e w1 ⟨rfl, hb1⟩
  obtain ⟨V1, hV1, r7, t7, b1, z1⟩ := new_hdr w1 g0.cells (size_hdr _)
  have B1 := Lib.hid (aid.kb b1 (aid.kb hb1 B0.out))
  have R31 := Lib.hid (row_below b1 (row_below hb1 R3.out))
  have c18 := row_cell r7 18 _ c80
  have HV1 := Lib.hid hV1
  have N1 := Lib.hid (new_there w1)
  clear hV1 b1 z1 hb1 R3 B0 S0 r7 t7 c80
  go_wp2_with (first | (refine wp_store_hdr rfl (.tmp 7) (.tmp 18) rfl w1.heap.size rfl g0.cells rfl (size_hdr g0) (one_hdr g0) (N1.out) V1 HV1.out ?_) | (refine wp_load_hdr rfl (.tmp 3) rfl w.heap.size rfl h.cells rfl R31.out ?_))
  refine (KW.out _ (laid_below B1.out L0.out)).mono ?_
  rintro e w2 ⟨rfl, hb2⟩
  obtain ⟨V2, hV2, r9, t9, b2, z2⟩ := new_hdr w2 g.cells (size_hdr _)
  have B2 := Lib.hid (aid.kb b2 (aid.kb hb2 B1.out))
  have R32 := Lib.hid (row_below b2 (row_below hb2 R31.out))
  have HV2 := Lib.hid hV2
  have R92 := Lib.hid r9
  have N2 := Lib.hid (new_there w2)
  clear hV2 b2 z2 hb2 r9 t9 R31 B1 HV1 N1 c18
  go_wp2_with (refine wp_store_hdr rfl (.tmp 9) (.tmp 32) rfl w2.heap.size rfl g.cells rfl (size_hdr g) (one_hdr g) (N2.out) V2 HV2.out ?_)
  refine (KF.out _ (laid_below B2.out L0.out)).mono ?_
  rintro e w' ⟨rfl, rfl⟩
  go_wp2_with (refine wp_load_hdr rfl (.tmp 9) rfl w2.heap.size rfl g.cells rfl R92.out ?_)
  refine (KGg.out _ (laid_below B2.out L0.out)).mono ?_
  rintro e w3 ⟨rfl, hb3⟩
  have B3 := Lib.hid (aid.kb hb3 B2.out)
  have R33 := Lib.hid (row_below hb3 R32.out)
  have R93 := Lib.hid (row_below hb3 R92.out)
  clear hb3 B2 R32 R92 HV2 N2
  go_wp2_with (refine wp_load_hdr rfl (.tmp 3) rfl w.heap.size rfl h.cells rfl R33.out ?_)
  refine (KNh.out _).mono ?_
  rintro e w4 ⟨rfl, hb4⟩
  obtain ⟨V4, hV4, rA, bV4, tV4⟩ := new_nine w4 (nums h) rfl
  have HV4 := Lib.hid hV4
  have T4 := Lib.hid tV4
  have B4 := Lib.hid (aid.kb bV4 (aid.kb hb4 B3.out))
  have R34 := Lib.hid (row_below bV4 (row_below hb4 R33.out))
  have R94 := Lib.hid (row_below bV4 (row_below hb4 R93.out))
  have RA4 := Lib.hid rA
  have oA := Lib.hid (one_nums h)
  clear hb4 hV4 rA bV4 tV4 B3 R33 R93
  go_wp2_with (first | (refine wp_store_nine rfl (.tmp 10) (.tmp 63) rfl w4.heap.size rfl (nums h) rfl rfl oA.out T4.out V4 HV4.out ?_) | (refine wp_load_hdr rfl (.tmp 9) rfl w2.heap.size rfl g.cells rfl R94.out ?_))
  refine (KNg.out _).mono ?_
  rintro e w5 ⟨rfl, hb5⟩
  obtain ⟨V5, hV5, rD, bV5, tV5⟩ := new_nine w5 (nums g) rfl
  have HV5 := Lib.hid hV5
  have T5 := Lib.hid tV5
  have B5 := Lib.hid (aid.kb bV5 (aid.kb hb5 B4.out))
  have R35 := Lib.hid (row_below bV5 (row_below hb5 R34.out))
  have R95 := Lib.hid (row_below bV5 (row_below hb5 R94.out))
  have RA5 := Lib.hid (row_below bV5 (row_below hb5 RA4.out))
  have RD5 := Lib.hid rD
  have oD := Lib.hid (one_nums g)
  clear hb5 hV5 rD bV5 tV5 B4 R34 R94 RA4 HV4 T4 oA
  obtain ⟨A, hA⟩ : ∃ A, A = w4.heap.size := ⟨_, rfl⟩
  obtain ⟨D, hD⟩ : ∃ D, D = w5.heap.size := ⟨_, rfl⟩
  obtain ⟨E, hE⟩ : ∃ E, E = w2.heap.size := ⟨_, rfl⟩
  rw [← hA] at RA5
  rw [← hD] at RD5
  rw [← hE] at R95
  have HA := Lib.hid hA
  have HD := Lib.hid hD
  have HE := Lib.hid hE
  clear hA hD hE
  go_wp2_with (refine wp_store_nine rfl (.tmp 11) (.tmp 65) rfl w5.heap.size rfl (nums g) rfl rfl oD.out T5.out V5 HV5.out ?_)
  rw [← HA.out, ← HD.out, ← HE.out]
  clear HA HD HE T5 oD HV5 KNh KNg KF KW KGg K0
  go_loopw [12, 66] (fun iv jv wr => ∃ k : Nat, k ≤ 9 ∧ jv = .int .i64 k ∧ Hid (wr.rangeAt w.heap.size 0 h.cells.toList) ∧ Hid (wr.rangeAt E 0 g.cells.toList) ∧ Hid (wr.rangeAt A 0 (nums h).toList) ∧ Hid (wr.rangeAt D 0 (nums g).toList) ∧ Hid (Below w.heap.size w wr)) (fun _ j _ => 9 - (intOf j).toNat)
  case atStart => exact ⟨0, by omega, rfl, R35, R95, RA5, RD5, B5⟩
  case round =>
    obtain ⟨k, hk9, rfl, R3, R9, RA, RD, B⟩ := hrel
    by_cases hlt : k < 9
    · have k3 := fun s : aid.Keep wr => aid.keep_cell (row_cell RA.out k _ (nums_at h k hlt)) s
      have k4 := fun s : aid.Keep wr => aid.keep_cell (row_cell RD.out k _ (nums_at g k hlt)) s
      by_cases hkf : (k : Int) = f
      · have t1 : ((k : Int) != f) = false := by simpa using hkf
        have HK := Lib.hid hkf
        clear hkf
        go_wp2_with fail
        refine aid.wp_region_keep (by kernel_rfl) (by kernel_rfl) ?_
        repeat (go_big_quiet_step (fail))
        refine wpQuiet_nil ?_
        rintro _ ⟨s, rfl⟩
        go_wp2_with fail
        go_roundw
        case rel => exact ⟨k + 1, by omega, by go_num, row_below s.below R3.out, row_below s.below R9.out, row_below s.below RA.out, row_below s.below RD.out, aid.kbk B.out s⟩
        case measure => simp [intOf]; omega
      · have e1 := HN.out k hkf
        rw [e1] at k4
        have t1 : ((k : Int) != f) = true := by simpa using hkf
        have HK := Lib.hid hkf
        obtain ⟨x1, hx1⟩ : ∃ x1, x1 = getI h k := ⟨_, rfl⟩
        rw [← hx1] at k3 k4
        clear hkf e1 hx1
        go_wp2_with fail
        refine aid.wp_region_keep (by kernel_rfl) (by kernel_rfl) ?_
        repeat (go_big_quiet_step (fail))
        refine wpQuiet_nil ?_
        rintro _ ⟨s, rfl⟩
        go_wp2_with fail
        go_roundw
        case rel => exact ⟨k + 1, by omega, by go_num, row_below s.below R3.out, row_below s.below R9.out, row_below s.below RA.out, row_below s.below RD.out, aid.kbk B.out s⟩
        case measure => simp [intOf]; omega
    · have hk' : k = 9 := by omega
      subst hk'
      have LW := Lib.hid (laid_below B.out L0.out)
      have hE := lt_of_range R9.out (by rw [Array.length_toList]; exact size_hdr g)
      have hH := lt_of_range R3.out (by rw [Array.length_toList]; exact size_hdr h)
      obtain ⟨gl, hgl⟩ : ∃ gl : List Value, g.cells = gl.toArray := ⟨g.cells.toList, by simp⟩
      obtain ⟨hl, hhl⟩ : ∃ hl : List Value, h.cells = hl.toArray := ⟨h.cells.toList, by simp⟩
      obtain ⟨bl, hbl⟩ : ∃ bl : List Value, b.cells = bl.toArray := ⟨b.cells.toList, by simp⟩
      have g19 : gl.length = 19 := by have := size_hdr g; rw [hgl] at this; simpa using this
      have h19 : hl.length = 19 := by have := size_hdr h; rw [hhl] at this; simpa using this
      have b19 : bl.length = 19 := by have := size_hdr b; rw [hbl] at this; simpa using this
      have bone : ∀ v ∈ bl, v.oneCell' = true := fun v hv => by
        have := one_hdr b
        rw [hbl] at this
        exact (Array.all_eq_true_iff_forall_mem.1 this) v (by simpa using hv)
      have r9 : wr.rangeAt E 0 gl := by have := R9.out; rw [hgl] at this; simpa using this
      have r3 : wr.rangeAt w.heap.size 0 hl := by have := R3.out; rw [hhl] at this; simpa using this
      have hbW := B.out
      have KG1 := KGh
      have KB1 := KB
      rw [hhl] at KG1
      rw [hgl, hbl] at KB1
      have hU := Tryd.underlying33
      have hI : (Tryd.prog.info? 33).map (·.size) = some 19 := infoHdr
      have HU := Lib.hid hU
      clear hU
      go_wp2_with fail
      refine wp_region_noPanic ?_
      refine wp_region_held_drew (S := fun W => W.rangeAt E 0 gl ∧ W.rangeAt w.heap.size 0 hl ∧ Below w.heap.size w W) (by kernel_rfl) ⟨r9, r3, hbW.drew⟩ (fun hS0 => ?_)
      change wpAnyH _ _ _ _ _ 12 _ _ _
      have hS0' : wr.drew.rangeAt E 0 gl ∧ wr.drew.rangeAt w.heap.size 0 hl ∧ Below w.heap.size w wr.drew := hS0
      clear hS0
      refine wpAnyH_take (i := 0) (v := .agg gl.toArray) rfl (by kernel_rfl) (by kernel_rfl) (by kernel_rfl) (fun _ _ _ h => h) (yieldsIf_load_mid rfl 33 (.tmp 9) rfl E 0 rfl gl _ (fun W hS => hS.1) HU.out rfl (by rw [hI, g19])) hS0' ?_
      try simp only [Act.put, List.setIfInBounds_toArray, List.set_cons_zero, List.set_cons_succ]
      refine wpAnyH_take (i := 1) (v := .int .i64 f) rfl (by kernel_rfl) (by kernel_rfl) (by kernel_rfl) (fun _ _ _ h => h) (.inl ⟨rfl, fun _ _ => rfl⟩) hS0' ?_
      try simp only [Act.put, List.setIfInBounds_toArray, List.set_cons_zero, List.set_cons_succ]
      refine wpAnyH_take (i := 2) (v := .agg hl.toArray) rfl (by kernel_rfl) (by kernel_rfl) (by kernel_rfl) (fun _ _ _ h => h) (yieldsIf_load_mid rfl 33 (.tmp 3) rfl w.heap.size 0 rfl hl _ (fun W hS => hS.2.1) HU.out rfl (by rw [hI, h19])) hS0' ?_
      try simp only [Act.put, List.setIfInBounds_toArray, List.set_cons_zero, List.set_cons_succ]
      refine wpAnyH_take (i := 3) (v := .int .i64 f) rfl (by kernel_rfl) (by kernel_rfl) (by kernel_rfl) (fun _ _ _ h => h) (.inl ⟨rfl, fun _ _ => rfl⟩) hS0' ?_
      try simp only [Act.put, List.setIfInBounds_toArray, List.set_cons_zero, List.set_cons_succ]
      refine wpAnyH_ready (rs := [4, 9]) (by kernel_rfl) (by simp) ?_
      refine AllReadyH.cons rfl (fun K hK => ?_) (AllReadyH.cons rfl (fun K hK => ?_) AllReadyH.nil)
      · go_simp
        refine (KG1.out _ (laidS hS0' L0.out)).mono ?_
        rintro e w7 ⟨rfl, hb7⟩
        have hS1 := sk_call hb7 hS0'
        go_wp2_with fail
        refine hK.out _ _ hS1 (fun _ => ?_)
        clear hK K
        try simp only [Act.put, List.setIfInBounds_toArray, List.set_cons_zero, List.set_cons_succ]
        have z7 : wr.heap.size ≤ w7.heap.size := hb7.size
        refine wpAnyH_ready (rs := [5, 9]) (by kernel_rfl) (by simp) ?_
        refine AllReadyH.cons rfl (fun K hK => ?_) (AllReadyH.cons rfl (fun K hK => ?_) AllReadyH.nil)
        · go_simp
          refine (KB1.out _ (laidS hS1 L0.out)).mono ?_
          rintro e w8 ⟨rfl, hb8⟩
          have hS2 := sk_call hb8 hS1
          go_wp2_with fail
          refine hK.out _ _ hS2 (fun _ => ?_)
          clear hK K
          try simp only [Act.put, List.setIfInBounds_toArray, List.set_cons_zero, List.set_cons_succ]
          have z8 : w7.heap.size ≤ w8.heap.size := hb8.size
          refine wpAnyH_take (i := 6) (v := .tuple #[.agg bl.toArray, .int .i64 0]) rfl (by kernel_rfl) (by kernel_rfl) (by kernel_rfl) (fun _ _ _ h => h) (.inl ⟨rfl, fun _ _ => rfl⟩) hS2 ?_
          try simp only [Act.put, List.setIfInBounds_toArray, List.set_cons_zero, List.set_cons_succ]
          refine wpAnyH_take (i := 7) (v := .agg bl.toArray) rfl (by kernel_rfl) (by kernel_rfl) (by kernel_rfl) (fun _ _ _ h => h) (.inl ⟨rfl, fun _ _ => rfl⟩) hS2 ?_
          try simp only [Act.put, List.setIfInBounds_toArray, List.set_cons_zero, List.set_cons_succ]
          refine wpAnyH_take (i := 8) (v := .int .i64 0) rfl (by kernel_rfl) (by kernel_rfl) (by kernel_rfl) (fun _ _ _ h => h) (.inl ⟨rfl, fun _ _ => rfl⟩) hS2 ?_
          try simp only [Act.put, List.setIfInBounds_toArray, List.set_cons_zero, List.set_cons_succ]
          refine wpAnyH_ready (rs := [9]) (by kernel_rfl) (by simp) ?_
          refine AllReadyH.cons rfl (fun K hK => ?_) AllReadyH.nil
          go_simp
          have hS3 := sk_alloc (.cells zeroHd.cells 33) hS2
          refine hK.out _ _ hS3 (fun _ => ?_)
          clear hK K
          try simp only [Act.put, List.setIfInBounds_toArray, List.set_cons_zero, List.set_cons_succ]
          refine wpAnyH_ready (rs := [10]) (by kernel_rfl) (by simp) ?_
          refine AllReadyH.cons rfl (fun K hK => ?_) AllReadyH.nil
          have hT6 : World.there (w8.alloc (.cells zeroHd.cells 33)) w8.heap.size 0 19 := new_there w8
          have hE6 : E < w8.heap.size := by omega
          have hH6 : w.heap.size < w8.heap.size := by omega
          obtain ⟨V6, hV6, r13, hS9⟩ := sk_new bl b19 hT6 hE6 hH6 hS3
          refine step_store rfl (.tmp 13) (.tmp 89) rfl w8.heap.size rfl bl rfl b19 bone hT6 V6 hV6 ?_
          refine hK.out _ _ hS9 (fun _ => ?_)
          clear hK K
          try simp only [Act.put, List.setIfInBounds_toArray, List.set_cons_zero, List.set_cons_succ]
          refine wpAnyH_take (i := 11) (v := .int .i64 0) rfl (by kernel_rfl) (by kernel_rfl) (by kernel_rfl) (fun _ _ _ h => h) (.inl ⟨rfl, fun _ _ => rfl⟩) hS9 ?_
          try simp only [Act.put, List.setIfInBounds_toArray, List.set_cons_zero, List.set_cons_succ]
          refine wpAnyH_done (by kernel_rfl) ?_ _
          refine NoPanic.normal ?_
          have B6 := Lib.hid hS9.2.2
          have R36 := Lib.hid (show V6.rangeAt w.heap.size 0 h.cells.toList by rw [hhl, List.toList_toArray]; exact hS9.2.1)
          have R136 := Lib.hid (show V6.rangeAt w8.heap.size 0 b.cells.toList by rw [hbl, List.toList_toArray]; exact r13)
          clear hS9 r13 hhl hgl hbl
          go_wp2_with (refine wp_load_hdr rfl (.tmp 3) rfl w.heap.size rfl h.cells rfl R36.out ?_)
          refine (KC.out _ (laid_below B6.out L0.out)).mono ?_
          rintro e w9 ⟨rfl, hb9⟩
          have B7 := Lib.hid (aid.kb hb9 B6.out)
          have R37 := Lib.hid (row_below hb9 R36.out)
          have R137 := Lib.hid (row_below hb9 R136.out)
          clear hb9
          by_cases hz : c = 0
          · have hbh := HB.out hz
            subst hz hbh
            go_wp2_with (first | (refine wp_load_hdr rfl (.tmp 13) rfl w8.heap.size rfl b.cells rfl R137.out ?_) | (refine wp_load_hdr rfl (.tmp 3) rfl w.heap.size rfl b.cells rfl R37.out ?_))
            go_ret
            exact ⟨rfl, B7.out⟩
          · have hzb : (c != 0) = true := by simpa using hz
            go_wp2_with fail
            go_ret
            exact ⟨rfl, B7.out⟩
        · go_simp
          have hS2 := sk_alloc (.cells zeroHd.cells 33) hS1
          refine hK.out _ _ hS2 (fun _ => ?_)
          clear hK K
          try simp only [Act.put, List.setIfInBounds_toArray, List.set_cons_zero, List.set_cons_succ]
          refine wpAnyH_ready (rs := [5]) (by kernel_rfl) (by simp) ?_
          refine AllReadyH.cons rfl (fun K hK => ?_) AllReadyH.nil
          go_simp
          refine (KB1.out _ (laidS hS2 L0.out)).mono ?_
          rintro e w8 ⟨rfl, hb8⟩
          have hS3 := sk_call hb8 hS2
          go_wp2_with fail
          refine hK.out _ _ hS3 (fun _ => ?_)
          clear hK K
          try simp only [Act.put, List.setIfInBounds_toArray, List.set_cons_zero, List.set_cons_succ]
          refine wpAnyH_take (i := 6) (v := .tuple #[.agg bl.toArray, .int .i64 0]) rfl (by kernel_rfl) (by kernel_rfl) (by kernel_rfl) (fun _ _ _ h => h) (.inl ⟨rfl, fun _ _ => rfl⟩) hS3 ?_
          try simp only [Act.put, List.setIfInBounds_toArray, List.set_cons_zero, List.set_cons_succ]
          refine wpAnyH_take (i := 7) (v := .agg bl.toArray) rfl (by kernel_rfl) (by kernel_rfl) (by kernel_rfl) (fun _ _ _ h => h) (.inl ⟨rfl, fun _ _ => rfl⟩) hS3 ?_
          try simp only [Act.put, List.setIfInBounds_toArray, List.set_cons_zero, List.set_cons_succ]
          refine wpAnyH_take (i := 8) (v := .int .i64 0) rfl (by kernel_rfl) (by kernel_rfl) (by kernel_rfl) (fun _ _ _ h => h) (.inl ⟨rfl, fun _ _ => rfl⟩) hS3 ?_
          try simp only [Act.put, List.setIfInBounds_toArray, List.set_cons_zero, List.set_cons_succ]
          refine wpAnyH_ready (rs := [10]) (by kernel_rfl) (by simp) ?_
          refine AllReadyH.cons rfl (fun K hK => ?_) AllReadyH.nil
          have hT6 : World.there w8 w7.heap.size 0 19 := there_below hb8 (new_there w7)
          have hE6 : E < w7.heap.size := by omega
          have hH6 : w.heap.size < w7.heap.size := by omega
          obtain ⟨V6, hV6, r13, hS9⟩ := sk_new bl b19 hT6 hE6 hH6 hS3
          refine step_store rfl (.tmp 13) (.tmp 89) rfl w7.heap.size rfl bl rfl b19 bone hT6 V6 hV6 ?_
          refine hK.out _ _ hS9 (fun _ => ?_)
          clear hK K
          try simp only [Act.put, List.setIfInBounds_toArray, List.set_cons_zero, List.set_cons_succ]
          refine wpAnyH_take (i := 11) (v := .int .i64 0) rfl (by kernel_rfl) (by kernel_rfl) (by kernel_rfl) (fun _ _ _ h => h) (.inl ⟨rfl, fun _ _ => rfl⟩) hS9 ?_
          try simp only [Act.put, List.setIfInBounds_toArray, List.set_cons_zero, List.set_cons_succ]
          refine wpAnyH_done (by kernel_rfl) ?_ _
          refine NoPanic.normal ?_
          have B6 := Lib.hid hS9.2.2
          have R36 := Lib.hid (show V6.rangeAt w.heap.size 0 h.cells.toList by rw [hhl, List.toList_toArray]; exact hS9.2.1)
          have R136 := Lib.hid (show V6.rangeAt w7.heap.size 0 b.cells.toList by rw [hbl, List.toList_toArray]; exact r13)
          clear hS9 r13 hhl hgl hbl
          go_wp2_with (refine wp_load_hdr rfl (.tmp 3) rfl w.heap.size rfl h.cells rfl R36.out ?_)
          refine (KC.out _ (laid_below B6.out L0.out)).mono ?_
          rintro e w9 ⟨rfl, hb9⟩
          have B7 := Lib.hid (aid.kb hb9 B6.out)
          have R37 := Lib.hid (row_below hb9 R36.out)
          have R137 := Lib.hid (row_below hb9 R136.out)
          clear hb9
          by_cases hz : c = 0
          · have hbh := HB.out hz
            subst hz hbh
            go_wp2_with (first | (refine wp_load_hdr rfl (.tmp 13) rfl w7.heap.size rfl b.cells rfl R137.out ?_) | (refine wp_load_hdr rfl (.tmp 3) rfl w.heap.size rfl b.cells rfl R37.out ?_))
            go_ret
            exact ⟨rfl, B7.out⟩
          · have hzb : (c != 0) = true := by simpa using hz
            go_wp2_with fail
            go_ret
            exact ⟨rfl, B7.out⟩
      · go_simp
        have hS1 := sk_alloc (.cells zeroHd.cells 33) hS0'
        refine hK.out _ _ hS1 (fun _ => ?_)
        clear hK K
        try simp only [Act.put, List.setIfInBounds_toArray, List.set_cons_zero, List.set_cons_succ]
        refine wpAnyH_ready (rs := [4]) (by kernel_rfl) (by simp) ?_
        refine AllReadyH.cons rfl (fun K hK => ?_) AllReadyH.nil
        go_simp
        refine (KG1.out _ (laidS hS1 L0.out)).mono ?_
        rintro e w7 ⟨rfl, hb7⟩
        have hS2 := sk_call hb7 hS1
        go_wp2_with fail
        refine hK.out _ _ hS2 (fun _ => ?_)
        clear hK K
        try simp only [Act.put, List.setIfInBounds_toArray, List.set_cons_zero, List.set_cons_succ]
        refine wpAnyH_ready (rs := [5]) (by kernel_rfl) (by simp) ?_
        refine AllReadyH.cons rfl (fun K hK => ?_) AllReadyH.nil
        go_simp
        refine (KB1.out _ (laidS hS2 L0.out)).mono ?_
        rintro e w8 ⟨rfl, hb8⟩
        have hS3 := sk_call hb8 hS2
        go_wp2_with fail
        refine hK.out _ _ hS3 (fun _ => ?_)
        clear hK K
        try simp only [Act.put, List.setIfInBounds_toArray, List.set_cons_zero, List.set_cons_succ]
        refine wpAnyH_take (i := 6) (v := .tuple #[.agg bl.toArray, .int .i64 0]) rfl (by kernel_rfl) (by kernel_rfl) (by kernel_rfl) (fun _ _ _ h => h) (.inl ⟨rfl, fun _ _ => rfl⟩) hS3 ?_
        try simp only [Act.put, List.setIfInBounds_toArray, List.set_cons_zero, List.set_cons_succ]
        refine wpAnyH_take (i := 7) (v := .agg bl.toArray) rfl (by kernel_rfl) (by kernel_rfl) (by kernel_rfl) (fun _ _ _ h => h) (.inl ⟨rfl, fun _ _ => rfl⟩) hS3 ?_
        try simp only [Act.put, List.setIfInBounds_toArray, List.set_cons_zero, List.set_cons_succ]
        refine wpAnyH_take (i := 8) (v := .int .i64 0) rfl (by kernel_rfl) (by kernel_rfl) (by kernel_rfl) (fun _ _ _ h => h) (.inl ⟨rfl, fun _ _ => rfl⟩) hS3 ?_
        try simp only [Act.put, List.setIfInBounds_toArray, List.set_cons_zero, List.set_cons_succ]
        refine wpAnyH_ready (rs := [10]) (by kernel_rfl) (by simp) ?_
        refine AllReadyH.cons rfl (fun K hK => ?_) AllReadyH.nil
        have hT6 : World.there w8 wr.heap.size 0 19 := there_below hb8 (there_below hb7 (new_there wr.drew))
        have hE6 : E < wr.heap.size := hE
        have hH6 : w.heap.size < wr.heap.size := hH
        obtain ⟨V6, hV6, r13, hS9⟩ := sk_new bl b19 hT6 hE6 hH6 hS3
        refine step_store rfl (.tmp 13) (.tmp 89) rfl wr.heap.size rfl bl rfl b19 bone hT6 V6 hV6 ?_
        refine hK.out _ _ hS9 (fun _ => ?_)
        clear hK K
        try simp only [Act.put, List.setIfInBounds_toArray, List.set_cons_zero, List.set_cons_succ]
        refine wpAnyH_take (i := 11) (v := .int .i64 0) rfl (by kernel_rfl) (by kernel_rfl) (by kernel_rfl) (fun _ _ _ h => h) (.inl ⟨rfl, fun _ _ => rfl⟩) hS9 ?_
        try simp only [Act.put, List.setIfInBounds_toArray, List.set_cons_zero, List.set_cons_succ]
        refine wpAnyH_done (by kernel_rfl) ?_ _
        refine NoPanic.normal ?_
        have B6 := Lib.hid hS9.2.2
        have R36 := Lib.hid (show V6.rangeAt w.heap.size 0 h.cells.toList by rw [hhl, List.toList_toArray]; exact hS9.2.1)
        have R136 := Lib.hid (show V6.rangeAt wr.heap.size 0 b.cells.toList by rw [hbl, List.toList_toArray]; exact r13)
        clear hS9 r13 hhl hgl hbl
        go_wp2_with (refine wp_load_hdr rfl (.tmp 3) rfl w.heap.size rfl h.cells rfl R36.out ?_)
        refine (KC.out _ (laid_below B6.out L0.out)).mono ?_
        rintro e w9 ⟨rfl, hb9⟩
        have B7 := Lib.hid (aid.kb hb9 B6.out)
        have R37 := Lib.hid (row_below hb9 R36.out)
        have R137 := Lib.hid (row_below hb9 R136.out)
        clear hb9
        by_cases hz : c = 0
        · have hbh := HB.out hz
          subst hz hbh
          go_wp2_with (first | (refine wp_load_hdr rfl (.tmp 13) rfl wr.heap.size rfl b.cells rfl R137.out ?_) | (refine wp_load_hdr rfl (.tmp 3) rfl w.heap.size rfl b.cells rfl R37.out ?_))
          go_ret
          exact ⟨rfl, B7.out⟩
        · have hzb : (c != 0) = true := by simpa using hz
          go_wp2_with fail
          go_ret
          exact ⟨rfl, B7.out⟩

end Go.Proofs.YtedlclgimeafeaaDoor.lawWithsB
