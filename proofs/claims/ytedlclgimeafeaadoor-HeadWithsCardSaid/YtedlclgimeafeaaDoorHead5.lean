import Derived.Test.YtedlclgimeafeaaDoorHead4
import Derived.ChangeKeysEq
/- Contract of (head.Header).With: the two addresses, and the whole. -/
set_option linter.unusedVariables false
set_option linter.unusedSimpArgs false
namespace Go.Proofs.YtedlclgimeafeaaDoor.head5
open Go.RowKit Go.Proofs.YtedlclgimeafeaaDoor.hmath Go.Proofs.YtedlclgimeafeaaDoor.frame Go.Proofs.YtedlclgimeafeaaDoor.head1 Go.Proofs.YtedlclgimeafeaaDoor.hrow Go.Proofs.YtedlclgimeafeaaDoor.head3 Go.Proofs.YtedlclgimeafeaaDoor.head4

theorem one_mac (m0 m1 m2 m3 m4 m5 : Int) : (#[Value.int .u8 m0, .int .u8 m1, .int .u8 m2, .int .u8 m3, .int .u8 m4, .int .u8 m5] : Array Value).all (·.oneCell') = true := by simp [Value.oneCell']

set_option maxRecDepth 100000 in
set_option maxHeartbeats 4000000 in
theorem ok_1 (h : Hd) (n full wid : Int) (w : World) (hwid : (wid == 0) = false) (hn0 : 0 ≤ n) (hn : n ≤ full) (hfull : full ≤ 281474976710655)
    (k1 : ∀ w', Laid w' → Calls Tryd.prog 8 #[.int .i64 1] w' fun e w'' => e = .returned (.int .i64 wid) ∧ w' = w'')
    (k2 : ∀ w', Laid w' → Calls Tryd.prog 9 #[.int .i64 1] w' fun e w'' => e = .returned (.int .u64 full) ∧ w' = w'') (L : Laid w) :
    Calls Tryd.prog 13 #[h.val, .int .i64 1, .int .u64 n] w fun e w' => e = .returned (.tuple #[({ h with s := ofI n } : Hd).val, .int .i64 0]) ∧ Below w.heap.size w w' := by
  have K3 := Lib.hid (fun w => hmac.of_any n hn0 (by omega) w)
  obtain ⟨⟨m0, m1, m2, m3, m4, m5⟩, hm⟩ : ∃ m, m = ofI n := ⟨_, rfl⟩
  rw [← hm] at K3 ⊢
  clear hm
  obtain ⟨p, ⟨a0, a1, a2, a3, a4, a5⟩, ⟨d0, d1, d2, d3, d4, d5⟩, t, si, di, pr, sp, dp⟩ := h
  simp only [Hd.val, Hd.cells, Mac.val] at K3 ⊢
  have RA := ready_two w #[.int .i64 p, .int .u8 a0, .int .u8 a1, .int .u8 a2, .int .u8 a3, .int .u8 a4, .int .u8 a5, .int .u8 d0, .int .u8 d1, .int .u8 d2, .int .u8 d3, .int .u8 d4, .int .u8 d5, .int .i64 t, .int .u32 si, .int .u32 di, .int .i64 pr, .int .i64 sp, .int .i64 dp] zeroHd.cells rfl
  have LL := Lib.hid (laid_below RA.below L)
  have hS : ((w.alloc (.cells #[.int .i64 p, .int .u8 a0, .int .u8 a1, .int .u8 a2, .int .u8 a3, .int .u8 a4, .int .u8 a5, .int .u8 d0, .int .u8 d1, .int .u8 d2, .int .u8 d3, .int .u8 d4, .int .u8 d5, .int .i64 t, .int .u32 si, .int .u32 di, .int .i64 pr, .int .i64 sp, .int .i64 dp] 33)).alloc (.cells zeroHd.cells 33)).heap.size = w.heap.size + 2 := by simp
  have hTh : ((w.alloc (.cells #[.int .i64 p, .int .u8 a0, .int .u8 a1, .int .u8 a2, .int .u8 a3, .int .u8 a4, .int .u8 a5, .int .u8 d0, .int .u8 d1, .int .u8 d2, .int .u8 d3, .int .u8 d4, .int .u8 d5, .int .i64 t, .int .u32 si, .int .u32 di, .int .i64 pr, .int .i64 sp, .int .i64 dp] 33)).alloc (.cells zeroHd.cells 33)).there w.heap.size 0 19 := World.there_alloc (alloc_there w #[.int .i64 p, .int .u8 a0, .int .u8 a1, .int .u8 a2, .int .u8 a3, .int .u8 a4, .int .u8 a5, .int .u8 d0, .int .u8 d1, .int .u8 d2, .int .u8 d3, .int .u8 d4, .int .u8 d5, .int .i64 t, .int .u32 si, .int .u32 di, .int .i64 pr, .int .i64 sp, .int .i64 dp] _) _
  have step : ∀ w1, Below ((w.alloc (.cells #[.int .i64 p, .int .u8 a0, .int .u8 a1, .int .u8 a2, .int .u8 a3, .int .u8 a4, .int .u8 a5, .int .u8 d0, .int .u8 d1, .int .u8 d2, .int .u8 d3, .int .u8 d4, .int .u8 d5, .int .i64 t, .int .u32 si, .int .u32 di, .int .i64 pr, .int .i64 sp, .int .i64 dp] 33)).alloc (.cells zeroHd.cells 33)).heap.size ((w.alloc (.cells #[.int .i64 p, .int .u8 a0, .int .u8 a1, .int .u8 a2, .int .u8 a3, .int .u8 a4, .int .u8 a5, .int .u8 d0, .int .u8 d1, .int .u8 d2, .int .u8 d3, .int .u8 d4, .int .u8 d5, .int .i64 t, .int .u32 si, .int .u32 di, .int .i64 pr, .int .i64 sp, .int .i64 dp] 33)).alloc (.cells zeroHd.cells 33)) w1 →
      w1.there w.heap.size 1 6 ∧ Ready w (w1.setCells w.heap.size 1 [.int .u8 m0, .int .u8 m1, .int .u8 m2, .int .u8 m3, .int .u8 m4, .int .u8 m5]) #[.int .i64 p, .int .u8 m0, .int .u8 m1, .int .u8 m2, .int .u8 m3, .int .u8 m4, .int .u8 m5, .int .u8 d0, .int .u8 d1, .int .u8 d2, .int .u8 d3, .int .u8 d4, .int .u8 d5, .int .i64 t, .int .u32 si, .int .u32 di, .int .i64 pr, .int .i64 sp, .int .i64 dp] := by
    intro w1 hb
    have h19 := there_below hb hTh
    have ht := there_part h19 1 6 (by omega)
    refine ⟨ht, ?_, World.there_setCells (there_below hb RA.there) _ _ _, below_setCells (Nat.le_refl _) _ _ _ (aid.kb hb RA.below)⟩
    exact splice (xs := [.int .i64 p]) (ys := [.int .u8 a0, .int .u8 a1, .int .u8 a2, .int .u8 a3, .int .u8 a4, .int .u8 a5]) (zs := [.int .u8 d0, .int .u8 d1, .int .u8 d2, .int .u8 d3, .int .u8 d4, .int .u8 d5, .int .i64 t, .int .u32 si, .int .u32 di, .int .i64 pr, .int .i64 sp, .int .i64 dp]) (vs := [.int .u8 m0, .int .u8 m1, .int .u8 m2, .int .u8 m3, .int .u8 m4, .int .u8 m5]) (row_below hb RA.row) rfl ht
  have ST := Lib.hid step
  have K1 := Lib.hid k1
  have K2 := Lib.hid k2
  clear k1 k2 L RA hS hTh step
  go_enter Tryd.func13, Tryd.ntmps13
  go_wp2_with fail
  refine (K1.out _ LL.out).mono ?_
  rintro e w' ⟨rfl, rfl⟩
  go_wp2_with fail
  refine (K2.out _ LL.out).mono ?_
  rintro e w' ⟨rfl, rfl⟩
  go_wp2_with fail
  refine (K3.out _).mono ?_
  rintro e w1 ⟨rfl, hb⟩
  obtain ⟨ht, RB⟩ := ST.out w1 hb
  obtain ⟨Wm, hWm⟩ : ∃ Wm, w1.setCells w.heap.size 1 [.int .u8 m0, .int .u8 m1, .int .u8 m2, .int .u8 m3, .int .u8 m4, .int .u8 m5] = Wm := ⟨_, rfl⟩
  rw [hWm] at RB
  obtain ⟨W2, hW2, hl2, hb2⟩ := ready_set RB rfl
  have HM := Lib.hid hWm
  have H1 := Lib.hid ht
  have HW := Lib.hid hW2
  have HL := Lib.hid hl2
  have HB := Lib.hid hb2
  have HR := Lib.hid RB.row
  have HT := Lib.hid RB.there
  clear hb ht RB hWm hW2 hl2 hb2
  go_upto_region 22 with (refine wp_store_mac rfl (.tmp 28) (.tmp 27) rfl w.heap.size 1 rfl #[.int .u8 m0, .int .u8 m1, .int .u8 m2, .int .u8 m3, .int .u8 m4, .int .u8 m5] rfl rfl (one_mac _ _ _ _ _ _) H1.out Wm HM.out ?_)
  refine wp_region_lit (wp_load_hdr rfl (.tmp 3) rfl w.heap.size rfl #[.int .i64 p, .int .u8 m0, .int .u8 m1, .int .u8 m2, .int .u8 m3, .int .u8 m4, .int .u8 m5, .int .u8 d0, .int .u8 d1, .int .u8 d2, .int .u8 d3, .int .u8 d4, .int .u8 d5, .int .i64 t, .int .u32 si, .int .u32 di, .int .i64 pr, .int .i64 sp, .int .i64 dp] rfl HR.out ?_)
  simp only [Act.put, List.setIfInBounds_toArray, List.set_cons_zero, List.set_cons_succ]
  refine wp_store_hdr rfl (.tmp 6) (.tmp 64) rfl (w.heap.size + 1) rfl #[.int .i64 p, .int .u8 m0, .int .u8 m1, .int .u8 m2, .int .u8 m3, .int .u8 m4, .int .u8 m5, .int .u8 d0, .int .u8 d1, .int .u8 d2, .int .u8 d3, .int .u8 d4, .int .u8 d5, .int .i64 t, .int .u32 si, .int .u32 di, .int .i64 pr, .int .i64 sp, .int .i64 dp] rfl (by rfl) (by simp [Value.oneCell']) HT.out W2 HW.out ?_
  simp only [Act.put]
  go_wp2_with fail
  exact bodyPost_ret (results_with rfl rfl HL.out) rfl ⟨rfl, HB.out⟩

set_option maxRecDepth 100000 in
set_option maxHeartbeats 4000000 in
theorem ok_2 (h : Hd) (n full wid : Int) (w : World) (hwid : (wid == 0) = false) (hn0 : 0 ≤ n) (hn : n ≤ full) (hfull : full ≤ 281474976710655)
    (k1 : ∀ w', Laid w' → Calls Tryd.prog 8 #[.int .i64 2] w' fun e w'' => e = .returned (.int .i64 wid) ∧ w' = w'')
    (k2 : ∀ w', Laid w' → Calls Tryd.prog 9 #[.int .i64 2] w' fun e w'' => e = .returned (.int .u64 full) ∧ w' = w'') (L : Laid w) :
    Calls Tryd.prog 13 #[h.val, .int .i64 2, .int .u64 n] w fun e w' => e = .returned (.tuple #[({ h with d := ofI n } : Hd).val, .int .i64 0]) ∧ Below w.heap.size w w' := by
  have K3 := Lib.hid (fun w => hmac.of_any n hn0 (by omega) w)
  obtain ⟨⟨m0, m1, m2, m3, m4, m5⟩, hm⟩ : ∃ m, m = ofI n := ⟨_, rfl⟩
  rw [← hm] at K3 ⊢
  clear hm
  obtain ⟨p, ⟨a0, a1, a2, a3, a4, a5⟩, ⟨d0, d1, d2, d3, d4, d5⟩, t, si, di, pr, sp, dp⟩ := h
  simp only [Hd.val, Hd.cells, Mac.val] at K3 ⊢
  have RA := ready_two w #[.int .i64 p, .int .u8 a0, .int .u8 a1, .int .u8 a2, .int .u8 a3, .int .u8 a4, .int .u8 a5, .int .u8 d0, .int .u8 d1, .int .u8 d2, .int .u8 d3, .int .u8 d4, .int .u8 d5, .int .i64 t, .int .u32 si, .int .u32 di, .int .i64 pr, .int .i64 sp, .int .i64 dp] zeroHd.cells rfl
  have LL := Lib.hid (laid_below RA.below L)
  have hS : ((w.alloc (.cells #[.int .i64 p, .int .u8 a0, .int .u8 a1, .int .u8 a2, .int .u8 a3, .int .u8 a4, .int .u8 a5, .int .u8 d0, .int .u8 d1, .int .u8 d2, .int .u8 d3, .int .u8 d4, .int .u8 d5, .int .i64 t, .int .u32 si, .int .u32 di, .int .i64 pr, .int .i64 sp, .int .i64 dp] 33)).alloc (.cells zeroHd.cells 33)).heap.size = w.heap.size + 2 := by simp
  have hTh : ((w.alloc (.cells #[.int .i64 p, .int .u8 a0, .int .u8 a1, .int .u8 a2, .int .u8 a3, .int .u8 a4, .int .u8 a5, .int .u8 d0, .int .u8 d1, .int .u8 d2, .int .u8 d3, .int .u8 d4, .int .u8 d5, .int .i64 t, .int .u32 si, .int .u32 di, .int .i64 pr, .int .i64 sp, .int .i64 dp] 33)).alloc (.cells zeroHd.cells 33)).there w.heap.size 0 19 := World.there_alloc (alloc_there w #[.int .i64 p, .int .u8 a0, .int .u8 a1, .int .u8 a2, .int .u8 a3, .int .u8 a4, .int .u8 a5, .int .u8 d0, .int .u8 d1, .int .u8 d2, .int .u8 d3, .int .u8 d4, .int .u8 d5, .int .i64 t, .int .u32 si, .int .u32 di, .int .i64 pr, .int .i64 sp, .int .i64 dp] _) _
  have step : ∀ w1, Below ((w.alloc (.cells #[.int .i64 p, .int .u8 a0, .int .u8 a1, .int .u8 a2, .int .u8 a3, .int .u8 a4, .int .u8 a5, .int .u8 d0, .int .u8 d1, .int .u8 d2, .int .u8 d3, .int .u8 d4, .int .u8 d5, .int .i64 t, .int .u32 si, .int .u32 di, .int .i64 pr, .int .i64 sp, .int .i64 dp] 33)).alloc (.cells zeroHd.cells 33)).heap.size ((w.alloc (.cells #[.int .i64 p, .int .u8 a0, .int .u8 a1, .int .u8 a2, .int .u8 a3, .int .u8 a4, .int .u8 a5, .int .u8 d0, .int .u8 d1, .int .u8 d2, .int .u8 d3, .int .u8 d4, .int .u8 d5, .int .i64 t, .int .u32 si, .int .u32 di, .int .i64 pr, .int .i64 sp, .int .i64 dp] 33)).alloc (.cells zeroHd.cells 33)) w1 →
      w1.there w.heap.size 7 6 ∧ Ready w (w1.setCells w.heap.size 7 [.int .u8 m0, .int .u8 m1, .int .u8 m2, .int .u8 m3, .int .u8 m4, .int .u8 m5]) #[.int .i64 p, .int .u8 a0, .int .u8 a1, .int .u8 a2, .int .u8 a3, .int .u8 a4, .int .u8 a5, .int .u8 m0, .int .u8 m1, .int .u8 m2, .int .u8 m3, .int .u8 m4, .int .u8 m5, .int .i64 t, .int .u32 si, .int .u32 di, .int .i64 pr, .int .i64 sp, .int .i64 dp] := by
    intro w1 hb
    have h19 := there_below hb hTh
    have ht := there_part h19 7 6 (by omega)
    refine ⟨ht, ?_, World.there_setCells (there_below hb RA.there) _ _ _, below_setCells (Nat.le_refl _) _ _ _ (aid.kb hb RA.below)⟩
    exact splice (xs := [.int .i64 p, .int .u8 a0, .int .u8 a1, .int .u8 a2, .int .u8 a3, .int .u8 a4, .int .u8 a5]) (ys := [.int .u8 d0, .int .u8 d1, .int .u8 d2, .int .u8 d3, .int .u8 d4, .int .u8 d5]) (zs := [.int .i64 t, .int .u32 si, .int .u32 di, .int .i64 pr, .int .i64 sp, .int .i64 dp]) (vs := [.int .u8 m0, .int .u8 m1, .int .u8 m2, .int .u8 m3, .int .u8 m4, .int .u8 m5]) (row_below hb RA.row) rfl ht
  have ST := Lib.hid step
  have K1 := Lib.hid k1
  have K2 := Lib.hid k2
  clear k1 k2 L RA hS hTh step
  go_enter Tryd.func13, Tryd.ntmps13
  go_wp2_with fail
  refine (K1.out _ LL.out).mono ?_
  rintro e w' ⟨rfl, rfl⟩
  go_wp2_with fail
  refine (K2.out _ LL.out).mono ?_
  rintro e w' ⟨rfl, rfl⟩
  go_wp2_with fail
  refine (K3.out _).mono ?_
  rintro e w1 ⟨rfl, hb⟩
  obtain ⟨ht, RB⟩ := ST.out w1 hb
  obtain ⟨Wm, hWm⟩ : ∃ Wm, w1.setCells w.heap.size 7 [.int .u8 m0, .int .u8 m1, .int .u8 m2, .int .u8 m3, .int .u8 m4, .int .u8 m5] = Wm := ⟨_, rfl⟩
  rw [hWm] at RB
  obtain ⟨W2, hW2, hl2, hb2⟩ := ready_set RB rfl
  have HM := Lib.hid hWm
  have H1 := Lib.hid ht
  have HW := Lib.hid hW2
  have HL := Lib.hid hl2
  have HB := Lib.hid hb2
  have HR := Lib.hid RB.row
  have HT := Lib.hid RB.there
  clear hb ht RB hWm hW2 hl2 hb2
  go_upto_region 22 with (refine wp_store_mac rfl (.tmp 33) (.tmp 32) rfl w.heap.size 7 rfl #[.int .u8 m0, .int .u8 m1, .int .u8 m2, .int .u8 m3, .int .u8 m4, .int .u8 m5] rfl rfl (one_mac _ _ _ _ _ _) H1.out Wm HM.out ?_)
  refine wp_region_lit (wp_load_hdr rfl (.tmp 3) rfl w.heap.size rfl #[.int .i64 p, .int .u8 a0, .int .u8 a1, .int .u8 a2, .int .u8 a3, .int .u8 a4, .int .u8 a5, .int .u8 m0, .int .u8 m1, .int .u8 m2, .int .u8 m3, .int .u8 m4, .int .u8 m5, .int .i64 t, .int .u32 si, .int .u32 di, .int .i64 pr, .int .i64 sp, .int .i64 dp] rfl HR.out ?_)
  simp only [Act.put, List.setIfInBounds_toArray, List.set_cons_zero, List.set_cons_succ]
  refine wp_store_hdr rfl (.tmp 6) (.tmp 64) rfl (w.heap.size + 1) rfl #[.int .i64 p, .int .u8 a0, .int .u8 a1, .int .u8 a2, .int .u8 a3, .int .u8 a4, .int .u8 a5, .int .u8 m0, .int .u8 m1, .int .u8 m2, .int .u8 m3, .int .u8 m4, .int .u8 m5, .int .i64 t, .int .u32 si, .int .u32 di, .int .i64 pr, .int .i64 sp, .int .i64 dp] rfl (by rfl) (by simp [Value.oneCell']) HT.out W2 HW.out ?_
  simp only [Act.put]
  go_wp2_with fail
  exact bodyPost_ret (results_with rfl rfl HL.out) rfl ⟨rfl, HB.out⟩

theorem ne_bool {n : Int} (h : n ≠ 0) : (n == 0) = false := by simpa using h
/-- THE WHOLE: With of whatever field and number -/
theorem with_any (h : Hd) (f n : Int) (hf : hmath.I64 f) (hn : hmath.U64 n) (w : World) (L : Laid w) :
    Calls Tryd.prog 13 #[h.val, .int .i64 f, .int .u64 n] w fun e w' => e = .returned (withV h f n) ∧ Below w.heap.size w w' := by
  have k1 := fun w' L => width_any f w' hf L
  have k2 := fun w' L => full_any f w' hf L
  by_cases k9 : 0 ≤ f ∧ f < 9
  · by_cases hle : n ≤ fullI f
    · have e : withV h f n = .tuple #[(setI h f n).val, .int .i64 0] := by unfold withV; rw [if_pos ⟨k9.1, k9.2, hle⟩]
      rw [e]
      rcases cases9 k9.1 k9.2 with rfl | rfl | rfl | rfl | rfl | rfl | rfl | rfl | rfl
      · exact ok_0 h n (fullI 0) (widthI 0) w (by decide) hn.1 hle (by decide) k1 k2 L
      · exact ok_1 h n (fullI 1) (widthI 1) w (by decide) hn.1 hle (by decide) k1 k2 L
      · exact ok_2 h n (fullI 2) (widthI 2) w (by decide) hn.1 hle (by decide) k1 k2 L
      · exact ok_3 h n (fullI 3) (widthI 3) w (by decide) hn.1 hle (by decide) k1 k2 L
      · exact ok_4 h n (fullI 4) (widthI 4) w (by decide) hn.1 hle (by decide) k1 k2 L
      · exact ok_5 h n (fullI 5) (widthI 5) w (by decide) hn.1 hle (by decide) k1 k2 L
      · exact ok_6 h n (fullI 6) (widthI 6) w (by decide) hn.1 hle (by decide) k1 k2 L
      · exact ok_7 h n (fullI 7) (widthI 7) w (by decide) hn.1 hle (by decide) k1 k2 L
      · exact ok_8 h n (fullI 8) (widthI 8) w (by decide) hn.1 hle (by decide) k1 k2 L
    · have e : withV h f n = failI := by unfold withV; rw [if_neg (fun k => hle k.2.2)]
      rw [e]
      have hw0 : widthI f ≠ 0 := by
        rcases cases9 k9.1 k9.2 with rfl | rfl | rfl | rfl | rfl | rfl | rfl | rfl | rfl <;> decide
      exact with_fail h.cells (size_hdr h) f n w (fullI f) (widthI f) (.inr ⟨hw0, by omega⟩) k1 k2 L
  · have e : withV h f n = failI := by unfold withV; rw [if_neg (fun k => k9 ⟨k.1, k.2.1⟩)]
    rw [e]
    exact with_fail h.cells (size_hdr h) f n w (fullI f) (widthI f) (.inl (widthI_out (by omega))) k1 k2 L

set_option maxRecDepth 100000 in
theorem eql_hdr (h : Hd) (W : World) : (binOp .eql 33 (.agg h.cells) (.agg h.cells)).run Tryd.prog W = .ok (.bool true) W := by
  obtain ⟨p, ⟨a0, a1, a2, a3, a4, a5⟩, ⟨d0, d1, d2, d3, d4, d5⟩, t, si, di, pr, sp, dp⟩ := h
  simp only [Hd.cells]
  have e1 := hmac.in_mac 9997 a0 a1 a2 a3 a4 a5 W
  have e2 := hmac.in_mac 9997 d0 d1 d2 d3 d4 d5 W
  simp only [Nat.reduceAdd] at e1 e2
  rw [run_eql_struct]
  go_simp

theorem and_bd (f a : Int) (h0 : 0 ≤ a) (h1 : a < 18446744073709551616) : 0 ≤ bits .and .u64 a (fullI f) ∧ bits .and .u64 a (fullI f) ≤ fullI f := by
  have key : ∀ k : Nat, k < 64 → 0 ≤ bits .and .u64 a (2 ^ k - 1) ∧ bits .and .u64 a (2 ^ k - 1) ≤ 2 ^ k - 1 := fun k hk => by
    rw [and_full a k h0 h1 hk]
    have hp : (0 : Int) < 2 ^ k := Int.pow_pos (by decide)
    have h1 := Int.emod_nonneg a (show (2 : Int) ^ k ≠ 0 by omega)
    have h2 := Int.emod_lt_of_pos a hp
    omega
  by_cases k9 : 0 ≤ f ∧ f < 9
  · rcases cases9 k9.1 k9.2 with rfl | rfl | rfl | rfl | rfl | rfl | rfl | rfl | rfl
    · exact key 8 (by decide)
    · exact key 48 (by decide)
    · exact key 48 (by decide)
    · exact key 16 (by decide)
    · exact key 32 (by decide)
    · exact key 32 (by decide)
    · exact key 8 (by decide)
    · exact key 16 (by decide)
    · exact key 16 (by decide)
  · rw [fullI_out (by omega)]
    exact key 0 (by decide)
/-- what With answers, its parts -/
theorem with_parts (h : Hd) (f n : Int) : ∃ (g : Hd) (e : Int), withV h f n = .tuple #[.agg g.cells, .int .i64 e] ∧ ((0 ≤ f ∧ f < 9 ∧ n ≤ fullI f) → g = setI h f n ∧ e = 0) ∧ (¬ (0 ≤ f ∧ f < 9 ∧ n ≤ fullI f) → g = zeroHd ∧ e = 1) := by
  by_cases k : 0 ≤ f ∧ f < 9 ∧ n ≤ fullI f
  · exact ⟨setI h f n, 0, by unfold withV; rw [if_pos k]; rfl, fun _ => ⟨rfl, rfl⟩, fun c => absurd k c⟩
  · exact ⟨zeroHd, 1, by unfold withV; rw [if_neg k]; rfl, fun c => absurd c k, fun _ => ⟨rfl, rfl⟩⟩
end Go.Proofs.YtedlclgimeafeaaDoor.head5
