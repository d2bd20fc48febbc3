import Derived.Test.YtedlclgimeafeaaDoorHead3
/- Contract of (head.Header).With: the ways on which it answers. -/
set_option linter.unusedVariables false
set_option linter.unusedSimpArgs false
namespace Go.Proofs.YtedlclgimeafeaaDoor.head4
open Go.RowKit Go.Proofs.YtedlclgimeafeaaDoor.hmath Go.Proofs.YtedlclgimeafeaaDoor.frame Go.Proofs.YtedlclgimeafeaaDoor.head1 Go.Proofs.YtedlclgimeafeaaDoor.hrow Go.Proofs.YtedlclgimeafeaaDoor.head3

/-- an address of a frame, written into a header -/
theorem infoMac : (Tryd.prog.info? 29).map (·.size) = some 6 := by kernel_rfl
theorem wp_store_mac {ops : Array Oper} {Q : Exit → Act → World → Prop} {a : Act} {w : World} {rest : List Oper} {op : Oper}
    (hw : Region.wanted op (yielded ops a.tmps) = true) (x y : Operand) (ho : op.op = .store 29 x y) (b o : Nat) (hx : a.eval x = .pointer (some ⟨b, o, none⟩)) (cs : Array Value) (hy : a.eval y = .agg cs)
    (hsz : cs.size = 6) (h1 : cs.all (·.oneCell') = true) (ht : w.there b o 6) (W2 : World) (hW2 : w.setCells b o cs.toList = W2) (h : wpList Tryd.prog ops Q rest (a.put op.dst undef) W2) : wpList Tryd.prog ops Q (op :: rest) a w :=
  wpList_step fun K hK => by
    rw [if_pos hw]
    subst hW2
    exact wp_store_mid 29 x y ho b o cs hx hy (by rw [hsz]; exact ht) (by rw [infoMac, hsz]) h1 (hK _ _ h)

/-- behind a switch: the header is read from its block, written into the result's, and handed back -/
structure Ready (w W : World) (cs : Array Value) : Prop where
  row : W.rangeAt w.heap.size 0 cs.toList
  there : W.there (w.heap.size + 1) 0 19
  below : Below w.heap.size w W
theorem ready_set {w W : World} {cs : Array Value} (R : Ready w W cs) (hsz : cs.size = 19) : ∃ W2, W.setCells (w.heap.size + 1) 0 cs.toList = W2 ∧ (loadVar 33 ⟨w.heap.size + 1, 0, none⟩).run Tryd.prog W2 = .ok (.agg cs) W2 ∧ Below w.heap.size w W2 := by
  refine ⟨_, rfl, ?_, below_setCells (by omega) _ _ _ R.below⟩
  have hR := World.rangeAt_setCells_same W (w.heap.size + 1) 0 cs.toList (by rw [Array.length_toList, hsz]; exact R.there)
  have := run_loadVar_mid (P := Tryd.prog) _ (w.heap.size + 1) 0 33 cs.toList _ hR Tryd.underlying33 rfl (by rw [infoHdr]; simp [hsz])
  simpa using this

theorem ready_two (w : World) (cs zs : Array Value) (hz : zs.size = 19) : Ready w ((w.alloc (.cells cs 33)).alloc (.cells zs 33)) cs := by
  have hS : (w.alloc (.cells cs 33)).heap.size = w.heap.size + 1 := by simp
  refine ⟨World.rangeAt_alloc (alloc_row w cs _) _, ?_, ((Below.refl _ _).alloc (Nat.le_refl _) _).alloc (by simp) _⟩
  have := alloc_there (w.alloc (.cells cs 33)) zs 33
  rw [hS, hz] at this
  exact this


set_option maxRecDepth 100000 in
set_option maxHeartbeats 4000000 in
theorem ok_0 (h : Hd) (n full wid : Int) (w : World) (hwid : (wid == 0) = false) (hn0 : 0 ≤ n) (hn : n ≤ full) (hfull : full ≤ 255)
    (k1 : ∀ w', Laid w' → Calls Tryd.prog 8 #[.int .i64 0] w' fun e w'' => e = .returned (.int .i64 wid) ∧ w' = w'')
    (k2 : ∀ w', Laid w' → Calls Tryd.prog 9 #[.int .i64 0] w' fun e w'' => e = .returned (.int .u64 full) ∧ w' = w'') (L : Laid w) :
    Calls Tryd.prog 13 #[h.val, .int .i64 0, .int .u64 n] w fun e w' => e = .returned (.tuple #[({ h with p := n } : Hd).val, .int .i64 0]) ∧ Below w.heap.size w w' := by
  obtain ⟨p, ⟨a0, a1, a2, a3, a4, a5⟩, ⟨d0, d1, d2, d3, d4, d5⟩, t, si, di, pr, sp, dp⟩ := h
  simp only [Hd.val, Hd.cells]
  have RA := ready_two w #[.int .i64 p, .int .u8 a0, .int .u8 a1, .int .u8 a2, .int .u8 a3, .int .u8 a4, .int .u8 a5, .int .u8 d0, .int .u8 d1, .int .u8 d2, .int .u8 d3, .int .u8 d4, .int .u8 d5, .int .i64 t, .int .u32 si, .int .u32 di, .int .i64 pr, .int .i64 sp, .int .i64 dp] zeroHd.cells rfl
  have LL := Lib.hid (laid_below RA.below L)
  have RB := ready_two w #[.int .i64 n, .int .u8 a0, .int .u8 a1, .int .u8 a2, .int .u8 a3, .int .u8 a4, .int .u8 a5, .int .u8 d0, .int .u8 d1, .int .u8 d2, .int .u8 d3, .int .u8 d4, .int .u8 d5, .int .i64 t, .int .u32 si, .int .u32 di, .int .i64 pr, .int .i64 sp, .int .i64 dp] zeroHd.cells rfl
  obtain ⟨W2, hW2, hl2, hb2⟩ := ready_set RB rfl
  have HW := Lib.hid hW2
  have HL := Lib.hid hl2
  have HB := Lib.hid hb2
  have HR := Lib.hid RB.row
  have HT := Lib.hid RB.there
  have K1 := Lib.hid k1
  have K2 := Lib.hid k2
  clear k1 k2 L RA RB hW2 hl2 hb2
  go_enter Tryd.func13, Tryd.ntmps13
  go_wp2_with fail
  refine (K1.out _ LL.out).mono ?_
  rintro e w' ⟨rfl, rfl⟩
  go_wp2_with fail
  refine (K2.out _ LL.out).mono ?_
  rintro e w' ⟨rfl, rfl⟩
  go_upto_region 22 with fail
  refine wp_region_lit (wp_load_hdr rfl (.tmp 3) rfl w.heap.size rfl #[.int .i64 n, .int .u8 a0, .int .u8 a1, .int .u8 a2, .int .u8 a3, .int .u8 a4, .int .u8 a5, .int .u8 d0, .int .u8 d1, .int .u8 d2, .int .u8 d3, .int .u8 d4, .int .u8 d5, .int .i64 t, .int .u32 si, .int .u32 di, .int .i64 pr, .int .i64 sp, .int .i64 dp] rfl HR.out ?_)
  simp only [Act.put, List.setIfInBounds_toArray, List.set_cons_zero, List.set_cons_succ]
  refine wp_store_hdr rfl (.tmp 6) (.tmp 64) rfl (w.heap.size + 1) rfl #[.int .i64 n, .int .u8 a0, .int .u8 a1, .int .u8 a2, .int .u8 a3, .int .u8 a4, .int .u8 a5, .int .u8 d0, .int .u8 d1, .int .u8 d2, .int .u8 d3, .int .u8 d4, .int .u8 d5, .int .i64 t, .int .u32 si, .int .u32 di, .int .i64 pr, .int .i64 sp, .int .i64 dp] rfl (by rfl) (by simp [Value.oneCell']) HT.out W2 HW.out ?_
  simp only [Act.put]
  go_wp2_with fail
  exact bodyPost_ret (results_with rfl rfl HL.out) rfl ⟨rfl, HB.out⟩

set_option maxRecDepth 100000 in
set_option maxHeartbeats 4000000 in
theorem ok_3 (h : Hd) (n full wid : Int) (w : World) (hwid : (wid == 0) = false) (hn0 : 0 ≤ n) (hn : n ≤ full) (hfull : full ≤ 65535)
    (k1 : ∀ w', Laid w' → Calls Tryd.prog 8 #[.int .i64 3] w' fun e w'' => e = .returned (.int .i64 wid) ∧ w' = w'')
    (k2 : ∀ w', Laid w' → Calls Tryd.prog 9 #[.int .i64 3] w' fun e w'' => e = .returned (.int .u64 full) ∧ w' = w'') (L : Laid w) :
    Calls Tryd.prog 13 #[h.val, .int .i64 3, .int .u64 n] w fun e w' => e = .returned (.tuple #[({ h with t := n } : Hd).val, .int .i64 0]) ∧ Below w.heap.size w w' := by
  obtain ⟨p, ⟨a0, a1, a2, a3, a4, a5⟩, ⟨d0, d1, d2, d3, d4, d5⟩, t, si, di, pr, sp, dp⟩ := h
  simp only [Hd.val, Hd.cells]
  have RA := ready_two w #[.int .i64 p, .int .u8 a0, .int .u8 a1, .int .u8 a2, .int .u8 a3, .int .u8 a4, .int .u8 a5, .int .u8 d0, .int .u8 d1, .int .u8 d2, .int .u8 d3, .int .u8 d4, .int .u8 d5, .int .i64 t, .int .u32 si, .int .u32 di, .int .i64 pr, .int .i64 sp, .int .i64 dp] zeroHd.cells rfl
  have LL := Lib.hid (laid_below RA.below L)
  have RB := ready_two w #[.int .i64 p, .int .u8 a0, .int .u8 a1, .int .u8 a2, .int .u8 a3, .int .u8 a4, .int .u8 a5, .int .u8 d0, .int .u8 d1, .int .u8 d2, .int .u8 d3, .int .u8 d4, .int .u8 d5, .int .i64 n, .int .u32 si, .int .u32 di, .int .i64 pr, .int .i64 sp, .int .i64 dp] zeroHd.cells rfl
  obtain ⟨W2, hW2, hl2, hb2⟩ := ready_set RB rfl
  have HW := Lib.hid hW2
  have HL := Lib.hid hl2
  have HB := Lib.hid hb2
  have HR := Lib.hid RB.row
  have HT := Lib.hid RB.there
  have K1 := Lib.hid k1
  have K2 := Lib.hid k2
  clear k1 k2 L RA RB hW2 hl2 hb2
  go_enter Tryd.func13, Tryd.ntmps13
  go_wp2_with fail
  refine (K1.out _ LL.out).mono ?_
  rintro e w' ⟨rfl, rfl⟩
  go_wp2_with fail
  refine (K2.out _ LL.out).mono ?_
  rintro e w' ⟨rfl, rfl⟩
  go_upto_region 22 with fail
  refine wp_region_lit (wp_load_hdr rfl (.tmp 3) rfl w.heap.size rfl #[.int .i64 p, .int .u8 a0, .int .u8 a1, .int .u8 a2, .int .u8 a3, .int .u8 a4, .int .u8 a5, .int .u8 d0, .int .u8 d1, .int .u8 d2, .int .u8 d3, .int .u8 d4, .int .u8 d5, .int .i64 n, .int .u32 si, .int .u32 di, .int .i64 pr, .int .i64 sp, .int .i64 dp] rfl HR.out ?_)
  simp only [Act.put, List.setIfInBounds_toArray, List.set_cons_zero, List.set_cons_succ]
  refine wp_store_hdr rfl (.tmp 6) (.tmp 64) rfl (w.heap.size + 1) rfl #[.int .i64 p, .int .u8 a0, .int .u8 a1, .int .u8 a2, .int .u8 a3, .int .u8 a4, .int .u8 a5, .int .u8 d0, .int .u8 d1, .int .u8 d2, .int .u8 d3, .int .u8 d4, .int .u8 d5, .int .i64 n, .int .u32 si, .int .u32 di, .int .i64 pr, .int .i64 sp, .int .i64 dp] rfl (by rfl) (by simp [Value.oneCell']) HT.out W2 HW.out ?_
  simp only [Act.put]
  go_wp2_with fail
  exact bodyPost_ret (results_with rfl rfl HL.out) rfl ⟨rfl, HB.out⟩

set_option maxRecDepth 100000 in
set_option maxHeartbeats 4000000 in
theorem ok_4 (h : Hd) (n full wid : Int) (w : World) (hwid : (wid == 0) = false) (hn0 : 0 ≤ n) (hn : n ≤ full) (hfull : full ≤ 4294967295)
    (k1 : ∀ w', Laid w' → Calls Tryd.prog 8 #[.int .i64 4] w' fun e w'' => e = .returned (.int .i64 wid) ∧ w' = w'')
    (k2 : ∀ w', Laid w' → Calls Tryd.prog 9 #[.int .i64 4] w' fun e w'' => e = .returned (.int .u64 full) ∧ w' = w'') (L : Laid w) :
    Calls Tryd.prog 13 #[h.val, .int .i64 4, .int .u64 n] w fun e w' => e = .returned (.tuple #[({ h with si := n } : Hd).val, .int .i64 0]) ∧ Below w.heap.size w w' := by
  obtain ⟨p, ⟨a0, a1, a2, a3, a4, a5⟩, ⟨d0, d1, d2, d3, d4, d5⟩, t, si, di, pr, sp, dp⟩ := h
  simp only [Hd.val, Hd.cells]
  have RA := ready_two w #[.int .i64 p, .int .u8 a0, .int .u8 a1, .int .u8 a2, .int .u8 a3, .int .u8 a4, .int .u8 a5, .int .u8 d0, .int .u8 d1, .int .u8 d2, .int .u8 d3, .int .u8 d4, .int .u8 d5, .int .i64 t, .int .u32 si, .int .u32 di, .int .i64 pr, .int .i64 sp, .int .i64 dp] zeroHd.cells rfl
  have LL := Lib.hid (laid_below RA.below L)
  have RB := ready_two w #[.int .i64 p, .int .u8 a0, .int .u8 a1, .int .u8 a2, .int .u8 a3, .int .u8 a4, .int .u8 a5, .int .u8 d0, .int .u8 d1, .int .u8 d2, .int .u8 d3, .int .u8 d4, .int .u8 d5, .int .i64 t, .int .u32 n, .int .u32 di, .int .i64 pr, .int .i64 sp, .int .i64 dp] zeroHd.cells rfl
  obtain ⟨W2, hW2, hl2, hb2⟩ := ready_set RB rfl
  have HW := Lib.hid hW2
  have HL := Lib.hid hl2
  have HB := Lib.hid hb2
  have HR := Lib.hid RB.row
  have HT := Lib.hid RB.there
  have K1 := Lib.hid k1
  have K2 := Lib.hid k2
  clear k1 k2 L RA RB hW2 hl2 hb2
  go_enter Tryd.func13, Tryd.ntmps13
  go_wp2_with fail
  refine (K1.out _ LL.out).mono ?_
  rintro e w' ⟨rfl, rfl⟩
  go_wp2_with fail
  refine (K2.out _ LL.out).mono ?_
  rintro e w' ⟨rfl, rfl⟩
  go_upto_region 22 with fail
  refine wp_region_lit (wp_load_hdr rfl (.tmp 3) rfl w.heap.size rfl #[.int .i64 p, .int .u8 a0, .int .u8 a1, .int .u8 a2, .int .u8 a3, .int .u8 a4, .int .u8 a5, .int .u8 d0, .int .u8 d1, .int .u8 d2, .int .u8 d3, .int .u8 d4, .int .u8 d5, .int .i64 t, .int .u32 n, .int .u32 di, .int .i64 pr, .int .i64 sp, .int .i64 dp] rfl HR.out ?_)
  simp only [Act.put, List.setIfInBounds_toArray, List.set_cons_zero, List.set_cons_succ]
  refine wp_store_hdr rfl (.tmp 6) (.tmp 64) rfl (w.heap.size + 1) rfl #[.int .i64 p, .int .u8 a0, .int .u8 a1, .int .u8 a2, .int .u8 a3, .int .u8 a4, .int .u8 a5, .int .u8 d0, .int .u8 d1, .int .u8 d2, .int .u8 d3, .int .u8 d4, .int .u8 d5, .int .i64 t, .int .u32 n, .int .u32 di, .int .i64 pr, .int .i64 sp, .int .i64 dp] rfl (by rfl) (by simp [Value.oneCell']) HT.out W2 HW.out ?_
  simp only [Act.put]
  go_wp2_with fail
  exact bodyPost_ret (results_with rfl rfl HL.out) rfl ⟨rfl, HB.out⟩

set_option maxRecDepth 100000 in
set_option maxHeartbeats 4000000 in
theorem ok_5 (h : Hd) (n full wid : Int) (w : World) (hwid : (wid == 0) = false) (hn0 : 0 ≤ n) (hn : n ≤ full) (hfull : full ≤ 4294967295)
    (k1 : ∀ w', Laid w' → Calls Tryd.prog 8 #[.int .i64 5] w' fun e w'' => e = .returned (.int .i64 wid) ∧ w' = w'')
    (k2 : ∀ w', Laid w' → Calls Tryd.prog 9 #[.int .i64 5] w' fun e w'' => e = .returned (.int .u64 full) ∧ w' = w'') (L : Laid w) :
    Calls Tryd.prog 13 #[h.val, .int .i64 5, .int .u64 n] w fun e w' => e = .returned (.tuple #[({ h with di := n } : Hd).val, .int .i64 0]) ∧ Below w.heap.size w w' := by
  obtain ⟨p, ⟨a0, a1, a2, a3, a4, a5⟩, ⟨d0, d1, d2, d3, d4, d5⟩, t, si, di, pr, sp, dp⟩ := h
  simp only [Hd.val, Hd.cells]
  have RA := ready_two w #[.int .i64 p, .int .u8 a0, .int .u8 a1, .int .u8 a2, .int .u8 a3, .int .u8 a4, .int .u8 a5, .int .u8 d0, .int .u8 d1, .int .u8 d2, .int .u8 d3, .int .u8 d4, .int .u8 d5, .int .i64 t, .int .u32 si, .int .u32 di, .int .i64 pr, .int .i64 sp, .int .i64 dp] zeroHd.cells rfl
  have LL := Lib.hid (laid_below RA.below L)
  have RB := ready_two w #[.int .i64 p, .int .u8 a0, .int .u8 a1, .int .u8 a2, .int .u8 a3, .int .u8 a4, .int .u8 a5, .int .u8 d0, .int .u8 d1, .int .u8 d2, .int .u8 d3, .int .u8 d4, .int .u8 d5, .int .i64 t, .int .u32 si, .int .u32 n, .int .i64 pr, .int .i64 sp, .int .i64 dp] zeroHd.cells rfl
  obtain ⟨W2, hW2, hl2, hb2⟩ := ready_set RB rfl
  have HW := Lib.hid hW2
  have HL := Lib.hid hl2
  have HB := Lib.hid hb2
  have HR := Lib.hid RB.row
  have HT := Lib.hid RB.there
  have K1 := Lib.hid k1
  have K2 := Lib.hid k2
  clear k1 k2 L RA RB hW2 hl2 hb2
  go_enter Tryd.func13, Tryd.ntmps13
  go_wp2_with fail
  refine (K1.out _ LL.out).mono ?_
  rintro e w' ⟨rfl, rfl⟩
  go_wp2_with fail
  refine (K2.out _ LL.out).mono ?_
  rintro e w' ⟨rfl, rfl⟩
  go_upto_region 22 with fail
  refine wp_region_lit (wp_load_hdr rfl (.tmp 3) rfl w.heap.size rfl #[.int .i64 p, .int .u8 a0, .int .u8 a1, .int .u8 a2, .int .u8 a3, .int .u8 a4, .int .u8 a5, .int .u8 d0, .int .u8 d1, .int .u8 d2, .int .u8 d3, .int .u8 d4, .int .u8 d5, .int .i64 t, .int .u32 si, .int .u32 n, .int .i64 pr, .int .i64 sp, .int .i64 dp] rfl HR.out ?_)
  simp only [Act.put, List.setIfInBounds_toArray, List.set_cons_zero, List.set_cons_succ]
  refine wp_store_hdr rfl (.tmp 6) (.tmp 64) rfl (w.heap.size + 1) rfl #[.int .i64 p, .int .u8 a0, .int .u8 a1, .int .u8 a2, .int .u8 a3, .int .u8 a4, .int .u8 a5, .int .u8 d0, .int .u8 d1, .int .u8 d2, .int .u8 d3, .int .u8 d4, .int .u8 d5, .int .i64 t, .int .u32 si, .int .u32 n, .int .i64 pr, .int .i64 sp, .int .i64 dp] rfl (by rfl) (by simp [Value.oneCell']) HT.out W2 HW.out ?_
  simp only [Act.put]
  go_wp2_with fail
  exact bodyPost_ret (results_with rfl rfl HL.out) rfl ⟨rfl, HB.out⟩

set_option maxRecDepth 100000 in
set_option maxHeartbeats 4000000 in
theorem ok_6 (h : Hd) (n full wid : Int) (w : World) (hwid : (wid == 0) = false) (hn0 : 0 ≤ n) (hn : n ≤ full) (hfull : full ≤ 255)
    (k1 : ∀ w', Laid w' → Calls Tryd.prog 8 #[.int .i64 6] w' fun e w'' => e = .returned (.int .i64 wid) ∧ w' = w'')
    (k2 : ∀ w', Laid w' → Calls Tryd.prog 9 #[.int .i64 6] w' fun e w'' => e = .returned (.int .u64 full) ∧ w' = w'') (L : Laid w) :
    Calls Tryd.prog 13 #[h.val, .int .i64 6, .int .u64 n] w fun e w' => e = .returned (.tuple #[({ h with pr := n } : Hd).val, .int .i64 0]) ∧ Below w.heap.size w w' := by
  obtain ⟨p, ⟨a0, a1, a2, a3, a4, a5⟩, ⟨d0, d1, d2, d3, d4, d5⟩, t, si, di, pr, sp, dp⟩ := h
  simp only [Hd.val, Hd.cells]
  have RA := ready_two w #[.int .i64 p, .int .u8 a0, .int .u8 a1, .int .u8 a2, .int .u8 a3, .int .u8 a4, .int .u8 a5, .int .u8 d0, .int .u8 d1, .int .u8 d2, .int .u8 d3, .int .u8 d4, .int .u8 d5, .int .i64 t, .int .u32 si, .int .u32 di, .int .i64 pr, .int .i64 sp, .int .i64 dp] zeroHd.cells rfl
  have LL := Lib.hid (laid_below RA.below L)
  have RB := ready_two w #[.int .i64 p, .int .u8 a0, .int .u8 a1, .int .u8 a2, .int .u8 a3, .int .u8 a4, .int .u8 a5, .int .u8 d0, .int .u8 d1, .int .u8 d2, .int .u8 d3, .int .u8 d4, .int .u8 d5, .int .i64 t, .int .u32 si, .int .u32 di, .int .i64 n, .int .i64 sp, .int .i64 dp] zeroHd.cells rfl
  obtain ⟨W2, hW2, hl2, hb2⟩ := ready_set RB rfl
  have HW := Lib.hid hW2
  have HL := Lib.hid hl2
  have HB := Lib.hid hb2
  have HR := Lib.hid RB.row
  have HT := Lib.hid RB.there
  have K1 := Lib.hid k1
  have K2 := Lib.hid k2
  clear k1 k2 L RA RB hW2 hl2 hb2
  go_enter Tryd.func13, Tryd.ntmps13
  go_wp2_with fail
  refine (K1.out _ LL.out).mono ?_
  rintro e w' ⟨rfl, rfl⟩
  go_wp2_with fail
  refine (K2.out _ LL.out).mono ?_
  rintro e w' ⟨rfl, rfl⟩
  go_upto_region 22 with fail
  refine wp_region_lit (wp_load_hdr rfl (.tmp 3) rfl w.heap.size rfl #[.int .i64 p, .int .u8 a0, .int .u8 a1, .int .u8 a2, .int .u8 a3, .int .u8 a4, .int .u8 a5, .int .u8 d0, .int .u8 d1, .int .u8 d2, .int .u8 d3, .int .u8 d4, .int .u8 d5, .int .i64 t, .int .u32 si, .int .u32 di, .int .i64 n, .int .i64 sp, .int .i64 dp] rfl HR.out ?_)
  simp only [Act.put, List.setIfInBounds_toArray, List.set_cons_zero, List.set_cons_succ]
  refine wp_store_hdr rfl (.tmp 6) (.tmp 64) rfl (w.heap.size + 1) rfl #[.int .i64 p, .int .u8 a0, .int .u8 a1, .int .u8 a2, .int .u8 a3, .int .u8 a4, .int .u8 a5, .int .u8 d0, .int .u8 d1, .int .u8 d2, .int .u8 d3, .int .u8 d4, .int .u8 d5, .int .i64 t, .int .u32 si, .int .u32 di, .int .i64 n, .int .i64 sp, .int .i64 dp] rfl (by rfl) (by simp [Value.oneCell']) HT.out W2 HW.out ?_
  simp only [Act.put]
  go_wp2_with fail
  exact bodyPost_ret (results_with rfl rfl HL.out) rfl ⟨rfl, HB.out⟩

set_option maxRecDepth 100000 in
set_option maxHeartbeats 4000000 in
theorem ok_7 (h : Hd) (n full wid : Int) (w : World) (hwid : (wid == 0) = false) (hn0 : 0 ≤ n) (hn : n ≤ full) (hfull : full ≤ 65535)
    (k1 : ∀ w', Laid w' → Calls Tryd.prog 8 #[.int .i64 7] w' fun e w'' => e = .returned (.int .i64 wid) ∧ w' = w'')
    (k2 : ∀ w', Laid w' → Calls Tryd.prog 9 #[.int .i64 7] w' fun e w'' => e = .returned (.int .u64 full) ∧ w' = w'') (L : Laid w) :
    Calls Tryd.prog 13 #[h.val, .int .i64 7, .int .u64 n] w fun e w' => e = .returned (.tuple #[({ h with sp := n } : Hd).val, .int .i64 0]) ∧ Below w.heap.size w w' := by
  obtain ⟨p, ⟨a0, a1, a2, a3, a4, a5⟩, ⟨d0, d1, d2, d3, d4, d5⟩, t, si, di, pr, sp, dp⟩ := h
  simp only [Hd.val, Hd.cells]
  have RA := ready_two w #[.int .i64 p, .int .u8 a0, .int .u8 a1, .int .u8 a2, .int .u8 a3, .int .u8 a4, .int .u8 a5, .int .u8 d0, .int .u8 d1, .int .u8 d2, .int .u8 d3, .int .u8 d4, .int .u8 d5, .int .i64 t, .int .u32 si, .int .u32 di, .int .i64 pr, .int .i64 sp, .int .i64 dp] zeroHd.cells rfl
  have LL := Lib.hid (laid_below RA.below L)
  have RB := ready_two w #[.int .i64 p, .int .u8 a0, .int .u8 a1, .int .u8 a2, .int .u8 a3, .int .u8 a4, .int .u8 a5, .int .u8 d0, .int .u8 d1, .int .u8 d2, .int .u8 d3, .int .u8 d4, .int .u8 d5, .int .i64 t, .int .u32 si, .int .u32 di, .int .i64 pr, .int .i64 n, .int .i64 dp] zeroHd.cells rfl
  obtain ⟨W2, hW2, hl2, hb2⟩ := ready_set RB rfl
  have HW := Lib.hid hW2
  have HL := Lib.hid hl2
  have HB := Lib.hid hb2
  have HR := Lib.hid RB.row
  have HT := Lib.hid RB.there
  have K1 := Lib.hid k1
  have K2 := Lib.hid k2
  clear k1 k2 L RA RB hW2 hl2 hb2
  go_enter Tryd.func13, Tryd.ntmps13
  go_wp2_with fail
  refine (K1.out _ LL.out).mono ?_
  rintro e w' ⟨rfl, rfl⟩
  go_wp2_with fail
  refine (K2.out _ LL.out).mono ?_
  rintro e w' ⟨rfl, rfl⟩
  go_upto_region 22 with fail
  refine wp_region_lit (wp_load_hdr rfl (.tmp 3) rfl w.heap.size rfl #[.int .i64 p, .int .u8 a0, .int .u8 a1, .int .u8 a2, .int .u8 a3, .int .u8 a4, .int .u8 a5, .int .u8 d0, .int .u8 d1, .int .u8 d2, .int .u8 d3, .int .u8 d4, .int .u8 d5, .int .i64 t, .int .u32 si, .int .u32 di, .int .i64 pr, .int .i64 n, .int .i64 dp] rfl HR.out ?_)
  simp only [Act.put, List.setIfInBounds_toArray, List.set_cons_zero, List.set_cons_succ]
  refine wp_store_hdr rfl (.tmp 6) (.tmp 64) rfl (w.heap.size + 1) rfl #[.int .i64 p, .int .u8 a0, .int .u8 a1, .int .u8 a2, .int .u8 a3, .int .u8 a4, .int .u8 a5, .int .u8 d0, .int .u8 d1, .int .u8 d2, .int .u8 d3, .int .u8 d4, .int .u8 d5, .int .i64 t, .int .u32 si, .int .u32 di, .int .i64 pr, .int .i64 n, .int .i64 dp] rfl (by rfl) (by simp [Value.oneCell']) HT.out W2 HW.out ?_
  simp only [Act.put]
  go_wp2_with fail
  exact bodyPost_ret (results_with rfl rfl HL.out) rfl ⟨rfl, HB.out⟩

set_option maxRecDepth 100000 in
set_option maxHeartbeats 4000000 in
theorem ok_8 (h : Hd) (n full wid : Int) (w : World) (hwid : (wid == 0) = false) (hn0 : 0 ≤ n) (hn : n ≤ full) (hfull : full ≤ 65535)
    (k1 : ∀ w', Laid w' → Calls Tryd.prog 8 #[.int .i64 8] w' fun e w'' => e = .returned (.int .i64 wid) ∧ w' = w'')
    (k2 : ∀ w', Laid w' → Calls Tryd.prog 9 #[.int .i64 8] w' fun e w'' => e = .returned (.int .u64 full) ∧ w' = w'') (L : Laid w) :
    Calls Tryd.prog 13 #[h.val, .int .i64 8, .int .u64 n] w fun e w' => e = .returned (.tuple #[({ h with dp := n } : Hd).val, .int .i64 0]) ∧ Below w.heap.size w w' := by
  obtain ⟨p, ⟨a0, a1, a2, a3, a4, a5⟩, ⟨d0, d1, d2, d3, d4, d5⟩, t, si, di, pr, sp, dp⟩ := h
  simp only [Hd.val, Hd.cells]
  have RA := ready_two w #[.int .i64 p, .int .u8 a0, .int .u8 a1, .int .u8 a2, .int .u8 a3, .int .u8 a4, .int .u8 a5, .int .u8 d0, .int .u8 d1, .int .u8 d2, .int .u8 d3, .int .u8 d4, .int .u8 d5, .int .i64 t, .int .u32 si, .int .u32 di, .int .i64 pr, .int .i64 sp, .int .i64 dp] zeroHd.cells rfl
  have LL := Lib.hid (laid_below RA.below L)
  have RB := ready_two w #[.int .i64 p, .int .u8 a0, .int .u8 a1, .int .u8 a2, .int .u8 a3, .int .u8 a4, .int .u8 a5, .int .u8 d0, .int .u8 d1, .int .u8 d2, .int .u8 d3, .int .u8 d4, .int .u8 d5, .int .i64 t, .int .u32 si, .int .u32 di, .int .i64 pr, .int .i64 sp, .int .i64 n] zeroHd.cells rfl
  obtain ⟨W2, hW2, hl2, hb2⟩ := ready_set RB rfl
  have HW := Lib.hid hW2
  have HL := Lib.hid hl2
  have HB := Lib.hid hb2
  have HR := Lib.hid RB.row
  have HT := Lib.hid RB.there
  have K1 := Lib.hid k1
  have K2 := Lib.hid k2
  clear k1 k2 L RA RB hW2 hl2 hb2
  go_enter Tryd.func13, Tryd.ntmps13
  go_wp2_with fail
  refine (K1.out _ LL.out).mono ?_
  rintro e w' ⟨rfl, rfl⟩
  go_wp2_with fail
  refine (K2.out _ LL.out).mono ?_
  rintro e w' ⟨rfl, rfl⟩
  go_upto_region 22 with fail
  refine wp_region_lit (wp_load_hdr rfl (.tmp 3) rfl w.heap.size rfl #[.int .i64 p, .int .u8 a0, .int .u8 a1, .int .u8 a2, .int .u8 a3, .int .u8 a4, .int .u8 a5, .int .u8 d0, .int .u8 d1, .int .u8 d2, .int .u8 d3, .int .u8 d4, .int .u8 d5, .int .i64 t, .int .u32 si, .int .u32 di, .int .i64 pr, .int .i64 sp, .int .i64 n] rfl HR.out ?_)
  simp only [Act.put, List.setIfInBounds_toArray, List.set_cons_zero, List.set_cons_succ]
  refine wp_store_hdr rfl (.tmp 6) (.tmp 64) rfl (w.heap.size + 1) rfl #[.int .i64 p, .int .u8 a0, .int .u8 a1, .int .u8 a2, .int .u8 a3, .int .u8 a4, .int .u8 a5, .int .u8 d0, .int .u8 d1, .int .u8 d2, .int .u8 d3, .int .u8 d4, .int .u8 d5, .int .i64 t, .int .u32 si, .int .u32 di, .int .i64 pr, .int .i64 sp, .int .i64 n] rfl (by rfl) (by simp [Value.oneCell']) HT.out W2 HW.out ?_
  simp only [Act.put]
  go_wp2_with fail
  exact bodyPost_ret (results_with rfl rfl HL.out) rfl ⟨rfl, HB.out⟩
end Go.Proofs.YtedlclgimeafeaaDoor.head4
