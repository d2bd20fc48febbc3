/- IpHalves: for any prefix, in its form or not, any address and any turn the law answers true. No condition. -/
import Derived.Test.YtjpjgehhkjljfaaFrame
import Derived.Test.YtjpjgehhkjljfaaIp2
import Derived.Test.YtjpjgehhkjljfaaMath3
import Derived.Test.YtjpjgehhkjljfaaAid
set_option linter.unusedVariables false
namespace Go.Proofs.Ytjpjgehhkjljfaa.lawHalves
open Go.ChangeShapes Go.WideShapes Go.ChangeAt Go.RowKit Go.Proofs.Ytjpjgehhkjljfaa.frame Go.Proofs.Ytjpjgehhkjljfaa.math1

set_option maxRecDepth 100000 in
set_option maxHeartbeats 1000000 in
theorem walk_no (a n v t : Int) (w : World) (a0 : 0 ≤ a) (a1 : a < 4294967296) (h : rightB a n = false ∨ n = 32) :
    Calls Try.prog 7 #[.agg #[.int .u32 a, .int .i64 n], .int .u32 v, .int .i64 t] w fun e w' => e = .returned (.bool true) ∧ Below w.heap.size w w' := by
  have kh := fun W => ip1.half_no a n t W a0 a1 h
  have KH := Lib.hid kh
  have kc := fun W => ip1.check_any a n W a0 a1
  have hz : ∀ W, (binOp .eql 27 (.agg #[.int .u32 0, .int .i64 0]) (.agg #[.int .u32 0, .int .i64 0])).run Try.prog W = .ok (.bool true) W := fun W => ip1.eql_pfx 0 0 0 0 W
  cases hr : rightB a n
  · simp only [hr, Bool.false_eq_true, if_false] at kc
    have KC := Lib.hid kc
    clear kh kc h hr
    go_enter Try.func7, Try.ntmps7
    go_wp2_with fail
    refine (aid.keep_first (ip1.last_any _ _ _ (by omega) (by omega))).mono ?_
    rintro e _ ⟨rfl, s1, rfl⟩
    rw [show lastI 167772160 8 = 184549375 by decide]
    have f0 := aid.keep_cell (aid.new2a w (.int .u32 a) (.int .i64 n) 27)
    have f1 := aid.keep_cell (aid.new2b w (.int .u32 a) (.int .i64 n) 27)
    have HX := Lib.hid (aid.kba (Below.refl w.heap.size w) (.cells #[.int .u32 a, .int .i64 n] 27))
    go_wp2_with fail
    refine (aid.keep_call (KH.out _)).mono ?_
    rintro e _ ⟨rfl, s2, rfl⟩
    have q0 := aid.ca (.cells #[.int .u32 0, .int .i64 0] 27) (f0 s2)
    have q1 := aid.ca (.cells #[.int .u32 0, .int .i64 0] 27) (f1 s2)
    go_wp2_with fail
    refine (aid.keep_first (KC.out _)).mono ?_
    rintro e _ ⟨rfl, s3, rfl⟩
    have g0 := aid.keep_cell q0
    have g1 := aid.keep_cell q1
    have g2 := aid.keep_cell (aid.new2a s2.world (.int .u32 0) (.int .i64 0) 27)
    have g3 := aid.keep_cell (aid.new2b s2.world (.int .u32 0) (.int .i64 0) 27)
    clear f0 f1 q0 q1
    go_wp2_with fail
    go_ret
    exact ⟨rfl, aid.kbk (aid.kba (aid.kbk HX.out s2) _) s3⟩
  · have e32 : n = 32 := by
      rcases h with h | h
      · rw [hr] at h; cases h
      · exact h
    subst e32
    simp only [hr, if_true] at kc
    have KC := Lib.hid kc
    clear kh kc h hr
    go_enter Try.func7, Try.ntmps7
    go_wp2_with fail
    refine (aid.keep_first (ip1.last_any _ _ _ (by omega) (by omega))).mono ?_
    rintro e _ ⟨rfl, s1, rfl⟩
    rw [show lastI 167772160 8 = 184549375 by decide]
    have f0 := aid.keep_cell (aid.new2a w (.int .u32 a) (.int .i64 32) 27)
    have f1 := aid.keep_cell (aid.new2b w (.int .u32 a) (.int .i64 32) 27)
    have HX := Lib.hid (aid.kba (Below.refl w.heap.size w) (.cells #[.int .u32 a, .int .i64 32] 27))
    go_wp2_with fail
    refine (aid.keep_call (KH.out _)).mono ?_
    rintro e _ ⟨rfl, s2, rfl⟩
    have q0 := aid.ca (.cells #[.int .u32 0, .int .i64 0] 27) (f0 s2)
    have q1 := aid.ca (.cells #[.int .u32 0, .int .i64 0] 27) (f1 s2)
    go_wp2_with fail
    refine (aid.keep_first (KC.out _)).mono ?_
    rintro e _ ⟨rfl, s3, rfl⟩
    have g0 := aid.keep_cell q0
    have g1 := aid.keep_cell q1
    have g2 := aid.keep_cell (aid.new2a s2.world (.int .u32 0) (.int .i64 0) 27)
    have g3 := aid.keep_cell (aid.new2b s2.world (.int .u32 0) (.int .i64 0) 27)
    clear f0 f1 q0 q1
    go_wp2_with fail
    go_ret
    exact ⟨rfl, aid.kbk (aid.kba (aid.kbk HX.out s2) _) s3⟩

set_option maxRecDepth 100000 in
set_option maxHeartbeats 2000000 in
theorem walk_z (a n v y l : Int) (w : World) (hV hX hY : Bool) (a0 : 0 ≤ a) (a1 : a < 4294967296) (y0 : 0 ≤ y) (y1 : y < 4294967296) (v0 : 0 ≤ v) (v1 : v < 4294967296) (hr : rightB a n = true) (hn : n ≠ 32)
    (hy : y = a + sz (n + 1)) (hl : lastI a n = l) (hly : lastI y (n + 1) = l)
    (e1 : hasB a n v = hV) (e2 : hasB a (n + 1) v = hX) (e3 : hasB y (n + 1) v = hY) (e4 : ip1.meetsB a (n + 1) y (n + 1) = false) (e5 : coversB a n a (n + 1) = true) (e6 : coversB a n y (n + 1) = true) (e7 : lastI a (n + 1) = y - 1)
    (hc : (hX = true ∧ hY = false ∧ hV = true ∧ a ≤ v ∧ v ≤ l) ∨ (hX = false ∧ hY = true ∧ hV = true ∧ a ≤ v ∧ v ≤ l) ∨ (hX = false ∧ hY = false ∧ hV = false ∧ v < a) ∨ (hX = false ∧ hY = false ∧ hV = false ∧ a ≤ v ∧ l < v)) :
    Calls Try.prog 7 #[.agg #[.int .u32 a, .int .i64 n], .int .u32 v, .int .i64 0] w fun e w' => e = .returned (.bool true) ∧ Below w.heap.size w w' := by
  have kt : ∀ W, Calls Try.prog 29 #[.agg #[.int .u32 a, .int .i64 n], .int .i64 0] W fun e w' => e = .returned (.tuple #[.agg #[.int .u32 a, .int .i64 (n + 1)], .int .i64 0]) ∧ Below W.heap.size W w' := fun W => by have := ip1.half_yes a n 0 W a0 a1 hr hn; rwa [show ip1.halfI a n 0 = a from rfl] at this
  have KT := Lib.hid kt
  have ko : ∀ W, Calls Try.prog 29 #[.agg #[.int .u32 a, .int .i64 n], .int .i64 1] W fun e w' => e = .returned (.tuple #[.agg #[.int .u32 y, .int .i64 (n + 1)], .int .i64 0]) ∧ Below W.heap.size W w' := fun W => by have := ip1.half_yes a n 1 W a0 a1 hr hn; rwa [show ip1.halfI a n 1 = y by unfold ip1.halfI; rw [if_neg (by decide), hy]] at this
  have KO := Lib.hid ko
  have kc : ∀ W, Calls Try.prog 22 #[.agg #[.int .u32 a, .int .i64 n]] W fun e w' => e = .returned (.int .i64 0) ∧ Below W.heap.size W w' := fun W => by have := ip1.check_any a n W a0 a1; simpa only [hr, if_true] using this
  have KC := Lib.hid kc
  have kv : ∀ W, Calls Try.prog 21 #[.agg #[.int .u32 a, .int .i64 n], .int .u32 v] W fun e w' => e = .returned (.bool hV) ∧ Below W.heap.size W w' := fun W => by have := ip1.has_any a n v W a0 a1 v0 v1; rwa [e1] at this
  have KV := Lib.hid kv
  have kx : ∀ W, Calls Try.prog 21 #[.agg #[.int .u32 a, .int .i64 (n + 1)], .int .u32 v] W fun e w' => e = .returned (.bool hX) ∧ Below W.heap.size W w' := fun W => by have := ip1.has_any a (n + 1) v W a0 a1 v0 v1; rwa [e2] at this
  have KX := Lib.hid kx
  have ky : ∀ W, Calls Try.prog 21 #[.agg #[.int .u32 y, .int .i64 (n + 1)], .int .u32 v] W fun e w' => e = .returned (.bool hY) ∧ Below W.heap.size W w' := fun W => by have := ip1.has_any y (n + 1) v W y0 y1 v0 v1; rwa [e3] at this
  have KY := Lib.hid ky
  have km : ∀ W, Calls Try.prog 25 #[.agg #[.int .u32 a, .int .i64 (n + 1)], .agg #[.int .u32 y, .int .i64 (n + 1)]] W fun e w' => e = .returned (.bool false) ∧ Below W.heap.size W w' := fun W => by have := ip1.meets_any a (n + 1) y (n + 1) W a0 a1 y0 y1; rwa [e4] at this
  have KM := Lib.hid km
  have kcx : ∀ W, Calls Try.prog 23 #[.agg #[.int .u32 a, .int .i64 n], .agg #[.int .u32 a, .int .i64 (n + 1)]] W fun e w' => e = .returned (.bool true) ∧ Below W.heap.size W w' := fun W => by have := ip1.covers_any a n a (n + 1) W a0 a1 a0 a1; rwa [e5] at this
  have KCX := Lib.hid kcx
  have kcy : ∀ W, Calls Try.prog 23 #[.agg #[.int .u32 a, .int .i64 n], .agg #[.int .u32 y, .int .i64 (n + 1)]] W fun e w' => e = .returned (.bool true) ∧ Below W.heap.size W w' := fun W => by have := ip1.covers_any a n y (n + 1) W a0 a1 y0 y1; rwa [e6] at this
  have KCY := Lib.hid kcy
  have kfp : ∀ W, Calls Try.prog 30 #[.agg #[.int .u32 a, .int .i64 n]] W fun e w' => e = .returned (.int .u32 a) ∧ Below W.heap.size W w' := fun W => by exact ip1.first_any a n W
  have KFP := Lib.hid kfp
  have kfx : ∀ W, Calls Try.prog 30 #[.agg #[.int .u32 a, .int .i64 (n + 1)]] W fun e w' => e = .returned (.int .u32 a) ∧ Below W.heap.size W w' := fun W => by exact ip1.first_any a (n + 1) W
  have KFX := Lib.hid kfx
  have kfy : ∀ W, Calls Try.prog 30 #[.agg #[.int .u32 y, .int .i64 (n + 1)]] W fun e w' => e = .returned (.int .u32 y) ∧ Below W.heap.size W w' := fun W => by exact ip1.first_any y (n + 1) W
  have KFY := Lib.hid kfy
  have klp : ∀ W, Calls Try.prog 28 #[.agg #[.int .u32 a, .int .i64 n]] W fun e w' => e = .returned (.int .u32 l) ∧ Below W.heap.size W w' := fun W => by have := ip1.last_any a n W a0 a1; rwa [hl] at this
  have KLP := Lib.hid klp
  have klx : ∀ W, Calls Try.prog 28 #[.agg #[.int .u32 a, .int .i64 (n + 1)]] W fun e w' => e = .returned (.int .u32 (y - 1)) ∧ Below W.heap.size W w' := fun W => by have := ip1.last_any a (n + 1) W a0 a1; rwa [e7] at this
  have KLX := Lib.hid klx
  have kly : ∀ W, Calls Try.prog 28 #[.agg #[.int .u32 y, .int .i64 (n + 1)]] W fun e w' => e = .returned (.int .u32 l) ∧ Below W.heap.size W w' := fun W => by have := ip1.last_any y (n + 1) W y0 y1; rwa [hly] at this
  have KLY := Lib.hid kly
  have hneq : ∀ W, (binOp .neq 27 (.agg #[.int .u32 a, .int .i64 (n + 1)]) (.agg #[.int .u32 a, .int .i64 (n + 1)])).run Try.prog W = .ok (.bool false) W := fun W => by have := ip1.neq_pfx a (n + 1) a (n + 1) W; simpa using this
  have hylt : y - 1 < y := by omega
  clear kt ko kc kv kx ky km kcx kcy kfp kfx kfy klp klx kly hr hy hl hly e1 e2 e3 e4 e5 e6 e7
  have hn32 : (n == 32) = false := by simpa using hn
  clear hn
  have DA := Lib.hid (show v < a → decide (a ≤ v) = false from fun h => by simp; omega)
  have DL := Lib.hid (show l < v → decide (v ≤ l) = false from fun h => by simp; omega)
  rcases hc with ⟨rfl, rfl, rfl, c1, c2⟩ | ⟨rfl, rfl, rfl, c1, c2⟩ | ⟨rfl, rfl, rfl, c1⟩ | ⟨rfl, rfl, rfl, c1, c2⟩
  all_goals
    try have d1 := DA.out c1
    try have d2 := DL.out c2
    go_enter Try.func7, Try.ntmps7
    go_wp2_with fail
    refine (aid.keep_first (ip1.last_any _ _ _ (by omega) (by omega))).mono ?_
    rintro e _ ⟨rfl, s1, rfl⟩
    rw [show lastI 167772160 8 = 184549375 by decide]
    have f0 := aid.keep_cell (aid.new2a w (.int .u32 a) (.int .i64 n) 27)
    have f1 := aid.keep_cell (aid.new2b w (.int .u32 a) (.int .i64 n) 27)
    have HB := Lib.hid (aid.kba (Below.refl w.heap.size w) (.cells #[.int .u32 a, .int .i64 n] 27))
    go_wp2_with fail
    refine (aid.keep_call (KT.out _)).mono ?_
    rintro e _ ⟨rfl, s2, rfl⟩
    have q0 := aid.ca (.cells #[.int .u32 a, .int .i64 (n + 1)] 27) (f0 s2)
    have q1 := aid.ca (.cells #[.int .u32 a, .int .i64 (n + 1)] 27) (f1 s2)
    go_wp2_with fail
    refine (aid.keep_first (KC.out _)).mono ?_
    rintro e _ ⟨rfl, s3, rfl⟩
    have g0 := aid.keep_cell q0
    have g1 := aid.keep_cell q1
    have g2 := aid.keep_cell (aid.new2a s2.world (.int .u32 a) (.int .i64 (n + 1)) 27)
    have g3 := aid.keep_cell (aid.new2b s2.world (.int .u32 a) (.int .i64 (n + 1)) 27)
    have HB3 := Lib.hid (aid.kba (aid.kbk HB.out s2) (.cells #[.int .u32 a, .int .i64 (n + 1)] 27))
    clear f0 f1 q0 q1
    go_wp2_with fail
    refine (aid.keep_call (KT.out _)).mono ?_
    rintro e _ ⟨rfl, s4, rfl⟩
    have q0 := aid.ca (.cells #[.int .u32 a, .int .i64 (n + 1)] 27) (g0 s4)
    have q1 := aid.ca (.cells #[.int .u32 a, .int .i64 (n + 1)] 27) (g1 s4)
    have q2 := aid.ca (.cells #[.int .u32 a, .int .i64 (n + 1)] 27) (g2 s4)
    have q3 := aid.ca (.cells #[.int .u32 a, .int .i64 (n + 1)] 27) (g3 s4)
    go_wp2_with fail
    refine (aid.keep_first (KO.out _)).mono ?_
    rintro e _ ⟨rfl, s5, rfl⟩
    have r0 := aid.ca (.cells #[.int .u32 y, .int .i64 (n + 1)] 27) (aid.keep_cell q0 s5)
    have r1 := aid.ca (.cells #[.int .u32 y, .int .i64 (n + 1)] 27) (aid.keep_cell q1 s5)
    have r2 := aid.ca (.cells #[.int .u32 y, .int .i64 (n + 1)] 27) (aid.keep_cell q2 s5)
    have r3 := aid.ca (.cells #[.int .u32 y, .int .i64 (n + 1)] 27) (aid.keep_cell q3 s5)
    have r4 := aid.ca (.cells #[.int .u32 y, .int .i64 (n + 1)] 27) (aid.keep_cell (aid.new2a s4.world (.int .u32 a) (.int .i64 (n + 1)) 27) s5)
    have r5 := aid.ca (.cells #[.int .u32 y, .int .i64 (n + 1)] 27) (aid.keep_cell (aid.new2b s4.world (.int .u32 a) (.int .i64 (n + 1)) 27) s5)
    have r6 := aid.new2a s5.world (.int .u32 y) (.int .i64 (n + 1)) 27
    have r7 := aid.new2b s5.world (.int .u32 y) (.int .i64 (n + 1)) 27
    clear q0 q1 q2 q3 g0 g1 g2 g3
    have HB5 := Lib.hid (aid.kba (aid.kbk (aid.kba (aid.kbk HB3.out s4) (.cells #[.int .u32 a, .int .i64 (n + 1)] 27)) s5) (.cells #[.int .u32 y, .int .i64 (n + 1)] 27))
    go_wp2_with fail
    have k0 := aid.keep_cell r0
    have k1 := aid.keep_cell r1
    have k4 := aid.keep_cell r4
    have k5 := aid.keep_cell r5
    have k6 := aid.keep_cell r6
    have k7 := aid.keep_cell r7
    clear r0 r1 r2 r3 r4 r5 r6 r7
    refine aid.wp_region_keep (by kernel_rfl) (by kernel_rfl) ?_
    repeat (go_big_quiet_step (((first | (go_at_call 21; first | ((with_reducible exact aid.keep_call (KV.out _))) | ((with_reducible exact aid.keep_call (KX.out _))) | ((with_reducible exact aid.keep_call (KY.out _)))) | (go_at_call 25; first | ((with_reducible exact aid.keep_call (KM.out _)))) | (go_at_call 23; first | ((with_reducible exact aid.keep_call (KCX.out _))) | ((with_reducible exact aid.keep_call (KCY.out _)))) | (go_at_call 30; first | ((with_reducible exact aid.keep_call (KFP.out _))) | ((with_reducible exact aid.keep_call (KFX.out _))) | ((with_reducible exact aid.keep_call (KFY.out _)))) | (go_at_call 28; first | ((with_reducible exact aid.keep_call (KLP.out _))) | ((with_reducible exact aid.keep_call (KLX.out _))) | ((with_reducible exact aid.keep_call (KLY.out _))))))))
    refine wpQuiet_nil ?_
    rintro _ ⟨s6, rfl⟩
    go_wp2_with fail
    have l0 := fun s : aid.Keep s6.world => aid.keep_cell (k0 s6) s
    have l1 := fun s : aid.Keep s6.world => aid.keep_cell (k1 s6) s
    have l4 := fun s : aid.Keep s6.world => aid.keep_cell (k4 s6) s
    have l5 := fun s : aid.Keep s6.world => aid.keep_cell (k5 s6) s
    have l6 := fun s : aid.Keep s6.world => aid.keep_cell (k6 s6) s
    have l7 := fun s : aid.Keep s6.world => aid.keep_cell (k7 s6) s
    clear k0 k1 k4 k5 k6 k7
    refine aid.wp_region_keep (by kernel_rfl) (by kernel_rfl) ?_
    repeat (go_big_quiet_step (((first | (go_at_call 21; first | ((with_reducible exact aid.keep_call (KV.out _))) | ((with_reducible exact aid.keep_call (KX.out _))) | ((with_reducible exact aid.keep_call (KY.out _)))) | (go_at_call 25; first | ((with_reducible exact aid.keep_call (KM.out _)))) | (go_at_call 23; first | ((with_reducible exact aid.keep_call (KCX.out _))) | ((with_reducible exact aid.keep_call (KCY.out _)))) | (go_at_call 30; first | ((with_reducible exact aid.keep_call (KFP.out _))) | ((with_reducible exact aid.keep_call (KFX.out _))) | ((with_reducible exact aid.keep_call (KFY.out _)))) | (go_at_call 28; first | ((with_reducible exact aid.keep_call (KLP.out _))) | ((with_reducible exact aid.keep_call (KLX.out _))) | ((with_reducible exact aid.keep_call (KLY.out _))))))))
    refine wpQuiet_nil ?_
    rintro _ ⟨s7, rfl⟩
    go_wp2_with fail
    go_ret
    exact ⟨rfl, aid.kbk (aid.kbk HB5.out s6) s7⟩

set_option maxRecDepth 100000 in
set_option maxHeartbeats 2000000 in
theorem walk_t (a n v t y l : Int) (w : World) (hV hX hY : Bool) (ht : t ≠ 0) (a0 : 0 ≤ a) (a1 : a < 4294967296) (y0 : 0 ≤ y) (y1 : y < 4294967296) (v0 : 0 ≤ v) (v1 : v < 4294967296) (hr : rightB a n = true) (hn : n ≠ 32)
    (hy : y = a + sz (n + 1)) (hl : lastI a n = l) (hly : lastI y (n + 1) = l)
    (e1 : hasB a n v = hV) (e2 : hasB a (n + 1) v = hX) (e3 : hasB y (n + 1) v = hY) (e4 : ip1.meetsB a (n + 1) y (n + 1) = false) (e5 : coversB a n a (n + 1) = true) (e6 : coversB a n y (n + 1) = true) (e7 : lastI a (n + 1) = y - 1)
    (hc : (hX = true ∧ hY = false ∧ hV = true ∧ a ≤ v ∧ v ≤ l) ∨ (hX = false ∧ hY = true ∧ hV = true ∧ a ≤ v ∧ v ≤ l) ∨ (hX = false ∧ hY = false ∧ hV = false ∧ v < a) ∨ (hX = false ∧ hY = false ∧ hV = false ∧ a ≤ v ∧ l < v)) :
    Calls Try.prog 7 #[.agg #[.int .u32 a, .int .i64 n], .int .u32 v, .int .i64 t] w fun e w' => e = .returned (.bool true) ∧ Below w.heap.size w w' := by
  have kt : ∀ W, Calls Try.prog 29 #[.agg #[.int .u32 a, .int .i64 n], .int .i64 t] W fun e w' => e = .returned (.tuple #[.agg #[.int .u32 y, .int .i64 (n + 1)], .int .i64 0]) ∧ Below W.heap.size W w' := fun W => by have := ip1.half_yes a n t W a0 a1 hr hn; rwa [show ip1.halfI a n t = y by unfold ip1.halfI; rw [if_neg ht, hy]] at this
  have KT := Lib.hid kt
  have kz : ∀ W, Calls Try.prog 29 #[.agg #[.int .u32 a, .int .i64 n], .int .i64 0] W fun e w' => e = .returned (.tuple #[.agg #[.int .u32 a, .int .i64 (n + 1)], .int .i64 0]) ∧ Below W.heap.size W w' := fun W => by have := ip1.half_yes a n 0 W a0 a1 hr hn; rwa [show ip1.halfI a n 0 = a from rfl] at this
  have KZ := Lib.hid kz
  have ko : ∀ W, Calls Try.prog 29 #[.agg #[.int .u32 a, .int .i64 n], .int .i64 1] W fun e w' => e = .returned (.tuple #[.agg #[.int .u32 y, .int .i64 (n + 1)], .int .i64 0]) ∧ Below W.heap.size W w' := fun W => by have := ip1.half_yes a n 1 W a0 a1 hr hn; rwa [show ip1.halfI a n 1 = y by unfold ip1.halfI; rw [if_neg (by decide), hy]] at this
  have KO := Lib.hid ko
  have kc : ∀ W, Calls Try.prog 22 #[.agg #[.int .u32 a, .int .i64 n]] W fun e w' => e = .returned (.int .i64 0) ∧ Below W.heap.size W w' := fun W => by have := ip1.check_any a n W a0 a1; simpa only [hr, if_true] using this
  have KC := Lib.hid kc
  have kv : ∀ W, Calls Try.prog 21 #[.agg #[.int .u32 a, .int .i64 n], .int .u32 v] W fun e w' => e = .returned (.bool hV) ∧ Below W.heap.size W w' := fun W => by have := ip1.has_any a n v W a0 a1 v0 v1; rwa [e1] at this
  have KV := Lib.hid kv
  have kx : ∀ W, Calls Try.prog 21 #[.agg #[.int .u32 a, .int .i64 (n + 1)], .int .u32 v] W fun e w' => e = .returned (.bool hX) ∧ Below W.heap.size W w' := fun W => by have := ip1.has_any a (n + 1) v W a0 a1 v0 v1; rwa [e2] at this
  have KX := Lib.hid kx
  have ky : ∀ W, Calls Try.prog 21 #[.agg #[.int .u32 y, .int .i64 (n + 1)], .int .u32 v] W fun e w' => e = .returned (.bool hY) ∧ Below W.heap.size W w' := fun W => by have := ip1.has_any y (n + 1) v W y0 y1 v0 v1; rwa [e3] at this
  have KY := Lib.hid ky
  have km : ∀ W, Calls Try.prog 25 #[.agg #[.int .u32 a, .int .i64 (n + 1)], .agg #[.int .u32 y, .int .i64 (n + 1)]] W fun e w' => e = .returned (.bool false) ∧ Below W.heap.size W w' := fun W => by have := ip1.meets_any a (n + 1) y (n + 1) W a0 a1 y0 y1; rwa [e4] at this
  have KM := Lib.hid km
  have kcx : ∀ W, Calls Try.prog 23 #[.agg #[.int .u32 a, .int .i64 n], .agg #[.int .u32 a, .int .i64 (n + 1)]] W fun e w' => e = .returned (.bool true) ∧ Below W.heap.size W w' := fun W => by have := ip1.covers_any a n a (n + 1) W a0 a1 a0 a1; rwa [e5] at this
  have KCX := Lib.hid kcx
  have kcy : ∀ W, Calls Try.prog 23 #[.agg #[.int .u32 a, .int .i64 n], .agg #[.int .u32 y, .int .i64 (n + 1)]] W fun e w' => e = .returned (.bool true) ∧ Below W.heap.size W w' := fun W => by have := ip1.covers_any a n y (n + 1) W a0 a1 y0 y1; rwa [e6] at this
  have KCY := Lib.hid kcy
  have kfp : ∀ W, Calls Try.prog 30 #[.agg #[.int .u32 a, .int .i64 n]] W fun e w' => e = .returned (.int .u32 a) ∧ Below W.heap.size W w' := fun W => by exact ip1.first_any a n W
  have KFP := Lib.hid kfp
  have kfx : ∀ W, Calls Try.prog 30 #[.agg #[.int .u32 a, .int .i64 (n + 1)]] W fun e w' => e = .returned (.int .u32 a) ∧ Below W.heap.size W w' := fun W => by exact ip1.first_any a (n + 1) W
  have KFX := Lib.hid kfx
  have kfy : ∀ W, Calls Try.prog 30 #[.agg #[.int .u32 y, .int .i64 (n + 1)]] W fun e w' => e = .returned (.int .u32 y) ∧ Below W.heap.size W w' := fun W => by exact ip1.first_any y (n + 1) W
  have KFY := Lib.hid kfy
  have klp : ∀ W, Calls Try.prog 28 #[.agg #[.int .u32 a, .int .i64 n]] W fun e w' => e = .returned (.int .u32 l) ∧ Below W.heap.size W w' := fun W => by have := ip1.last_any a n W a0 a1; rwa [hl] at this
  have KLP := Lib.hid klp
  have klx : ∀ W, Calls Try.prog 28 #[.agg #[.int .u32 a, .int .i64 (n + 1)]] W fun e w' => e = .returned (.int .u32 (y - 1)) ∧ Below W.heap.size W w' := fun W => by have := ip1.last_any a (n + 1) W a0 a1; rwa [e7] at this
  have KLX := Lib.hid klx
  have kly : ∀ W, Calls Try.prog 28 #[.agg #[.int .u32 y, .int .i64 (n + 1)]] W fun e w' => e = .returned (.int .u32 l) ∧ Below W.heap.size W w' := fun W => by have := ip1.last_any y (n + 1) W y0 y1; rwa [hly] at this
  have KLY := Lib.hid kly
  have hneq : ∀ W, (binOp .neq 27 (.agg #[.int .u32 y, .int .i64 (n + 1)]) (.agg #[.int .u32 y, .int .i64 (n + 1)])).run Try.prog W = .ok (.bool false) W := fun W => by have := ip1.neq_pfx y (n + 1) y (n + 1) W; simpa using this
  have hylt : y - 1 < y := by omega
  clear kt kz ko kc kv kx ky km kcx kcy kfp kfx kfy klp klx kly hr hy hl hly e1 e2 e3 e4 e5 e6 e7
  have hn32 : (n == 32) = false := by simpa using hn
  clear hn
  have ht0 : (t == 0) = false := by simpa using ht
  have ht1 : (t != 0) = true := by simpa using ht
  have ht2 : ¬ t = 0 := ht
  clear ht
  have DA := Lib.hid (show v < a → decide (a ≤ v) = false from fun h => by simp; omega)
  have DL := Lib.hid (show l < v → decide (v ≤ l) = false from fun h => by simp; omega)
  rcases hc with ⟨rfl, rfl, rfl, c1, c2⟩ | ⟨rfl, rfl, rfl, c1, c2⟩ | ⟨rfl, rfl, rfl, c1⟩ | ⟨rfl, rfl, rfl, c1, c2⟩
  all_goals
    try have d1 := DA.out c1
    try have d2 := DL.out c2
    go_enter Try.func7, Try.ntmps7
    go_wp2_with fail
    refine (aid.keep_first (ip1.last_any _ _ _ (by omega) (by omega))).mono ?_
    rintro e _ ⟨rfl, s1, rfl⟩
    rw [show lastI 167772160 8 = 184549375 by decide]
    have f0 := aid.keep_cell (aid.new2a w (.int .u32 a) (.int .i64 n) 27)
    have f1 := aid.keep_cell (aid.new2b w (.int .u32 a) (.int .i64 n) 27)
    have HB := Lib.hid (aid.kba (Below.refl w.heap.size w) (.cells #[.int .u32 a, .int .i64 n] 27))
    go_wp2_with fail
    refine (aid.keep_call (KT.out _)).mono ?_
    rintro e _ ⟨rfl, s2, rfl⟩
    have q0 := aid.ca (.cells #[.int .u32 y, .int .i64 (n + 1)] 27) (f0 s2)
    have q1 := aid.ca (.cells #[.int .u32 y, .int .i64 (n + 1)] 27) (f1 s2)
    go_wp2_with fail
    refine (aid.keep_first (KC.out _)).mono ?_
    rintro e _ ⟨rfl, s3, rfl⟩
    have g0 := aid.keep_cell q0
    have g1 := aid.keep_cell q1
    have g2 := aid.keep_cell (aid.new2a s2.world (.int .u32 y) (.int .i64 (n + 1)) 27)
    have g3 := aid.keep_cell (aid.new2b s2.world (.int .u32 y) (.int .i64 (n + 1)) 27)
    have HB3 := Lib.hid (aid.kba (aid.kbk HB.out s2) (.cells #[.int .u32 y, .int .i64 (n + 1)] 27))
    clear f0 f1 q0 q1
    go_wp2_with fail
    refine (aid.keep_call (KZ.out _)).mono ?_
    rintro e _ ⟨rfl, s4, rfl⟩
    have q0 := aid.ca (.cells #[.int .u32 a, .int .i64 (n + 1)] 27) (g0 s4)
    have q1 := aid.ca (.cells #[.int .u32 a, .int .i64 (n + 1)] 27) (g1 s4)
    have q2 := aid.ca (.cells #[.int .u32 a, .int .i64 (n + 1)] 27) (g2 s4)
    have q3 := aid.ca (.cells #[.int .u32 a, .int .i64 (n + 1)] 27) (g3 s4)
    go_wp2_with fail
    refine (aid.keep_first (KO.out _)).mono ?_
    rintro e _ ⟨rfl, s5, rfl⟩
    have r0 := aid.ca (.cells #[.int .u32 y, .int .i64 (n + 1)] 27) (aid.keep_cell q0 s5)
    have r1 := aid.ca (.cells #[.int .u32 y, .int .i64 (n + 1)] 27) (aid.keep_cell q1 s5)
    have r2 := aid.ca (.cells #[.int .u32 y, .int .i64 (n + 1)] 27) (aid.keep_cell q2 s5)
    have r3 := aid.ca (.cells #[.int .u32 y, .int .i64 (n + 1)] 27) (aid.keep_cell q3 s5)
    have r4 := aid.ca (.cells #[.int .u32 y, .int .i64 (n + 1)] 27) (aid.keep_cell (aid.new2a s4.world (.int .u32 a) (.int .i64 (n + 1)) 27) s5)
    have r5 := aid.ca (.cells #[.int .u32 y, .int .i64 (n + 1)] 27) (aid.keep_cell (aid.new2b s4.world (.int .u32 a) (.int .i64 (n + 1)) 27) s5)
    have r6 := aid.new2a s5.world (.int .u32 y) (.int .i64 (n + 1)) 27
    have r7 := aid.new2b s5.world (.int .u32 y) (.int .i64 (n + 1)) 27
    clear q0 q1 q2 q3 g0 g1 g2 g3
    have HB5 := Lib.hid (aid.kba (aid.kbk (aid.kba (aid.kbk HB3.out s4) (.cells #[.int .u32 a, .int .i64 (n + 1)] 27)) s5) (.cells #[.int .u32 y, .int .i64 (n + 1)] 27))
    go_wp2_with fail
    have k0 := aid.keep_cell r0
    have k1 := aid.keep_cell r1
    have k4 := aid.keep_cell r4
    have k5 := aid.keep_cell r5
    have k6 := aid.keep_cell r6
    have k7 := aid.keep_cell r7
    clear r0 r1 r2 r3 r4 r5 r6 r7
    refine aid.wp_region_keep (by kernel_rfl) (by kernel_rfl) ?_
    repeat (go_big_quiet_step (((first | (go_at_call 21; first | ((with_reducible exact aid.keep_call (KV.out _))) | ((with_reducible exact aid.keep_call (KX.out _))) | ((with_reducible exact aid.keep_call (KY.out _)))) | (go_at_call 25; first | ((with_reducible exact aid.keep_call (KM.out _)))) | (go_at_call 23; first | ((with_reducible exact aid.keep_call (KCX.out _))) | ((with_reducible exact aid.keep_call (KCY.out _)))) | (go_at_call 30; first | ((with_reducible exact aid.keep_call (KFP.out _))) | ((with_reducible exact aid.keep_call (KFX.out _))) | ((with_reducible exact aid.keep_call (KFY.out _)))) | (go_at_call 28; first | ((with_reducible exact aid.keep_call (KLP.out _))) | ((with_reducible exact aid.keep_call (KLX.out _))) | ((with_reducible exact aid.keep_call (KLY.out _))))))))
    refine wpQuiet_nil ?_
    rintro _ ⟨s6, rfl⟩
    go_wp2_with fail
    have l0 := fun s : aid.Keep s6.world => aid.keep_cell (k0 s6) s
    have l1 := fun s : aid.Keep s6.world => aid.keep_cell (k1 s6) s
    have l4 := fun s : aid.Keep s6.world => aid.keep_cell (k4 s6) s
    have l5 := fun s : aid.Keep s6.world => aid.keep_cell (k5 s6) s
    have l6 := fun s : aid.Keep s6.world => aid.keep_cell (k6 s6) s
    have l7 := fun s : aid.Keep s6.world => aid.keep_cell (k7 s6) s
    clear k0 k1 k4 k5 k6 k7
    refine aid.wp_region_keep (by kernel_rfl) (by kernel_rfl) ?_
    repeat (go_big_quiet_step (((first | (go_at_call 21; first | ((with_reducible exact aid.keep_call (KV.out _))) | ((with_reducible exact aid.keep_call (KX.out _))) | ((with_reducible exact aid.keep_call (KY.out _)))) | (go_at_call 25; first | ((with_reducible exact aid.keep_call (KM.out _)))) | (go_at_call 23; first | ((with_reducible exact aid.keep_call (KCX.out _))) | ((with_reducible exact aid.keep_call (KCY.out _)))) | (go_at_call 30; first | ((with_reducible exact aid.keep_call (KFP.out _))) | ((with_reducible exact aid.keep_call (KFX.out _))) | ((with_reducible exact aid.keep_call (KFY.out _)))) | (go_at_call 28; first | ((with_reducible exact aid.keep_call (KLP.out _))) | ((with_reducible exact aid.keep_call (KLX.out _))) | ((with_reducible exact aid.keep_call (KLY.out _))))))))
    refine wpQuiet_nil ?_
    rintro _ ⟨s7, rfl⟩
    go_wp2_with fail
    go_ret
    exact ⟨rfl, aid.kbk (aid.kbk HB5.out s6) s7⟩

theorem walk (a n v t : Int) (w : World) (ha : U32 a) (hn : I64 n) (hv : U32 v) (ht : I64 t) :
    Calls Try.prog 7 #[.agg #[.int .u32 a, .int .i64 n], .int .u32 v, .int .i64 t] w fun e w' => e = .returned (.bool true) ∧ Below w.heap.size w w' := by
  obtain ⟨a0, a1⟩ := ha
  obtain ⟨v0, v1⟩ := hv
  by_cases hno : rightB a n = false ∨ n = 32
  · exact walk_no a n v t w a0 a1 hno
  · have hr : rightB a n = true := by
      cases e : rightB a n with
      | true => rfl
      | false => exact (hno (.inl e)).elim
    have h32 : n ≠ 32 := fun e => hno (.inr e)
    obtain ⟨hn0, hn1, hz⟩ := rightB_iff.1 hr
    have hn2 : n < 32 := by omega
    obtain ⟨r1, r2, r3, r4⟩ := right_mono hr hn2
    have hhb := half_bits a n a0 a1 hn0 hn2 hz
    obtain ⟨y, hy⟩ : ∃ y, y = a + sz (n + 1) := ⟨_, rfl⟩
    rw [← hy] at r2
    have y1 : y < 4294967296 := by rw [hy]; exact hhb.2
    have y0 : 0 ≤ y := by omega
    have R := has_range (v := v) hr
    have R1 := has_range (v := v) r1
    have R2 := has_range (v := v) r2
    have l1 := last_right hr
    have l2 := last_right r1
    have l3 := last_right r2
    have hl : lastI a n = a + (sz n - 1) := l1
    have hly : lastI y (n + 1) = lastI a n := by rw [l3, l1]; omega
    have e4 : ip1.meetsB a (n + 1) y (n + 1) = false := by
      unfold ip1.meetsB
      rw [covers_false_of_not_has (has_false r1 (by omega)), covers_false_of_not_has (has_false r2 (by omega))]
      rfl
    have e5 : coversB a n a (n + 1) = true := covers_true r1 (by omega) ((has_range hr).2 (by omega))
    have e6 : coversB a n y (n + 1) = true := covers_true r2 (by omega) ((has_range hr).2 (by omega))
    have e7 : lastI a (n + 1) = y - 1 := by rw [l2]; omega
    have hc : (hasB a (n + 1) v = true ∧ hasB y (n + 1) v = false ∧ hasB a n v = true ∧ a ≤ v ∧ v ≤ lastI a n) ∨ (hasB a (n + 1) v = false ∧ hasB y (n + 1) v = true ∧ hasB a n v = true ∧ a ≤ v ∧ v ≤ lastI a n) ∨
        (hasB a (n + 1) v = false ∧ hasB y (n + 1) v = false ∧ hasB a n v = false ∧ v < a) ∨ (hasB a (n + 1) v = false ∧ hasB y (n + 1) v = false ∧ hasB a n v = false ∧ a ≤ v ∧ lastI a n < v) := by
      rw [hl]
      by_cases c1 : v < a
      · exact .inr (.inr (.inl ⟨has_false r1 (by omega), has_false r2 (by omega), has_false hr (by omega), c1⟩))
      · by_cases c2 : v < y
        · exact .inl ⟨R1.2 (by omega), has_false r2 (by omega), R.2 (by omega), by omega, by omega⟩
        · by_cases c3 : v < a + sz n
          · exact .inr (.inl ⟨has_false r1 (by omega), R2.2 (by omega), R.2 (by omega), by omega, by omega⟩)
          · exact .inr (.inr (.inr ⟨has_false r1 (by omega), has_false r2 (by omega), has_false hr (by omega), by omega, by omega⟩))
    by_cases ht0 : t = 0
    · subst ht0
      exact walk_z a n v y (lastI a n) w _ _ _ a0 a1 y0 y1 v0 v1 hr h32 hy rfl hly rfl rfl rfl e4 e5 e6 e7 hc
    · exact walk_t a n v t y (lastI a n) w _ _ _ ht0 a0 a1 y0 y1 v0 v1 hr h32 hy rfl hly rfl rfl rfl e4 e5 e6 e7 hc

set_option maxRecDepth 100000 in
theorem lifted (os : Os) (started : os.Started) (H : Type) (enc : TypeId × Value → H) :
    ReturnsInHanded {} Try.checked os 7 .any (Rows.ipHalvesSpec.pre6 enc Try.prog Try.f7 Rows.ipHalvesRow.domain false) (Rows.ipHalvesSpec.post enc Try.prog Try.f7 false true false false) := by
  refine returnsInHanded_of_change (C := Try.checked) own started (by kernel_rfl) Try.func7
    (ChangeSpec.witness6 (enc := enc) (C := Try.checked) false ⟨#[], #[.agg #[.int .u32 0, .int .i64 0], .int .u32 0, .int .i64 0], []⟩ 8 (by kernel_rfl) (by kernel_rfl) (by kernel_rfl) (by kernel_rfl)) ?_
  intro W base args ds gs before hval0 hW hcnd _
  have hval : ∀ (j : Nat) t v, Try.f7.params[j]? = some t → args[j]? = some v → Value.okWide Try.prog W .any base t v := hval0
  obtain ⟨p, q, hA0, _⟩ := id hW
  have hA : DataW.TrodAll enc Try.prog W 0 (fun _ => true) true Try.f7.params.toList args.toList ds p := hA0
  rw [Try.params7] at hA hval
  obtain ⟨v0, vs0, d0, ds0, p0, q0, hargs, rfl, rfl, h0, r0⟩ := trodAll_cons hA
  obtain ⟨v1, vs1, d1, ds1, p1, q1, rfl, rfl, rfl, h1, r1⟩ := trodAll_cons r0
  obtain ⟨v2, vs2, d2, ds2, p2, q2, rfl, rfl, rfl, h2, r2⟩ := trodAll_cons r1
  obtain ⟨rfl, rfl, rfl⟩ := trodAll_nil r2
  obtain rfl : args = #[v0, v1, v2] := by cases args; simp_all
  obtain ⟨a, n, rfl, ha, hn⟩ := open_pfx (hval 0 _ v0 rfl rfl) h0
  obtain ⟨v, rfl, hv⟩ := open_u32 Try.underlying23 (hval 1 _ v1 rfl rfl) h1
  obtain ⟨t, rfl, ht⟩ := open_i64 Try.underlying3 (hval 2 _ v2 rfl rfl) h2
  refine (walk a n v t W ha hn hv ht).mono fun e W' ⟨he, hb⟩ => ⟨_, he, ?_⟩
  exact law_post laidOut rfl (by kernel_rfl) Try.underlying4 (by kernel_rfl) (fun ds h => by match ds, h with | [_, _, _], _ => rfl) hW hb

theorem over : Rows.ipHalvesRow.holds Try.pinned (OpenSpec.ofChange Rows.ipHalvesSpec) :=
  OpenClaim.holds_of_wide 7 Try.f7 rfl rfl rfl rfl rfl rfl rfl ⟨rfl, rfl, rfl, rfl, rfl⟩ rfl rfl rfl rfl rfl (by kernel_rfl) Try.func7 (by kernel_rfl)
    (of_decide_eq_true (by kernel_rfl)) (by unfold Func.isWrapper; first | (rw [if_pos (by decide +kernel)]; kernel_rfl) | (rw [if_neg (by decide +kernel)]; exact ⟨rfl, rfl⟩))
    (fun os started H enc _ => lifted os started H enc)

theorem proved : Rows.IpHalvesSaid := over
end Go.Proofs.Ytjpjgehhkjljfaa.lawHalves
