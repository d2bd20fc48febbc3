/- IpOrders: for any three prefixes, in their form or not, the law answers true. No condition. -/
import Derived.Test.YtjpjgehhkjljfaaFrame
import Derived.Test.YtjpjgehhkjljfaaIp2
import Derived.Test.YtjpjgehhkjljfaaAid
import Derived.Deep.RegionHeld3
set_option linter.unusedVariables false
namespace Go.Proofs.Ytjpjgehhkjljfaa.lawOrders
open Go.ChangeShapes Go.WideShapes Go.ChangeAt Go.RowKit Go.Proofs.Ytjpjgehhkjljfaa.frame Go.Proofs.Ytjpjgehhkjljfaa.math1

open Go.Proofs.Ytjpjgehhkjljfaa.ip1 (cmpP cmp3 or2)
theorem cmpP_same (a n : Int) : cmpP a n a n = 0 := by simp [cmpP, cmp3, or2]
theorem cmpP_cases (a n b m : Int) : (cmpP a n b m = 0 ∧ cmpP b m a n = 0 ∧ a = b ∧ n = m) ∨ (cmpP a n b m = -1 ∧ cmpP b m a n = 1 ∧ ¬ (a = b ∧ n = m) ∧ (a < b ∨ a = b ∧ n < m)) ∨ (cmpP a n b m = 1 ∧ cmpP b m a n = -1 ∧ ¬ (a = b ∧ n = m) ∧ (b < a ∨ a = b ∧ m < n)) := by
  unfold cmpP cmp3 or2
  by_cases h1 : a < b
  · right; left
    simp [h1, show ¬ b < a by omega]; omega
  · by_cases h2 : b < a
    · right; right
      simp [h1, h2]; omega
    · obtain rfl : a = b := by omega
      by_cases h3 : n < m
      · right; left
        simp [h3, show ¬ m < n by omega]; omega
      · by_cases h4 : m < n
        · right; right
          simp [h3, h4]; omega
        · obtain rfl : n = m := by omega
          left
          simp
theorem cmpP_less {a n b m : Int} (h : a < b ∨ a = b ∧ n < m) : cmpP a n b m = -1 := by
  rcases cmpP_cases a n b m with h1 | h1 | h1
  · omega
  · exact h1.1
  · omega
theorem covers_less {a n b m : Int} (hb0 : 0 ≤ b) (hb1 : b < 4294967296) (h : coversB a n b m = true) : a < b ∨ a = b ∧ n ≤ m := by
  simp only [coversB, Bool.and_eq_true, decide_eq_true_eq] at h
  obtain ⟨_, h2, h3⟩ := h
  simp only [hasB, Bool.and_eq_true, beq_iff_eq] at h3
  have := netI_bd (n := n) hb0 hb1
  omega

set_option maxRecDepth 100000 in
set_option maxHeartbeats 1000000 in
theorem walk (a n b m c k : Int) (w : World) (ha : U32 a) (hn : I64 n) (hb : U32 b) (hm : I64 m) (hc : U32 c) (hk : I64 k) :
    Calls Try.prog 8 #[.agg #[.int .u32 a, .int .i64 n], .agg #[.int .u32 b, .int .i64 m], .agg #[.int .u32 c, .int .i64 k]] w fun e w' => e = .returned (.bool true) ∧ Below w.heap.size w w' := by
  obtain ⟨a0, a1⟩ := ha
  obtain ⟨b0, b1⟩ := hb
  clear hn hm hc hk
  have heq := fun W => ip1.eql_pfx a n b m W
  rcases cmpP_cases a n b m with ⟨x1, x2, rfl, rfl⟩ | ⟨x1, x2, x3, x4⟩ | ⟨x1, x2, x3, x4⟩
  · simp only [BEq.rfl, Bool.and_self] at heq
    have k0 : ∀ W, Calls Try.prog 31 #[.agg #[.int .u32 a, .int .i64 n], .agg #[.int .u32 a, .int .i64 n]] W fun e w' => e = .returned (.int .i64 (0)) ∧ Below W.heap.size W w' := fun W => by have := ip1.cmp_any a n a n W; rw [x1] at this; exact this
    have K0 := Lib.hid k0
    have k1 : ∀ W, Calls Try.prog 31 #[.agg #[.int .u32 a, .int .i64 n], .agg #[.int .u32 a, .int .i64 n]] W fun e w' => e = .returned (.int .i64 (0)) ∧ Below W.heap.size W w' := fun W => by have := ip1.cmp_any a n a n W; rw [x1] at this; exact this
    have K1 := Lib.hid k1
    have kc := fun W => ip1.covers_any a n a n W a0 a1 a0 a1
    cases hcv : coversB a n a n
    all_goals
      rw [hcv] at kc
      have KC := Lib.hid kc
      clear k0 k1 kc x1 x2 a0 a1 b0 b1 hcv
      go_enter Try.func8, Try.ntmps8
      go_wp2_with fail
      refine (aid.keep_first (ip1.cmp_any _ _ _ _ _)).mono ?_
      rintro e _ ⟨rfl, s1, rfl⟩
      rw [show cmpP 0 1 0 2 = -1 by decide]
      have f0 := aid.keep_cell (w0 := ((((w.alloc (.cells #[.int .u32 a, .int .i64 n] 27)).alloc (.cells #[.int .u32 a, .int .i64 n] 27)).alloc (.cells #[.int .u32 c, .int .i64 k] 27)))) (p := ⟨w.heap.size, 0, none⟩) (v := .int .u32 a) (by go_simp)
      have f1 := aid.keep_cell (w0 := ((((w.alloc (.cells #[.int .u32 a, .int .i64 n] 27)).alloc (.cells #[.int .u32 a, .int .i64 n] 27)).alloc (.cells #[.int .u32 c, .int .i64 k] 27)))) (p := ⟨w.heap.size, 1, none⟩) (v := .int .i64 n) (by go_simp)
      have f2 := aid.keep_cell (w0 := ((((w.alloc (.cells #[.int .u32 a, .int .i64 n] 27)).alloc (.cells #[.int .u32 a, .int .i64 n] 27)).alloc (.cells #[.int .u32 c, .int .i64 k] 27)))) (p := ⟨w.heap.size + 1, 0, none⟩) (v := .int .u32 a) (by go_simp)
      have f3 := aid.keep_cell (w0 := ((((w.alloc (.cells #[.int .u32 a, .int .i64 n] 27)).alloc (.cells #[.int .u32 a, .int .i64 n] 27)).alloc (.cells #[.int .u32 c, .int .i64 k] 27)))) (p := ⟨w.heap.size + 1, 1, none⟩) (v := .int .i64 n) (by go_simp)
      have f4 := aid.keep_cell (w0 := ((((w.alloc (.cells #[.int .u32 a, .int .i64 n] 27)).alloc (.cells #[.int .u32 a, .int .i64 n] 27)).alloc (.cells #[.int .u32 c, .int .i64 k] 27)))) (p := ⟨w.heap.size + 1 + 1, 0, none⟩) (v := .int .u32 c) (by go_simp)
      have f5 := aid.keep_cell (w0 := ((((w.alloc (.cells #[.int .u32 a, .int .i64 n] 27)).alloc (.cells #[.int .u32 a, .int .i64 n] 27)).alloc (.cells #[.int .u32 c, .int .i64 k] 27)))) (p := ⟨w.heap.size + 1 + 1, 1, none⟩) (v := .int .i64 k) (by go_simp)
      have hX : Below w.heap.size w ((((w.alloc (.cells #[.int .u32 a, .int .i64 n] 27)).alloc (.cells #[.int .u32 a, .int .i64 n] 27)).alloc (.cells #[.int .u32 c, .int .i64 k] 27))) := by go_grown
      have HX := Lib.hid hX
      clear hX
      go_wp2_with fail
      have g0 := fun s : aid.Keep s1.world => aid.keep_cell (f0 s1) s
      have g1 := fun s : aid.Keep s1.world => aid.keep_cell (f1 s1) s
      have g2 := fun s : aid.Keep s1.world => aid.keep_cell (f2 s1) s
      have g3 := fun s : aid.Keep s1.world => aid.keep_cell (f3 s1) s
      have g4 := fun s : aid.Keep s1.world => aid.keep_cell (f4 s1) s
      have g5 := fun s : aid.Keep s1.world => aid.keep_cell (f5 s1) s
      clear f0 f1 f2 f3 f4 f5
      refine aid.wp_region_keep (by kernel_rfl) (by kernel_rfl) ?_
      repeat (go_big_quiet_step ((go_at_call 31; first | ((with_reducible exact aid.keep_call (K0.out _))) | ((with_reducible exact aid.keep_call (K1.out _))))))
      refine wpQuiet_nil ?_
      rintro _ ⟨s2, rfl⟩
      go_wp2_with fail
      refine (aid.keep_call (K0.out _)).mono ?_
      rintro e _ ⟨rfl, s3, rfl⟩
      go_wp2_with fail
      refine (aid.keep_call (KC.out _)).mono ?_
      rintro e _ ⟨rfl, s4, rfl⟩
      go_wp2_with fail
      go_ret
      exact ⟨rfl, (HX.out.trans (s1.below.mono HX.out.size)).trans (s4.below.mono (Nat.le_trans HX.out.size s1.below.size))⟩
  · have hf : (a == b && n == m) = false := by
      by_cases h1 : a = b <;> by_cases h2 : n = m <;> simp_all
    simp only [hf] at heq
    have k0 : ∀ W, Calls Try.prog 31 #[.agg #[.int .u32 a, .int .i64 n], .agg #[.int .u32 b, .int .i64 m]] W fun e w' => e = .returned (.int .i64 (-1)) ∧ Below W.heap.size W w' := fun W => by have := ip1.cmp_any a n b m W; rw [x1] at this; exact this
    have K0 := Lib.hid k0
    have k1 : ∀ W, Calls Try.prog 31 #[.agg #[.int .u32 b, .int .i64 m], .agg #[.int .u32 a, .int .i64 n]] W fun e w' => e = .returned (.int .i64 (1)) ∧ Below W.heap.size W w' := fun W => by have := ip1.cmp_any b m a n W; rw [x2] at this; exact this
    have K1 := Lib.hid k1
    have kc := fun W => ip1.covers_any a n b m W a0 a1 b0 b1
    have k2 := fun W => ip1.cmp_any b m c k W
    have k3 := fun W => ip1.cmp_any a n c k W
    have h23 : cmpP b m c k = 0 ∨ cmpP b m c k = 1 ∨ (cmpP b m c k = -1 ∧ cmpP a n c k = -1) := by
      rcases cmpP_cases b m c k with h | h | h
      · exact .inl h.1
      · exact .inr (.inr ⟨h.1, cmpP_less (by omega)⟩)
      · exact .inr (.inl h.1)
    rcases h23 with h2 | h2 | ⟨h2, h3⟩
    · rw [h2] at k2
      have K2 := Lib.hid k2
      cases hcv : coversB a n b m
      all_goals
        rw [hcv] at kc
        have KC := Lib.hid kc
        clear k0 k1 k2 k3 kc h2 hf x1 x2 x3 x4 a0 a1 b0 b1 hcv
        go_enter Try.func8, Try.ntmps8
        go_wp2_with fail
        refine (aid.keep_first (ip1.cmp_any _ _ _ _ _)).mono ?_
        rintro e _ ⟨rfl, s1, rfl⟩
        rw [show cmpP 0 1 0 2 = -1 by decide]
        have f0 := aid.keep_cell (w0 := ((((w.alloc (.cells #[.int .u32 a, .int .i64 n] 27)).alloc (.cells #[.int .u32 b, .int .i64 m] 27)).alloc (.cells #[.int .u32 c, .int .i64 k] 27)))) (p := ⟨w.heap.size, 0, none⟩) (v := .int .u32 a) (by go_simp)
        have f1 := aid.keep_cell (w0 := ((((w.alloc (.cells #[.int .u32 a, .int .i64 n] 27)).alloc (.cells #[.int .u32 b, .int .i64 m] 27)).alloc (.cells #[.int .u32 c, .int .i64 k] 27)))) (p := ⟨w.heap.size, 1, none⟩) (v := .int .i64 n) (by go_simp)
        have f2 := aid.keep_cell (w0 := ((((w.alloc (.cells #[.int .u32 a, .int .i64 n] 27)).alloc (.cells #[.int .u32 b, .int .i64 m] 27)).alloc (.cells #[.int .u32 c, .int .i64 k] 27)))) (p := ⟨w.heap.size + 1, 0, none⟩) (v := .int .u32 b) (by go_simp)
        have f3 := aid.keep_cell (w0 := ((((w.alloc (.cells #[.int .u32 a, .int .i64 n] 27)).alloc (.cells #[.int .u32 b, .int .i64 m] 27)).alloc (.cells #[.int .u32 c, .int .i64 k] 27)))) (p := ⟨w.heap.size + 1, 1, none⟩) (v := .int .i64 m) (by go_simp)
        have f4 := aid.keep_cell (w0 := ((((w.alloc (.cells #[.int .u32 a, .int .i64 n] 27)).alloc (.cells #[.int .u32 b, .int .i64 m] 27)).alloc (.cells #[.int .u32 c, .int .i64 k] 27)))) (p := ⟨w.heap.size + 1 + 1, 0, none⟩) (v := .int .u32 c) (by go_simp)
        have f5 := aid.keep_cell (w0 := ((((w.alloc (.cells #[.int .u32 a, .int .i64 n] 27)).alloc (.cells #[.int .u32 b, .int .i64 m] 27)).alloc (.cells #[.int .u32 c, .int .i64 k] 27)))) (p := ⟨w.heap.size + 1 + 1, 1, none⟩) (v := .int .i64 k) (by go_simp)
        have hX : Below w.heap.size w ((((w.alloc (.cells #[.int .u32 a, .int .i64 n] 27)).alloc (.cells #[.int .u32 b, .int .i64 m] 27)).alloc (.cells #[.int .u32 c, .int .i64 k] 27))) := by go_grown
        have HX := Lib.hid hX
        clear hX
        go_wp2_with fail
        have g0 := fun s : aid.Keep s1.world => aid.keep_cell (f0 s1) s
        have g1 := fun s : aid.Keep s1.world => aid.keep_cell (f1 s1) s
        have g2 := fun s : aid.Keep s1.world => aid.keep_cell (f2 s1) s
        have g3 := fun s : aid.Keep s1.world => aid.keep_cell (f3 s1) s
        have g4 := fun s : aid.Keep s1.world => aid.keep_cell (f4 s1) s
        have g5 := fun s : aid.Keep s1.world => aid.keep_cell (f5 s1) s
        clear f0 f1 f2 f3 f4 f5
        refine aid.wp_region_keep (by kernel_rfl) (by kernel_rfl) ?_
        repeat (go_big_quiet_step ((go_at_call 31; first | ((with_reducible exact aid.keep_call (K0.out _))) | ((with_reducible exact aid.keep_call (K1.out _))))))
        refine wpQuiet_nil ?_
        rintro _ ⟨s2, rfl⟩
        go_wp2_with fail
        refine (aid.keep_call (K0.out _)).mono ?_
        rintro e _ ⟨rfl, s3, rfl⟩
        go_wp2_with fail
        refine (aid.keep_call (K2.out _)).mono ?_
        rintro e _ ⟨rfl, s4, rfl⟩
        go_wp2_with fail
        refine (aid.keep_call (KC.out _)).mono ?_
        rintro e _ ⟨rfl, s5, rfl⟩
        go_wp2_with fail
        try (refine (aid.keep_call (K0.out _)).mono ?_; rintro e _ ⟨rfl, s5, rfl⟩; go_wp2_with fail)
        go_ret
        exact ⟨rfl, (HX.out.trans (s1.below.mono HX.out.size)).trans (s5.below.mono (Nat.le_trans HX.out.size s1.below.size))⟩
    · rw [h2] at k2
      have K2 := Lib.hid k2
      cases hcv : coversB a n b m
      all_goals
        rw [hcv] at kc
        have KC := Lib.hid kc
        clear k0 k1 k2 k3 kc h2 hf x1 x2 x3 x4 a0 a1 b0 b1 hcv
        go_enter Try.func8, Try.ntmps8
        go_wp2_with fail
        refine (aid.keep_first (ip1.cmp_any _ _ _ _ _)).mono ?_
        rintro e _ ⟨rfl, s1, rfl⟩
        rw [show cmpP 0 1 0 2 = -1 by decide]
        have f0 := aid.keep_cell (w0 := ((((w.alloc (.cells #[.int .u32 a, .int .i64 n] 27)).alloc (.cells #[.int .u32 b, .int .i64 m] 27)).alloc (.cells #[.int .u32 c, .int .i64 k] 27)))) (p := ⟨w.heap.size, 0, none⟩) (v := .int .u32 a) (by go_simp)
        have f1 := aid.keep_cell (w0 := ((((w.alloc (.cells #[.int .u32 a, .int .i64 n] 27)).alloc (.cells #[.int .u32 b, .int .i64 m] 27)).alloc (.cells #[.int .u32 c, .int .i64 k] 27)))) (p := ⟨w.heap.size, 1, none⟩) (v := .int .i64 n) (by go_simp)
        have f2 := aid.keep_cell (w0 := ((((w.alloc (.cells #[.int .u32 a, .int .i64 n] 27)).alloc (.cells #[.int .u32 b, .int .i64 m] 27)).alloc (.cells #[.int .u32 c, .int .i64 k] 27)))) (p := ⟨w.heap.size + 1, 0, none⟩) (v := .int .u32 b) (by go_simp)
        have f3 := aid.keep_cell (w0 := ((((w.alloc (.cells #[.int .u32 a, .int .i64 n] 27)).alloc (.cells #[.int .u32 b, .int .i64 m] 27)).alloc (.cells #[.int .u32 c, .int .i64 k] 27)))) (p := ⟨w.heap.size + 1, 1, none⟩) (v := .int .i64 m) (by go_simp)
        have f4 := aid.keep_cell (w0 := ((((w.alloc (.cells #[.int .u32 a, .int .i64 n] 27)).alloc (.cells #[.int .u32 b, .int .i64 m] 27)).alloc (.cells #[.int .u32 c, .int .i64 k] 27)))) (p := ⟨w.heap.size + 1 + 1, 0, none⟩) (v := .int .u32 c) (by go_simp)
        have f5 := aid.keep_cell (w0 := ((((w.alloc (.cells #[.int .u32 a, .int .i64 n] 27)).alloc (.cells #[.int .u32 b, .int .i64 m] 27)).alloc (.cells #[.int .u32 c, .int .i64 k] 27)))) (p := ⟨w.heap.size + 1 + 1, 1, none⟩) (v := .int .i64 k) (by go_simp)
        have hX : Below w.heap.size w ((((w.alloc (.cells #[.int .u32 a, .int .i64 n] 27)).alloc (.cells #[.int .u32 b, .int .i64 m] 27)).alloc (.cells #[.int .u32 c, .int .i64 k] 27))) := by go_grown
        have HX := Lib.hid hX
        clear hX
        go_wp2_with fail
        have g0 := fun s : aid.Keep s1.world => aid.keep_cell (f0 s1) s
        have g1 := fun s : aid.Keep s1.world => aid.keep_cell (f1 s1) s
        have g2 := fun s : aid.Keep s1.world => aid.keep_cell (f2 s1) s
        have g3 := fun s : aid.Keep s1.world => aid.keep_cell (f3 s1) s
        have g4 := fun s : aid.Keep s1.world => aid.keep_cell (f4 s1) s
        have g5 := fun s : aid.Keep s1.world => aid.keep_cell (f5 s1) s
        clear f0 f1 f2 f3 f4 f5
        refine aid.wp_region_keep (by kernel_rfl) (by kernel_rfl) ?_
        repeat (go_big_quiet_step ((go_at_call 31; first | ((with_reducible exact aid.keep_call (K0.out _))) | ((with_reducible exact aid.keep_call (K1.out _))))))
        refine wpQuiet_nil ?_
        rintro _ ⟨s2, rfl⟩
        go_wp2_with fail
        refine (aid.keep_call (K0.out _)).mono ?_
        rintro e _ ⟨rfl, s3, rfl⟩
        go_wp2_with fail
        refine (aid.keep_call (K2.out _)).mono ?_
        rintro e _ ⟨rfl, s4, rfl⟩
        go_wp2_with fail
        refine (aid.keep_call (KC.out _)).mono ?_
        rintro e _ ⟨rfl, s5, rfl⟩
        go_wp2_with fail
        try (refine (aid.keep_call (K0.out _)).mono ?_; rintro e _ ⟨rfl, s5, rfl⟩; go_wp2_with fail)
        go_ret
        exact ⟨rfl, (HX.out.trans (s1.below.mono HX.out.size)).trans (s5.below.mono (Nat.le_trans HX.out.size s1.below.size))⟩
    · rw [h2] at k2
      rw [h3] at k3
      have K2 := Lib.hid k2
      have K3 := Lib.hid k3
      cases hcv : coversB a n b m
      all_goals
        rw [hcv] at kc
        have KC := Lib.hid kc
        clear k0 k1 k2 k3 kc h2 h3 hf x1 x2 x3 x4 a0 a1 b0 b1 hcv
        go_enter Try.func8, Try.ntmps8
        go_wp2_with fail
        refine (aid.keep_first (ip1.cmp_any _ _ _ _ _)).mono ?_
        rintro e _ ⟨rfl, s1, rfl⟩
        rw [show cmpP 0 1 0 2 = -1 by decide]
        have f0 := aid.keep_cell (w0 := ((((w.alloc (.cells #[.int .u32 a, .int .i64 n] 27)).alloc (.cells #[.int .u32 b, .int .i64 m] 27)).alloc (.cells #[.int .u32 c, .int .i64 k] 27)))) (p := ⟨w.heap.size, 0, none⟩) (v := .int .u32 a) (by go_simp)
        have f1 := aid.keep_cell (w0 := ((((w.alloc (.cells #[.int .u32 a, .int .i64 n] 27)).alloc (.cells #[.int .u32 b, .int .i64 m] 27)).alloc (.cells #[.int .u32 c, .int .i64 k] 27)))) (p := ⟨w.heap.size, 1, none⟩) (v := .int .i64 n) (by go_simp)
        have f2 := aid.keep_cell (w0 := ((((w.alloc (.cells #[.int .u32 a, .int .i64 n] 27)).alloc (.cells #[.int .u32 b, .int .i64 m] 27)).alloc (.cells #[.int .u32 c, .int .i64 k] 27)))) (p := ⟨w.heap.size + 1, 0, none⟩) (v := .int .u32 b) (by go_simp)
        have f3 := aid.keep_cell (w0 := ((((w.alloc (.cells #[.int .u32 a, .int .i64 n] 27)).alloc (.cells #[.int .u32 b, .int .i64 m] 27)).alloc (.cells #[.int .u32 c, .int .i64 k] 27)))) (p := ⟨w.heap.size + 1, 1, none⟩) (v := .int .i64 m) (by go_simp)
        have f4 := aid.keep_cell (w0 := ((((w.alloc (.cells #[.int .u32 a, .int .i64 n] 27)).alloc (.cells #[.int .u32 b, .int .i64 m] 27)).alloc (.cells #[.int .u32 c, .int .i64 k] 27)))) (p := ⟨w.heap.size + 1 + 1, 0, none⟩) (v := .int .u32 c) (by go_simp)
        have f5 := aid.keep_cell (w0 := ((((w.alloc (.cells #[.int .u32 a, .int .i64 n] 27)).alloc (.cells #[.int .u32 b, .int .i64 m] 27)).alloc (.cells #[.int .u32 c, .int .i64 k] 27)))) (p := ⟨w.heap.size + 1 + 1, 1, none⟩) (v := .int .i64 k) (by go_simp)
        have hX : Below w.heap.size w ((((w.alloc (.cells #[.int .u32 a, .int .i64 n] 27)).alloc (.cells #[.int .u32 b, .int .i64 m] 27)).alloc (.cells #[.int .u32 c, .int .i64 k] 27))) := by go_grown
        have HX := Lib.hid hX
        clear hX
        go_wp2_with fail
        have g0 := fun s : aid.Keep s1.world => aid.keep_cell (f0 s1) s
        have g1 := fun s : aid.Keep s1.world => aid.keep_cell (f1 s1) s
        have g2 := fun s : aid.Keep s1.world => aid.keep_cell (f2 s1) s
        have g3 := fun s : aid.Keep s1.world => aid.keep_cell (f3 s1) s
        have g4 := fun s : aid.Keep s1.world => aid.keep_cell (f4 s1) s
        have g5 := fun s : aid.Keep s1.world => aid.keep_cell (f5 s1) s
        clear f0 f1 f2 f3 f4 f5
        refine aid.wp_region_keep (by kernel_rfl) (by kernel_rfl) ?_
        repeat (go_big_quiet_step ((go_at_call 31; first | ((with_reducible exact aid.keep_call (K0.out _))) | ((with_reducible exact aid.keep_call (K1.out _))))))
        refine wpQuiet_nil ?_
        rintro _ ⟨s2, rfl⟩
        go_wp2_with fail
        refine (aid.keep_call (K0.out _)).mono ?_
        rintro e _ ⟨rfl, s3, rfl⟩
        go_wp2_with fail
        refine (aid.keep_call (K2.out _)).mono ?_
        rintro e _ ⟨rfl, s4, rfl⟩
        go_wp2_with fail
        refine (aid.keep_call (K3.out _)).mono ?_
        rintro e _ ⟨rfl, s4, rfl⟩
        go_wp2_with fail
        refine (aid.keep_call (KC.out _)).mono ?_
        rintro e _ ⟨rfl, s5, rfl⟩
        go_wp2_with fail
        try (refine (aid.keep_call (K0.out _)).mono ?_; rintro e _ ⟨rfl, s5, rfl⟩; go_wp2_with fail)
        go_ret
        exact ⟨rfl, (HX.out.trans (s1.below.mono HX.out.size)).trans (s5.below.mono (Nat.le_trans HX.out.size s1.below.size))⟩
  · have hf : (a == b && n == m) = false := by
      by_cases h1 : a = b <;> by_cases h2 : n = m <;> simp_all
    simp only [hf] at heq
    have k0 : ∀ W, Calls Try.prog 31 #[.agg #[.int .u32 a, .int .i64 n], .agg #[.int .u32 b, .int .i64 m]] W fun e w' => e = .returned (.int .i64 (1)) ∧ Below W.heap.size W w' := fun W => by have := ip1.cmp_any a n b m W; rw [x1] at this; exact this
    have K0 := Lib.hid k0
    have k1 : ∀ W, Calls Try.prog 31 #[.agg #[.int .u32 b, .int .i64 m], .agg #[.int .u32 a, .int .i64 n]] W fun e w' => e = .returned (.int .i64 (-1)) ∧ Below W.heap.size W w' := fun W => by have := ip1.cmp_any b m a n W; rw [x2] at this; exact this
    have K1 := Lib.hid k1
    have hcv : coversB a n b m = false := by
      cases e : coversB a n b m with
      | false => rfl
      | true => have := covers_less b0 b1 e; omega
    have kc : ∀ W, Calls Try.prog 23 #[.agg #[.int .u32 a, .int .i64 n], .agg #[.int .u32 b, .int .i64 m]] W fun e w' => e = .returned (.bool false) ∧ Below W.heap.size W w' := fun W => by have := ip1.covers_any a n b m W a0 a1 b0 b1; rw [hcv] at this; exact this
    have KC := Lib.hid kc
    · clear k0 k1 kc hf x1 x2 x3 x4 a0 a1 b0 b1 hcv
      go_enter Try.func8, Try.ntmps8
      go_wp2_with fail
      refine (aid.keep_first (ip1.cmp_any _ _ _ _ _)).mono ?_
      rintro e _ ⟨rfl, s1, rfl⟩
      rw [show cmpP 0 1 0 2 = -1 by decide]
      have f0 := aid.keep_cell (w0 := ((((w.alloc (.cells #[.int .u32 a, .int .i64 n] 27)).alloc (.cells #[.int .u32 b, .int .i64 m] 27)).alloc (.cells #[.int .u32 c, .int .i64 k] 27)))) (p := ⟨w.heap.size, 0, none⟩) (v := .int .u32 a) (by go_simp)
      have f1 := aid.keep_cell (w0 := ((((w.alloc (.cells #[.int .u32 a, .int .i64 n] 27)).alloc (.cells #[.int .u32 b, .int .i64 m] 27)).alloc (.cells #[.int .u32 c, .int .i64 k] 27)))) (p := ⟨w.heap.size, 1, none⟩) (v := .int .i64 n) (by go_simp)
      have f2 := aid.keep_cell (w0 := ((((w.alloc (.cells #[.int .u32 a, .int .i64 n] 27)).alloc (.cells #[.int .u32 b, .int .i64 m] 27)).alloc (.cells #[.int .u32 c, .int .i64 k] 27)))) (p := ⟨w.heap.size + 1, 0, none⟩) (v := .int .u32 b) (by go_simp)
      have f3 := aid.keep_cell (w0 := ((((w.alloc (.cells #[.int .u32 a, .int .i64 n] 27)).alloc (.cells #[.int .u32 b, .int .i64 m] 27)).alloc (.cells #[.int .u32 c, .int .i64 k] 27)))) (p := ⟨w.heap.size + 1, 1, none⟩) (v := .int .i64 m) (by go_simp)
      have f4 := aid.keep_cell (w0 := ((((w.alloc (.cells #[.int .u32 a, .int .i64 n] 27)).alloc (.cells #[.int .u32 b, .int .i64 m] 27)).alloc (.cells #[.int .u32 c, .int .i64 k] 27)))) (p := ⟨w.heap.size + 1 + 1, 0, none⟩) (v := .int .u32 c) (by go_simp)
      have f5 := aid.keep_cell (w0 := ((((w.alloc (.cells #[.int .u32 a, .int .i64 n] 27)).alloc (.cells #[.int .u32 b, .int .i64 m] 27)).alloc (.cells #[.int .u32 c, .int .i64 k] 27)))) (p := ⟨w.heap.size + 1 + 1, 1, none⟩) (v := .int .i64 k) (by go_simp)
      have hX : Below w.heap.size w ((((w.alloc (.cells #[.int .u32 a, .int .i64 n] 27)).alloc (.cells #[.int .u32 b, .int .i64 m] 27)).alloc (.cells #[.int .u32 c, .int .i64 k] 27))) := by go_grown
      have HX := Lib.hid hX
      clear hX
      go_wp2_with fail
      have g0 := fun s : aid.Keep s1.world => aid.keep_cell (f0 s1) s
      have g1 := fun s : aid.Keep s1.world => aid.keep_cell (f1 s1) s
      have g2 := fun s : aid.Keep s1.world => aid.keep_cell (f2 s1) s
      have g3 := fun s : aid.Keep s1.world => aid.keep_cell (f3 s1) s
      have g4 := fun s : aid.Keep s1.world => aid.keep_cell (f4 s1) s
      have g5 := fun s : aid.Keep s1.world => aid.keep_cell (f5 s1) s
      clear f0 f1 f2 f3 f4 f5
      refine aid.wp_region_keep (by kernel_rfl) (by kernel_rfl) ?_
      repeat (go_big_quiet_step ((go_at_call 31; first | ((with_reducible exact aid.keep_call (K0.out _))) | ((with_reducible exact aid.keep_call (K1.out _))))))
      refine wpQuiet_nil ?_
      rintro _ ⟨s2, rfl⟩
      go_wp2_with fail
      refine (aid.keep_call (K0.out _)).mono ?_
      rintro e _ ⟨rfl, s3, rfl⟩
      go_wp2_with fail
      refine (aid.keep_call (KC.out _)).mono ?_
      rintro e _ ⟨rfl, s4, rfl⟩
      go_wp2_with fail
      go_ret
      exact ⟨rfl, (HX.out.trans (s1.below.mono HX.out.size)).trans (s4.below.mono (Nat.le_trans HX.out.size s1.below.size))⟩

set_option maxRecDepth 100000 in
theorem lifted (os : Os) (started : os.Started) (H : Type) (enc : TypeId × Value → H) :
    ReturnsInHanded {} Try.checked os 8 .any (Rows.ipOrdersSpec.pre6 enc Try.prog Try.f8 Rows.ipOrdersRow.domain false) (Rows.ipOrdersSpec.post enc Try.prog Try.f8 false true false false) := by
  refine returnsInHanded_of_change (C := Try.checked) own started (by kernel_rfl) Try.func8
    (ChangeSpec.witness6 (enc := enc) (C := Try.checked) false ⟨#[], #[.agg #[.int .u32 0, .int .i64 0], .agg #[.int .u32 0, .int .i64 0], .agg #[.int .u32 0, .int .i64 0]], []⟩ 8 (by kernel_rfl) (by kernel_rfl) (by kernel_rfl) (by kernel_rfl)) ?_
  intro W base args ds gs before hval0 hW hcnd _
  have hval : ∀ (j : Nat) t v, Try.f8.params[j]? = some t → args[j]? = some v → Value.okWide Try.prog W .any base t v := hval0
  obtain ⟨p, q, hA0, _⟩ := id hW
  have hA : DataW.TrodAll enc Try.prog W 0 (fun _ => true) true Try.f8.params.toList args.toList ds p := hA0
  rw [Try.params8] at hA hval
  obtain ⟨v0, vs0, d0, ds0, p0, q0, hargs, rfl, rfl, h0, r0⟩ := trodAll_cons hA
  obtain ⟨v1, vs1, d1, ds1, p1, q1, rfl, rfl, rfl, h1, r1⟩ := trodAll_cons r0
  obtain ⟨v2, vs2, d2, ds2, p2, q2, rfl, rfl, rfl, h2, r2⟩ := trodAll_cons r1
  obtain ⟨rfl, rfl, rfl⟩ := trodAll_nil r2
  obtain rfl : args = #[v0, v1, v2] := by cases args; simp_all
  obtain ⟨a, n, rfl, ha, hn⟩ := open_pfx (hval 0 _ v0 rfl rfl) h0
  obtain ⟨b, m, rfl, hb, hm⟩ := open_pfx (hval 1 _ v1 rfl rfl) h1
  obtain ⟨c, k, rfl, hc, hk⟩ := open_pfx (hval 2 _ v2 rfl rfl) h2
  refine (walk a n b m c k W ha hn hb hm hc hk).mono fun e W' ⟨he, hb⟩ => ⟨_, he, ?_⟩
  exact law_post laidOut rfl (by kernel_rfl) Try.underlying4 (by kernel_rfl) (fun ds h => by match ds, h with | [_, _, _], _ => rfl) hW hb

theorem over : Rows.ipOrdersRow.holds Try.pinned (OpenSpec.ofChange Rows.ipOrdersSpec) :=
  OpenClaim.holds_of_wide 8 Try.f8 rfl rfl rfl rfl rfl rfl rfl ⟨rfl, rfl, rfl, rfl, rfl⟩ rfl rfl rfl rfl rfl (by kernel_rfl) Try.func8 (by kernel_rfl)
    (of_decide_eq_true (by kernel_rfl)) (by unfold Func.isWrapper; first | (rw [if_pos (by decide +kernel)]; kernel_rfl) | (rw [if_neg (by decide +kernel)]; exact ⟨rfl, rfl⟩))
    (fun os started H enc _ => lifted os started H enc)

theorem proved : Rows.IpOrdersSaid := over
end Go.Proofs.Ytjpjgehhkjljfaa.lawOrders
