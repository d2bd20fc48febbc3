import Derived.Test.YtbfejmehbbieeaaRef1
import Derived.Test.YtbfejmehbbieeaaMath2
import Derived.Deep.QuietTactic
import Derived.BigQuiet
/- More of the reference of layer 1, as far as the laws of tries ask for it. -/
set_option linter.unusedVariables false
set_option linter.unusedSimpArgs false
namespace Go.Proofs.Ytbfejmehbbieeaa.ref1
open Go.RowKit Go.Proofs.Ytbfejmehbbieeaa.math1

/-- what an owned row of ints holds, cell by cell -/
theorem own_cell {w : World} {base : Nat} {e : TypeId} {g n cap : Nat} {xs : List Value} (h : w.ownsRow base e 1 (.slice (some ⟨g, 0, none⟩) n cap) n xs) (j : Nat) (hj : j < xs.length) : w.cell? ⟨g, j, none⟩ = some (xs.getD j undef) := by
  have := h.cells rfl j (xs.getD j undef) (by rw [List.getD_eq_getElem?_getD, List.getElem?_eq_getElem hj]; rfl)
  by_cases h0 : j = 0
  · subst h0; simpa [Addr.add] using this
  · simpa [Addr.add, h0] using this
/-- THE BITS OF AN ADDRESS, as callers read them -/
theorem bits_at (a : Int) (w : World) (h0 : 0 ≤ a) (h1 : a < 4294967296) : Calls Try.prog 35 #[.int .u32 a] w fun e w' => ∃ g cap : Nat, e = .returned (.slice (some ⟨g, 0, none⟩) 32 cap) ∧ w.heap.size ≤ g ∧ g < w'.heap.size ∧ 32 ≤ cap ∧ cap ≤ maxLen ∧ (∀ j : Nat, j < 32 → w'.cell? ⟨g, j, none⟩ = some (.int .i64 (bitI a j))) ∧ Below w.heap.size w w' := by
  refine (bits_any a w h0 h1).mono ?_
  rintro e w' ⟨⟨g, cap, rfl, hown⟩, hb⟩
  have hl := hown.lt g rfl
  have hc : 32 ≤ cap ∧ cap ≤ maxLen := by
    rcases hown.2 with ⟨h, _⟩ | ⟨g', cap', cur, hv, _, _, h3, h4, _⟩
    · simp at h
    · simp at hv
      obtain ⟨_, rfl⟩ := hv
      exact ⟨h3, h4⟩
  refine ⟨g, cap, rfl, hl.1, hl.2, hc.1, hc.2, fun j hj => ?_, hb⟩
  rw [own_cell hown j (by rw [bl_len]; exact hj)]
  congr 1
  unfold bl
  rw [List.getD_eq_getElem?_getD, List.getElem?_map, List.getElem?_range hj]
  rfl
theorem right_out (a n : Int) (w : World) (h : n < 0 ∨ 32 < n) : Calls Try.prog 11 #[.int .u32 a, .int .i64 n] w fun e w' => e = .returned (.bool false) ∧ Below w.heap.size w w' := by
  rcases h with h | h
  · go_enter Try.func11, Try.ntmps11
    go_wp2_with fail
    go_ret
    exact ⟨rfl, Below.refl _ _⟩
  · have h' : ¬ n < 0 := by omega
    go_enter Try.func11, Try.ntmps11
    go_wp2_with fail
    go_ret
    exact ⟨rfl, Below.refl _ _⟩
set_option maxRecDepth 100000 in
theorem right_in (a n : Int) (w : World) (h0 : 0 ≤ a) (h1 : a < 4294967296) (h2 : 0 ≤ n) (h3 : n < 32) : Calls Try.prog 11 #[.int .u32 a, .int .i64 n] w fun e w' => e = .returned (.bool (rightB a n)) ∧ Below w.heap.size w w' := by
  obtain ⟨m, rfl⟩ := Int.eq_ofNat_of_zero_le h2
  have hR := Lib.hid (right_bits h0 h2 (by omega : (m : Int) ≤ 32))
  go_enter Try.func11, Try.ntmps11
  go_wp2_with fail
  refine (bits_at _ _ h0 h1).mono ?_
  rintro e w1 ⟨g, cap, rfl, hg0, hg1, hc0, hc1, hcell, hb⟩
  have hC := Lib.hid hcell
  have hB := Lib.hid hb
  unfold maxLen at hc1
  clear hcell hb
  go_wp2_with fail
  go_loop [18] (fun iv => ∃ k : Nat, k ≤ 32 - m ∧ iv = .int .i64 k ∧ ∀ j : Nat, m ≤ j → j < m + k → bitI a j = 0) (fun i => 32 - m - (intOf i).toNat)
  case atStart => exact ⟨0, by omega, rfl, fun j _ _ => by omega⟩
  case round =>
    obtain ⟨k, hk, rfl, hz⟩ := hrel
    have hZ := Lib.hid hz
    clear hz
    by_cases hlt : k < 32 - m
    · have hcell := hC.out (m + k) (by omega)
      by_cases hb : bitI a (m + k) = 0
      · rw [hb] at hcell
        have hb' := Lib.hid hb
        clear hb
        go_wp2_with fail
        go_round
        case rel =>
          refine ⟨k + 1, by omega, by go_num, fun j hj hj2 => ?_⟩
          by_cases e : j = m + k
          · rw [e]; exact hb'.out
          · exact hZ.out j hj (by omega)
        case measure => simp [intOf]; omega
      · have hb1 : bitI a (m + k) = 1 := by have := bitI_01 a (m + k); omega
        rw [hb1] at hcell
        have hf : rightB a (m : Int) = false := by
          cases e : rightB a (m : Int) with
          | false => rfl
          | true => exact (hb (hR.out.1 e (m + k) (by simp) (by omega))).elim
        have hF := Lib.hid hf
        clear hf hb hb1
        go_wp2_with fail
        go_ret
        rw [hF.out]
        exact ⟨rfl, hB.out⟩
    · obtain rfl : k = 32 - m := by omega
      have hf : rightB a (m : Int) = true := hR.out.2 fun j hj hj2 => hZ.out j (by simpa using hj) (by omega)
      have hF := Lib.hid hf
      clear hf
      go_wp2_with fail
      go_ret
      rw [hF.out]
      exact ⟨rfl, hB.out⟩
theorem right_32 (a : Int) (w : World) (h0 : 0 ≤ a) (h1 : a < 4294967296) : Calls Try.prog 11 #[.int .u32 a, .int .i64 32] w fun e w' => e = .returned (.bool true) ∧ Below w.heap.size w w' := by
  go_enter Try.func11, Try.ntmps11
  go_wp2_with fail
  refine (bits_at _ _ h0 h1).mono ?_
  rintro e w1 ⟨g, cap, rfl, hg0, hg1, hc0, hc1, hcell, hb⟩
  have hB := Lib.hid hb
  unfold maxLen at hc1
  clear hcell hb
  by_cases hc : cap = 32
  all_goals
    go_wp2_with fail
    go_rounds 1
    go_ret
    exact ⟨rfl, hB.out⟩
/-- RIGHT: is a prefix in its form? -/
theorem right_any (a n : Int) (w : World) (h0 : 0 ≤ a) (h1 : a < 4294967296) : Calls Try.prog 11 #[.int .u32 a, .int .i64 n] w fun e w' => e = .returned (.bool (rightB a n)) ∧ Below w.heap.size w w' := by
  by_cases h : n < 0 ∨ 32 < n
  · have : rightB a n = false := by
      cases e : rightB a n with
      | false => rfl
      | true => have := rightB_iff.1 e; omega
    rw [this]
    exact right_out a n w h
  · by_cases e : n = 32
    · subst e
      have : rightB a 32 = true := rightB_iff.2 ⟨by omega, by omega, by rw [sz_32]; omega⟩
      rw [this]
      exact right_32 a w h0 h1
    · exact right_in a n w h0 h1 (by omega) (by omega)
set_option maxRecDepth 100000 in
theorem has_in (a n x : Int) (w : World) (h0 : 0 ≤ a) (h1 : a < 4294967296) (h2 : 0 ≤ x) (h3 : x < 4294967296) (hr : rightB a n = true) : Calls Try.prog 12 #[.int .u32 a, .int .i64 n, .int .u32 x] w fun e w' => e = .returned (.bool (hasB a n x)) ∧ Below w.heap.size w w' := by
  have hH := Lib.hid (has_bits h0 h1 h2 h3 hr)
  obtain ⟨hn0, hn1, _⟩ := rightB_iff.1 hr
  have hR := Lib.hid hr
  clear hr
  obtain ⟨m, rfl⟩ := Int.eq_ofNat_of_zero_le hn0
  go_enter Try.func12, Try.ntmps12
  go_wp2_with fail
  refine (right_any _ _ _ h0 h1).mono ?_
  rintro e w0 ⟨rfl, hb0⟩
  rw [hR.out]
  have hB0 := Lib.hid hb0
  clear hb0
  go_wp2_with fail
  refine (bits_at _ _ h0 h1).mono ?_
  rintro e w1 ⟨g, cap, rfl, hg0, hg1, hc0, hc1, hcell, hb⟩
  have hC := Lib.hid hcell
  have hB := Lib.hid (hB0.out.trans (hb.mono hB0.out.size))
  unfold maxLen at hc1
  clear hcell hb
  go_wp2_with fail
  refine (bits_at _ _ h2 h3).mono ?_
  rintro e w2 ⟨g2, cap2, rfl, hg20, hg21, hc20, hc21, hcell2, hb2⟩
  have hC2 := Lib.hid hcell2
  have hC1 : ∀ j : Nat, j < 32 → w2.cell? ⟨g, j, none⟩ = some (.int .i64 (bitI a j)) := fun j hj => (hb2.cell (p := ⟨g, j, none⟩) hg1).trans (hC.out j hj)
  have hC1' := Lib.hid hC1
  have hB2 := Lib.hid (hB.out.trans (hb2.mono hB.out.size))
  unfold maxLen at hc21
  clear hcell2 hb2 hC1
  go_wp2_with fail
  go_loopw [9] (fun iv wr => ∃ (k nd : Nat), k ≤ m ∧ iv = .int .i64 k ∧ wr = w2.drewN nd ∧ ∀ j : Nat, j < k → bitI a j = bitI x j) (fun i _ => m - (intOf i).toNat)
  case atStart => exact ⟨0, 0, by omega, rfl, rfl, fun j _ => by omega⟩
  case round =>
    obtain ⟨k, nd, hk, rfl, rfl, hz⟩ := hrel
    have hZ := Lib.hid hz
    clear hz
    by_cases hlt : k < m
    · have hcell := hC1'.out k (by omega)
      have hcell2 := hC2.out k (by omega)
      have hk32 : (k : Int) < 32 := by omega
      have hk0 : (0 : Int) ≤ (k : Int) := by omega
      by_cases he : bitI a k = bitI x k
      · rw [he] at hcell
        have hE := Lib.hid he
        clear he
        go_wp2_with fail
        go_quiet (fail)
        go_wp2
        go_roundw
        case rel =>
          refine ⟨k + 1, _, by omega, by go_num, rfl, fun j hj => ?_⟩
          by_cases e : j = k
          · rw [e]; exact hE.out
          · exact hZ.out j (by omega)
        case measure => simp [intOf]; omega
      · have hne : (bitI a k == bitI x k) = false := by simpa using he
        have hf : hasB a (m : Int) x = false := by
          cases e : hasB a (m : Int) x with
          | false => rfl
          | true => exact (he (hH.out.1 e k (by simpa using hlt))).elim
        have hF := Lib.hid hf
        clear he hf
        go_wp2_with fail
        go_quiet (fail)
        go_wp2
        go_ret
        rw [hF.out]
        exact ⟨rfl, ⟨hB2.out.os, hB2.out.tape, hB2.out.output, hB2.out.size, hB2.out.block⟩⟩
    · obtain rfl : k = m := by omega
      have hf : hasB a (k : Int) x = true := hH.out.2 fun j hj => hZ.out j (by simpa using hj)
      have hF := Lib.hid hf
      clear hf
      go_wp2_with fail
      go_ret
      rw [hF.out]
      exact ⟨rfl, ⟨hB2.out.os, hB2.out.tape, hB2.out.output, hB2.out.size, hB2.out.block⟩⟩
/-- HAS: does an address lie in a prefix? -/
theorem has_any (a n x : Int) (w : World) (h0 : 0 ≤ a) (h1 : a < 4294967296) (h2 : 0 ≤ x) (h3 : x < 4294967296) : Calls Try.prog 12 #[.int .u32 a, .int .i64 n, .int .u32 x] w fun e w' => e = .returned (.bool (hasB a n x)) ∧ Below w.heap.size w w' := by
  cases hr : rightB a n with
  | true => exact has_in a n x w h0 h1 h2 h3 hr
  | false =>
    have hf : hasB a n x = false := by
      cases e : hasB a n x with
      | false => rfl
      | true => rw [has_right e] at hr; cases hr
    rw [hf]
    have hR := Lib.hid hr
    clear hr hf
    go_enter Try.func12, Try.ntmps12
    go_wp2_with fail
    refine (right_any _ _ _ h0 h1).mono ?_
    rintro e w0 ⟨rfl, hb0⟩
    rw [hR.out]
    have hB0 := Lib.hid hb0
    clear hb0
    go_wp2_with fail
    go_ret
    exact ⟨rfl, hB0.out⟩
/-- COVERS: all of another one? -/
theorem covers_any (a n b m : Int) (w : World) (h0 : 0 ≤ a) (h1 : a < 4294967296) (h2 : 0 ≤ b) (h3 : b < 4294967296) : Calls Try.prog 36 #[.int .u32 a, .int .i64 n, .int .u32 b, .int .i64 m] w fun e w' => e = .returned (.bool (coversB a n b m)) ∧ Below w.heap.size w w' := by
  cases hr : rightB b m
  · have hf : coversB a n b m = false := by simp [coversB, hr]
    rw [hf]
    go_enter Try.func36, Try.ntmps36
    go_wp2_with fail
    refine (right_any _ _ _ h2 h3).mono ?_
    rintro e w0 ⟨rfl, hb0⟩
    have hB0 := Lib.hid hb0
    clear hb0
    rw [hr]
    go_wp2_with fail
    go_ret
    exact ⟨rfl, hB0.out⟩
  · by_cases hnm : n ≤ m
    · have hf : coversB a n b m = hasB a n b := by simp [coversB, hr, hnm]
      rw [hf]
      go_enter Try.func36, Try.ntmps36
      go_wp2_with fail
      refine (right_any _ _ _ h2 h3).mono ?_
      rintro e w0 ⟨rfl, hb0⟩
      have hB0 := Lib.hid hb0
      clear hb0
      rw [hr]
      go_wp2_with fail
      refine (has_any _ _ _ _ h0 h1 h2 h3).mono ?_
      rintro e w1 ⟨rfl, hb1⟩
      have hB1 := Lib.hid hb1
      clear hb1
      go_wp2_with fail
      go_ret
      exact ⟨rfl, hB0.out.trans (hB1.out.mono hB0.out.size)⟩
    · have hf : coversB a n b m = false := by
        have : decide (n ≤ m) = false := by simpa using hnm
        simp [coversB, this]
      rw [hf]
      have hm' : m < n := by omega
      go_enter Try.func36, Try.ntmps36
      go_wp2_with fail
      refine (right_any _ _ _ h2 h3).mono ?_
      rintro e w0 ⟨rfl, hb0⟩
      have hB0 := Lib.hid hb0
      clear hb0
      rw [hr]
      go_wp2_with fail
      go_ret
      exact ⟨rfl, hB0.out⟩
end Go.Proofs.Ytbfejmehbbieeaa.ref1
