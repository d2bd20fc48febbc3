import Derived.Test.YtjpjgehhkjljfaaRef1
import Derived.Test.YtjpjgehhkjljfaaMath2
import Derived.Deep.QuietTactic
import Derived.BigQuiet
/- More of the reference of layer 1. -/
set_option linter.unusedVariables false
namespace Go.Proofs.Ytjpjgehhkjljfaa.ref1
open Go.RowKit Go.Proofs.Ytjpjgehhkjljfaa.math1

/-- what an owned row of ints holds, cell by cell -/
theorem own_cell {w : World} {base : Nat} {e : TypeId} {g n cap : Nat} {xs : List Value} (h : w.ownsRow base e 1 (.slice (some ⟨g, 0, none⟩) n cap) n xs) (j : Nat) (hj : j < xs.length) : w.cell? ⟨g, j, none⟩ = some (xs.getD j undef) := by
  have := h.cells rfl j (xs.getD j undef) (by rw [List.getD_eq_getElem?_getD, List.getElem?_eq_getElem hj]; rfl)
  by_cases h0 : j = 0
  · subst h0; simpa [Addr.add] using this
  · simpa [Addr.add, h0] using this

/-- THE BITS OF AN ADDRESS, as callers read them -/
theorem bits_at (a : Int) (w : World) (h0 : 0 ≤ a) (h1 : a < 4294967296) : Calls Try.prog 27 #[.int .u32 a] w fun e w' => ∃ g cap : Nat, e = .returned (.slice (some ⟨g, 0, none⟩) 32 cap) ∧ w.heap.size ≤ g ∧ g < w'.heap.size ∧ 32 ≤ cap ∧ cap ≤ maxLen ∧ (∀ j : Nat, j < 32 → w'.cell? ⟨g, j, none⟩ = some (.int .i64 (bitI a j))) ∧ Below w.heap.size w w' := by
  refine (bits_any a w h0 h1).mono ?_
  rintro e w' ⟨⟨g, cap, rfl, hown⟩, hb⟩
  have hl := hown.lt g rfl
  have hc : 32 ≤ cap ∧ cap ≤ maxLen := by
    rcases hown.2 with ⟨h, _⟩ | ⟨g', cap', cur, hv, _, _, h3, h4, _⟩
    · simp at h
    · simp at hv
      obtain ⟨_, rfl⟩ := hv
      exact ⟨h3, h4⟩
  refine ⟨g, cap, rfl, hl.1, hl.2, hc.1, hc.2, fun j hj => ?_, hb⟩
  rw [own_cell hown j (by rw [bl_len]; exact hj)]
  congr 1
  unfold bl
  rw [List.getD_eq_getElem?_getD, List.getElem?_map, List.getElem?_range hj]
  rfl

set_option maxRecDepth 100000 in
theorem num_any (xs : List Int) (g off cap : Nat) (w : World) (hm : xs.length ≤ maxLen) (hc : ∀ j, j < xs.length → w.cell? ⟨g, off + j, none⟩ = some (.int .i64 (xs.getD j 0))) :
    Calls Try.prog 60 #[.slice (some ⟨g, off, none⟩) xs.length cap] w fun e w' => e = .returned (.int .u32 (numL xs)) ∧ w = w' := by
  unfold maxLen at hm
  go_enter Try.func60, Try.ntmps60
  go_wp2_with fail
  go_loop [3, 8] (fun av iv => ∃ k : Nat, k ≤ xs.length ∧ iv = .int .i64 k ∧ av = .int .u32 (numL (xs.take k))) (fun _ i => xs.length - (intOf i).toNat)
  case atStart => exact ⟨0, by omega, rfl, rfl⟩
  case round =>
    obtain ⟨k, hk, rfl, rfl⟩ := hrel
    by_cases hlt : k < xs.length
    · have hcell := hc k hlt
      have hH := Lib.hid hc
      have hsn := Lib.hid (numL_snoc (xs.take k) (xs.getD k 0))
      have hbd : 0 ≤ numL (xs.take k) ∧ numL (xs.take k) < 4294967296 := by
        rcases k with _ | k
        · simp [numL]
        · rw [List.take_succ_eq_append_getElem (by omega), numL_snoc]
          exact numStep_bd _ _
      have hts : xs.take (k + 1) = xs.take k ++ [xs.getD k 0] := by
        rw [List.take_succ_eq_append_getElem hlt, List.getD_eq_getElem?_getD, List.getElem?_eq_getElem hlt]
        rfl
      have hTs := Lib.hid hts
      obtain ⟨q, hq⟩ : ∃ q, q = numL (xs.take k) := ⟨_, rfl⟩
      obtain ⟨x, hx⟩ : ∃ x, x = xs.getD k 0 := ⟨_, rfl⟩
      rw [← hq] at hbd ⊢
      rw [← hx] at hcell
      have hQ := Lib.hid hq
      have hX := Lib.hid hx
      clear hts hq hx hc
      go_wp2_with fail
      go_round
      case rel => 
        refine ⟨k + 1, by omega, by go_num, ?_⟩
        rw [hTs.out, hsn.out, ← hQ.out, ← hX.out]
        rfl
      case measure => simp [intOf]; omega
    · obtain rfl : k = xs.length := by omega
      have hH := Lib.hid hc
      clear hc
      go_wp2_with fail
      go_ret
      exact ⟨rfl, rfl⟩

theorem new_one (w : World) (x : Value) (e : TypeId) : ∀ (j : Nat) (u : Value), [x][j]? = some u → (w.alloc (.cells #[x] e)).cell? ((⟨w.heap.size, 0, none⟩ : Addr).add j) = some u := by
  intro j u h
  rcases j with _ | j
  · simp at h; subst h; simp [Addr.add]
  · simp at h

/-- 1 for each of the first bits, so many -/
def maskV (n : Int) (k : Nat) : List Value := (List.range k).map fun (i : Nat) => .int .i64 (if (i : Int) < n then 1 else 0)
theorem maskV_succ (n : Int) (k : Nat) : maskV n (k + 1) = maskV n k ++ [.int .i64 (if (k : Int) < n then 1 else 0)] := by simp [maskV, List.range_succ]

set_option maxRecDepth 100000 in
theorem mask_any (n : Int) (w : World) : Calls Try.prog 17 #[.int .i64 n] w fun e w' => e = .returned (.int .u32 (maskI n)) ∧ Below w.heap.size w w' := by
  obtain ⟨i0, hi, hz0, hz1, hz2⟩ := info_parts infoInt
  go_enter Try.func17, Try.ntmps17
  go_wp2_with fail
  go_loopw [3, 4] (fun out iv wr => ∃ k g cap : Nat, k ≤ 32 ∧ iv = .int .i64 k ∧ out = .slice (some ⟨g, 0, none⟩) k cap ∧ wr.ownsRow w.heap.size 3 1 (.slice (some ⟨g, 0, none⟩) k cap) k (maskV n k) ∧ Below w.heap.size w wr) (fun _ i _ => 32 - (intOf i).toNat)
  case atStart =>
    refine ⟨0, w.heap.size, 0, by omega, rfl, rfl, ?_, (Below.refl _ _).alloc (Nat.le_refl _) _⟩
    exact own_lit w w.heap.size 3 [] (Nat.le_refl _) (by simp)
  case round =>
    obtain ⟨k, g, cap, hk, rfl, rfl, hown, hb⟩ := hrel
    have hO := Lib.hid hown
    have hB := Lib.hid hb
    have hbs : w.heap.size ≤ wr.heap.size := hb.size
    have hg : g < wr.heap.size := (hown.lt g rfl).2
    have hg0 : w.heap.size ≤ g := (hown.lt g rfl).1
    have hS := Lib.hid (maskV_succ n k)
    clear hown hb
    by_cases hlt : k < 32
    · have m1 := Lib.hid (show k + 1 ≤ maxLen by unfold maxLen; omega)
      have m2 := Lib.hid (show (k + 1) * 8 ≤ 140737488355328 by omega)
      have m3 : ∀ x : Int, w.heap.size ≤ (wr.alloc (.cells #[.int .i64 x] 3)).heap.size := fun x => by simp; omega
      have M3 := Lib.hid m3
      have o1 : ∀ x : Int, ∀ u ∈ [Value.int .i64 x], u.oneCell' = true := fun x u hu => by simp at hu; rw [hu]; rfl
      have O1 := Lib.hid o1
      clear m3 o1
      by_cases hn : (k : Int) < n
      all_goals
        go_wp2_with (at_builtin; first | (refine wpList_append_own _ rfl (.tmp 13) (.tmp 14) 40 rfl w.heap.size 3 i0 (.int .i64 0) 1 8 Try.underlying40 hi hz0 hz1 hz2 rfl (by decide) _ k (maskV n k) rfl (hO.out.alloc _) ⟨wr.heap.size, 0, none⟩ 1 1 [.int .i64 1] rfl rfl (new_one _ _ _) (O1.out 1) m1.out m2.out (M3.out 1) ?_) | (refine wpList_append_own _ rfl (.tmp 16) (.tmp 17) 40 rfl w.heap.size 3 i0 (.int .i64 0) 1 8 Try.underlying40 hi hz0 hz1 hz2 rfl (by decide) _ k (maskV n k) rfl (hO.out.alloc _) ⟨wr.heap.size, 0, none⟩ 1 1 [.int .i64 0] rfl rfl (new_one _ _ _) (O1.out 0) m1.out m2.out (M3.out 0) ?_))
        intro v' w1 hown' hgrow hne
        obtain ⟨g', cap', rfl, hg', hc', hlt'⟩ := own_some hown' (by simpa using hne)
        have hO' := Lib.hid hown'
        have hbel := ((hB.out.alloc hbs _).grown hgrow (by simp; omega) (by intro k hk; simp [Value.ownBlock] at hk; omega))
        have hBel := Lib.hid hbel
        clear hown' hgrow hne hbel hg' hc' hlt'
        have hN := Lib.hid hn
        clear hn
        go_wp2_with fail
        go_roundw
        case rel =>
          refine ⟨k + 1, g', cap', by omega, by go_num, rfl, ?_, hBel.out⟩
          rw [hS.out]
          first | (rw [if_pos hN.out]; exact hO'.out) | (rw [if_neg (by have := hN.out; omega)]; exact hO'.out)
        case measure => simp [intOf]; omega
    · obtain rfl : k = 32 := by omega
      have hv : ∀ j, j < (maskL n).length → wr.cell? ⟨g, 0 + j, none⟩ = some (.int .i64 ((maskL n).getD j 0)) := by
        intro j hj
        have hj2 : j < 32 := by simpa [maskL] using hj
        rw [Nat.zero_add, own_cell hO.out j (by simpa [maskV] using hj2)]
        congr 1
        simp only [maskV, maskL, List.getD_eq_getElem?_getD, List.getElem?_map, List.getElem?_range hj2]
        rfl
      have hN := num_any (maskL n) g 0 cap wr (by simp [maskL, maxLen]) hv
      rw [numL_mask, show (maskL n).length = 32 by simp [maskL]] at hN
      have HN := Lib.hid hN
      clear hN hv
      go_wp2_with fail
      refine HN.out.mono ?_
      rintro e w' ⟨rfl, rfl⟩
      go_wp2_with fail
      go_ret
      exact ⟨rfl, hB.out⟩

theorem right_out (a n : Int) (w : World) (h : n < 0 ∨ 32 < n) : Calls Try.prog 19 #[.int .u32 a, .int .i64 n] w fun e w' => e = .returned (.bool false) ∧ Below w.heap.size w w' := by
  rcases h with h | h
  · go_enter Try.func19, Try.ntmps19
    go_wp2_with fail
    go_ret
    exact ⟨rfl, Below.refl _ _⟩
  · have h' : ¬ n < 0 := by omega
    go_enter Try.func19, Try.ntmps19
    go_wp2_with fail
    go_ret
    exact ⟨rfl, Below.refl _ _⟩

set_option maxRecDepth 100000 in
theorem right_in (a n : Int) (w : World) (h0 : 0 ≤ a) (h1 : a < 4294967296) (h2 : 0 ≤ n) (h3 : n < 32) : Calls Try.prog 19 #[.int .u32 a, .int .i64 n] w fun e w' => e = .returned (.bool (rightB a n)) ∧ Below w.heap.size w w' := by
  obtain ⟨m, rfl⟩ := Int.eq_ofNat_of_zero_le h2
  have hR := Lib.hid (right_bits h0 h2 (by omega : (m : Int) ≤ 32))
  go_enter Try.func19, Try.ntmps19
  go_wp2_with fail
  refine (bits_at _ _ h0 h1).mono ?_
  rintro e w1 ⟨g, cap, rfl, hg0, hg1, hc0, hc1, hcell, hb⟩
  have hC := Lib.hid hcell
  have hB := Lib.hid hb
  unfold maxLen at hc1
  clear hcell hb
  go_wp2_with fail
  go_loop [18] (fun iv => ∃ k : Nat, k ≤ 32 - m ∧ iv = .int .i64 k ∧ ∀ j : Nat, m ≤ j → j < m + k → bitI a j = 0) (fun i => 32 - m - (intOf i).toNat)
  case atStart => exact ⟨0, by omega, rfl, fun j _ _ => by omega⟩
  case round =>
    obtain ⟨k, hk, rfl, hz⟩ := hrel
    have hZ := Lib.hid hz
    clear hz
    by_cases hlt : k < 32 - m
    · have hcell := hC.out (m + k) (by omega)
      by_cases hb : bitI a (m + k) = 0
      · rw [hb] at hcell
        have hb' := Lib.hid hb
        clear hb
        go_wp2_with fail
        go_round
        case rel =>
          refine ⟨k + 1, by omega, by go_num, fun j hj hj2 => ?_⟩
          by_cases e : j = m + k
          · rw [e]; exact hb'.out
          · exact hZ.out j hj (by omega)
        case measure => simp [intOf]; omega
      · have hb1 : bitI a (m + k) = 1 := by have := bitI_01 a (m + k); omega
        rw [hb1] at hcell
        have hf : rightB a (m : Int) = false := by
          cases e : rightB a (m : Int) with
          | false => rfl
          | true => exact (hb (hR.out.1 e (m + k) (by simp) (by omega))).elim
        have hF := Lib.hid hf
        clear hf hb hb1
        go_wp2_with fail
        go_ret
        rw [hF.out]
        exact ⟨rfl, hB.out⟩
    · obtain rfl : k = 32 - m := by omega
      have hf : rightB a (m : Int) = true := hR.out.2 fun j hj hj2 => hZ.out j (by simpa using hj) (by omega)
      have hF := Lib.hid hf
      clear hf
      go_wp2_with fail
      go_ret
      rw [hF.out]
      exact ⟨rfl, hB.out⟩

theorem right_32 (a : Int) (w : World) (h0 : 0 ≤ a) (h1 : a < 4294967296) : Calls Try.prog 19 #[.int .u32 a, .int .i64 32] w fun e w' => e = .returned (.bool true) ∧ Below w.heap.size w w' := by
  go_enter Try.func19, Try.ntmps19
  go_wp2_with fail
  refine (bits_at _ _ h0 h1).mono ?_
  rintro e w1 ⟨g, cap, rfl, hg0, hg1, hc0, hc1, hcell, hb⟩
  have hB := Lib.hid hb
  unfold maxLen at hc1
  clear hcell hb
  by_cases hc : cap = 32
  all_goals
    go_wp2_with fail
    go_rounds 1
    go_ret
    exact ⟨rfl, hB.out⟩

/-- RIGHT: is a prefix in its form? -/
theorem right_any (a n : Int) (w : World) (h0 : 0 ≤ a) (h1 : a < 4294967296) : Calls Try.prog 19 #[.int .u32 a, .int .i64 n] w fun e w' => e = .returned (.bool (rightB a n)) ∧ Below w.heap.size w w' := by
  by_cases h : n < 0 ∨ 32 < n
  · have : rightB a n = false := by
      cases e : rightB a n with
      | false => rfl
      | true => have := rightB_iff.1 e; omega
    rw [this]
    exact right_out a n w h
  · by_cases e : n = 32
    · subst e
      have : rightB a 32 = true := rightB_iff.2 ⟨by omega, by omega, by rw [sz_32]; omega⟩
      rw [this]
      exact right_32 a w h0 h1
    · exact right_in a n w h0 h1 (by omega) (by omega)

set_option maxRecDepth 100000 in
theorem has_in (a n x : Int) (w : World) (h0 : 0 ≤ a) (h1 : a < 4294967296) (h2 : 0 ≤ x) (h3 : x < 4294967296) (hr : rightB a n = true) : Calls Try.prog 20 #[.int .u32 a, .int .i64 n, .int .u32 x] w fun e w' => e = .returned (.bool (hasB a n x)) ∧ Below w.heap.size w w' := by
  have hH := Lib.hid (has_bits h0 h1 h2 h3 hr)
  obtain ⟨hn0, hn1, _⟩ := rightB_iff.1 hr
  have hR := Lib.hid hr
  clear hr
  obtain ⟨m, rfl⟩ := Int.eq_ofNat_of_zero_le hn0
  go_enter Try.func20, Try.ntmps20
  go_wp2_with fail
  refine (right_any _ _ _ h0 h1).mono ?_
  rintro e w0 ⟨rfl, hb0⟩
  rw [hR.out]
  have hB0 := Lib.hid hb0
  clear hb0
  go_wp2_with fail
  refine (bits_at _ _ h0 h1).mono ?_
  rintro e w1 ⟨g, cap, rfl, hg0, hg1, hc0, hc1, hcell, hb⟩
  have hC := Lib.hid hcell
  have hB := Lib.hid (hB0.out.trans (hb.mono hB0.out.size))
  unfold maxLen at hc1
  clear hcell hb
  go_wp2_with fail
  refine (bits_at _ _ h2 h3).mono ?_
  rintro e w2 ⟨g2, cap2, rfl, hg20, hg21, hc20, hc21, hcell2, hb2⟩
  have hC2 := Lib.hid hcell2
  have hC1 : ∀ j : Nat, j < 32 → w2.cell? ⟨g, j, none⟩ = some (.int .i64 (bitI a j)) := fun j hj => (hb2.cell (p := ⟨g, j, none⟩) hg1).trans (hC.out j hj)
  have hC1' := Lib.hid hC1
  have hB2 := Lib.hid (hB.out.trans (hb2.mono hB.out.size))
  unfold maxLen at hc21
  clear hcell2 hb2 hC1
  go_wp2_with fail
  go_loopw [9] (fun iv wr => ∃ (k nd : Nat), k ≤ m ∧ iv = .int .i64 k ∧ wr = w2.drewN nd ∧ ∀ j : Nat, j < k → bitI a j = bitI x j) (fun i _ => m - (intOf i).toNat)
  case atStart => exact ⟨0, 0, by omega, rfl, rfl, fun j _ => by omega⟩
  case round =>
    obtain ⟨k, nd, hk, rfl, rfl, hz⟩ := hrel
    have hZ := Lib.hid hz
    clear hz
    by_cases hlt : k < m
    · have hcell := hC1'.out k (by omega)
      have hcell2 := hC2.out k (by omega)
      have hk32 : (k : Int) < 32 := by omega
      have hk0 : (0 : Int) ≤ (k : Int) := by omega
      by_cases he : bitI a k = bitI x k
      · rw [he] at hcell
        have hE := Lib.hid he
        clear he
        go_wp2_with fail
        go_quiet (fail)
        go_wp2
        go_roundw
        case rel =>
          refine ⟨k + 1, _, by omega, by go_num, rfl, fun j hj => ?_⟩
          by_cases e : j = k
          · rw [e]; exact hE.out
          · exact hZ.out j (by omega)
        case measure => simp [intOf]; omega
      · have hne : (bitI a k == bitI x k) = false := by simpa using he
        have hf : hasB a (m : Int) x = false := by
          cases e : hasB a (m : Int) x with
          | false => rfl
          | true => exact (he (hH.out.1 e k (by simpa using hlt))).elim
        have hF := Lib.hid hf
        clear he hf
        go_wp2_with fail
        go_quiet (fail)
        go_wp2
        go_ret
        rw [hF.out]
        exact ⟨rfl, ⟨hB2.out.os, hB2.out.tape, hB2.out.output, hB2.out.size, hB2.out.block⟩⟩
    · obtain rfl : k = m := by omega
      have hf : hasB a (k : Int) x = true := hH.out.2 fun j hj => hZ.out j (by simpa using hj)
      have hF := Lib.hid hf
      clear hf
      go_wp2_with fail
      go_ret
      rw [hF.out]
      exact ⟨rfl, ⟨hB2.out.os, hB2.out.tape, hB2.out.output, hB2.out.size, hB2.out.block⟩⟩

/-- HAS: does an address lie in a prefix? -/
theorem has_any (a n x : Int) (w : World) (h0 : 0 ≤ a) (h1 : a < 4294967296) (h2 : 0 ≤ x) (h3 : x < 4294967296) : Calls Try.prog 20 #[.int .u32 a, .int .i64 n, .int .u32 x] w fun e w' => e = .returned (.bool (hasB a n x)) ∧ Below w.heap.size w w' := by
  cases hr : rightB a n with
  | true => exact has_in a n x w h0 h1 h2 h3 hr
  | false =>
    have hf : hasB a n x = false := by
      cases e : hasB a n x with
      | false => rfl
      | true => rw [has_right e] at hr; cases hr
    rw [hf]
    have hR := Lib.hid hr
    clear hr hf
    go_enter Try.func20, Try.ntmps20
    go_wp2_with fail
    refine (right_any _ _ _ h0 h1).mono ?_
    rintro e w0 ⟨rfl, hb0⟩
    rw [hR.out]
    have hB0 := Lib.hid hb0
    clear hb0
    go_wp2_with fail
    go_ret
    exact ⟨rfl, hB0.out⟩

/-- COVERS: all of another one? -/
theorem covers_any (a n b m : Int) (w : World) (h0 : 0 ≤ a) (h1 : a < 4294967296) (h2 : 0 ≤ b) (h3 : b < 4294967296) : Calls Try.prog 24 #[.int .u32 a, .int .i64 n, .int .u32 b, .int .i64 m] w fun e w' => e = .returned (.bool (coversB a n b m)) ∧ Below w.heap.size w w' := by
  cases hr : rightB b m
  · have hf : coversB a n b m = false := by simp [coversB, hr]
    rw [hf]
    go_enter Try.func24, Try.ntmps24
    go_wp2_with fail
    refine (right_any _ _ _ h2 h3).mono ?_
    rintro e w0 ⟨rfl, hb0⟩
    have hB0 := Lib.hid hb0
    clear hb0
    rw [hr]
    go_wp2_with fail
    go_ret
    exact ⟨rfl, hB0.out⟩
  · by_cases hnm : n ≤ m
    · have hf : coversB a n b m = hasB a n b := by simp [coversB, hr, hnm]
      rw [hf]
      go_enter Try.func24, Try.ntmps24
      go_wp2_with fail
      refine (right_any _ _ _ h2 h3).mono ?_
      rintro e w0 ⟨rfl, hb0⟩
      have hB0 := Lib.hid hb0
      clear hb0
      rw [hr]
      go_wp2_with fail
      refine (has_any _ _ _ _ h0 h1 h2 h3).mono ?_
      rintro e w1 ⟨rfl, hb1⟩
      have hB1 := Lib.hid hb1
      clear hb1
      go_wp2_with fail
      go_ret
      exact ⟨rfl, hB0.out.trans (hB1.out.mono hB0.out.size)⟩
    · have hf : coversB a n b m = false := by
        have : decide (n ≤ m) = false := by simpa using hnm
        simp [coversB, this]
      rw [hf]
      have hm' : m < n := by omega
      go_enter Try.func24, Try.ntmps24
      go_wp2_with fail
      refine (right_any _ _ _ h2 h3).mono ?_
      rintro e w0 ⟨rfl, hb0⟩
      have hB0 := Lib.hid hb0
      clear hb0
      rw [hr]
      go_wp2_with fail
      go_ret
      exact ⟨rfl, hB0.out⟩
end Go.Proofs.Ytjpjgehhkjljfaa.ref1
