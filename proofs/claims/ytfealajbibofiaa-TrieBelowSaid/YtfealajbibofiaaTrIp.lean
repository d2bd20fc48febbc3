import Derived.Test.YtfealajbibofiaaIp1
import Derived.Test.YtfealajbibofiaaTrMem
import Derived.RegionTactic
import Derived.ChangeAlike
/- Contracts of package ip's Covers, Half and Bit, as the trie asks for them. -/
set_option linter.unusedVariables false
set_option linter.unusedSimpArgs false
namespace Go.Proofs.Ytfealajbibofiaa.ip1
open Go.RowKit Go.Proofs.Ytfealajbibofiaa.math1 Go.Proofs.Ytfealajbibofiaa.trmath

theorem covers_any (a n b m : Int) (w : World) (h0 : 0 ≤ a) (h1 : a < 4294967296) (h2 : 0 ≤ b) (h3 : b < 4294967296) : Calls Try.prog 30 #[.agg #[.int .u32 a, .int .i64 n], .agg #[.int .u32 b, .int .i64 m]] w fun e w' => e = .returned (.bool (coversB a n b m)) ∧ Below w.heap.size w w' := by
  cases hr : rightB b m
  · have hf : coversB a n b m = false := by simp [coversB, hr]
    rw [hf]
    go_enter Try.func30, Try.ntmps30
    go_wp2_with fail
    refine (check_any _ _ _ h2 h3).mono ?_
    rintro e w1 ⟨rfl, hb⟩
    rw [hr]
    simp only [Bool.false_eq_true, if_false]
    have hB := Lib.hid hb
    clear hb hr hf
    go_wp2_with fail
    go_ret
    refine ⟨rfl, aid.bnext (((Below.refl _ _).alloc (Nat.le_refl _) _).alloc (by simp) _) hB.out (by simp; omega)⟩
  · by_cases hnm : n ≤ m
    · have hf : coversB a n b m = hasB a n b := by simp [coversB, hr, hnm]
      rw [hf]
      go_enter Try.func30, Try.ntmps30
      go_wp2_with fail
      refine (check_any _ _ _ h2 h3).mono ?_
      rintro e w1 ⟨rfl, hb⟩
      rw [hr]
      simp only [if_true]
      obtain ⟨hc3, hf3, hs3⟩ := aid.bcell hb
      have hB := Lib.hid (aid.bnext (((Below.refl w.heap.size w).alloc (Nat.le_refl _) _).alloc (by simp) _) hb (by simp; omega))
      simp at hs3
      clear hb hr hf
      go_wp2_with fail
      refine (has_any _ _ _ _ h0 h1 h2 h3).mono ?_
      rintro e w2 ⟨rfl, hb2⟩
      have hB2 := Lib.hid (aid.bnext hB.out hb2 hB.out.size)
      clear hb2
      go_wp2_with fail
      go_ret
      exact ⟨rfl, hB2.out⟩
    · have hf : coversB a n b m = false := by
        have : decide (n ≤ m) = false := by simpa using hnm
        simp [coversB, this]
      rw [hf]
      have hm' : m < n := by omega
      go_enter Try.func30, Try.ntmps30
      go_wp2_with fail
      refine (check_any _ _ _ h2 h3).mono ?_
      rintro e w1 ⟨rfl, hb⟩
      rw [hr]
      simp only [if_true]
      obtain ⟨hc3, hf3, hs3⟩ := aid.bcell hb
      have hB := Lib.hid (aid.bnext (((Below.refl w.heap.size w).alloc (Nat.le_refl _) _).alloc (by simp) _) hb (by simp; omega))
      simp at hs3
      clear hb hr hf
      go_wp2_with fail
      go_ret
      exact ⟨rfl, hB.out⟩
theorem half_no (a n t : Int) (w : World) (h0 : 0 ≤ a) (h1 : a < 4294967296) (h : rightB a n = false ∨ n = 32) : Calls Try.prog 55 #[.agg #[.int .u32 a, .int .i64 n], .int .i64 t] w fun e w' => e = .returned (.tuple #[.agg #[.int .u32 0, .int .i64 0], .int .i64 1]) ∧ Below w.heap.size w w' := by
  cases hr : rightB a n
  · go_enter Try.func55, Try.ntmps55
    go_wp2_with fail
    refine (check_any _ _ _ h0 h1).mono ?_
    rintro e w1 ⟨rfl, hb⟩
    rw [hr]
    simp only [Bool.false_eq_true, if_false]
    have e0 : w1.cell? ⟨w.heap.size, 0, none⟩ = some (.int .u32 a) := (hb.cell (p := ⟨w.heap.size, 0, none⟩) (by simp; omega)).trans (by go_simp)
    have e1 : w1.cell? ⟨w.heap.size, 1, none⟩ = some (.int .i64 n) := (hb.cell (p := ⟨w.heap.size, 1, none⟩) (by simp; omega)).trans (by go_simp)
    have e2 : w1.cell? ⟨w.heap.size + 1, 0, none⟩ = some (.int .u32 0) := (hb.cell (p := ⟨w.heap.size + 1, 0, none⟩) (by simp)).trans (by go_simp)
    have e3 : w1.cell? ⟨w.heap.size + 1, 1, none⟩ = some (.int .i64 0) := (hb.cell (p := ⟨w.heap.size + 1, 1, none⟩) (by simp)).trans (by go_simp)
    have e4 : w1.frozen? ⟨w.heap.size + 1, 0, none⟩ = false := (hb.frozen (p := ⟨w.heap.size + 1, 0, none⟩) (by simp)).trans (by go_simp)
    have e5 : w1.frozen? ⟨w.heap.size + 1, 1, none⟩ = false := (hb.frozen (p := ⟨w.heap.size + 1, 1, none⟩) (by simp)).trans (by go_simp)
    have hs3 := hb.size
    have hB := Lib.hid (aid.bnext (((Below.refl w.heap.size w).alloc (Nat.le_refl _) _).alloc (by simp) _) hb (by simp; omega))
    simp at hs3
    clear hb
    have hR := Lib.hid hr
    clear hr h
    go_wp2_with fail
    refine bodyPost_ret (v := .tuple #[.agg #[.int .u32 0, .int .i64 0], .int .i64 1]) (by simp [results, Try.results55, go_sem, e2, e3]) rfl ⟨rfl, ?_⟩
    repeat (refine Below.setCell ?_ (by simp) _)
    exact hB.out
  · have e32 : n = 32 := by
      rcases h with h | h
      · rw [hr] at h; cases h
      · exact h
    subst e32
    go_enter Try.func55, Try.ntmps55
    go_wp2_with fail
    refine (check_any _ _ _ h0 h1).mono ?_
    rintro e w1 ⟨rfl, hb⟩
    rw [hr]
    simp only [if_true]
    have e0 : w1.cell? ⟨w.heap.size, 0, none⟩ = some (.int .u32 a) := (hb.cell (p := ⟨w.heap.size, 0, none⟩) (by simp; omega)).trans (by go_simp)
    have e1 : w1.cell? ⟨w.heap.size, 1, none⟩ = some (.int .i64 32) := (hb.cell (p := ⟨w.heap.size, 1, none⟩) (by simp; omega)).trans (by go_simp)
    have e2 : w1.cell? ⟨w.heap.size + 1, 0, none⟩ = some (.int .u32 0) := (hb.cell (p := ⟨w.heap.size + 1, 0, none⟩) (by simp)).trans (by go_simp)
    have e3 : w1.cell? ⟨w.heap.size + 1, 1, none⟩ = some (.int .i64 0) := (hb.cell (p := ⟨w.heap.size + 1, 1, none⟩) (by simp)).trans (by go_simp)
    have e4 : w1.frozen? ⟨w.heap.size + 1, 0, none⟩ = false := (hb.frozen (p := ⟨w.heap.size + 1, 0, none⟩) (by simp)).trans (by go_simp)
    have e5 : w1.frozen? ⟨w.heap.size + 1, 1, none⟩ = false := (hb.frozen (p := ⟨w.heap.size + 1, 1, none⟩) (by simp)).trans (by go_simp)
    have hs3 := hb.size
    have hB := Lib.hid (aid.bnext (((Below.refl w.heap.size w).alloc (Nat.le_refl _) _).alloc (by simp) _) hb (by simp; omega))
    simp at hs3
    clear hb
    have hR := Lib.hid hr
    clear hr h
    go_wp2_with fail
    refine bodyPost_ret (v := .tuple #[.agg #[.int .u32 0, .int .i64 0], .int .i64 1]) (by simp [results, Try.results55, go_sem, e2, e3]) rfl ⟨rfl, ?_⟩
    repeat (refine Below.setCell ?_ (by simp) _)
    exact hB.out
def halfI (a n t : Int) : Int := if t = 0 then a else a + sz (n + 1)
theorem half_yes (a n t : Int) (w : World) (h0 : 0 ≤ a) (h1 : a < 4294967296) (hr : rightB a n = true) (hn : n ≠ 32) : Calls Try.prog 55 #[.agg #[.int .u32 a, .int .i64 n], .int .i64 t] w fun e w' => e = .returned (.tuple #[.agg #[.int .u32 (halfI a n t), .int .i64 (n + 1)], .int .i64 0]) ∧ Below w.heap.size w w' := by
  obtain ⟨hn0, hn1, hz⟩ := rightB_iff.1 hr
  have hn2 : n < 32 := by omega
  have hn32 : (n == 32) = false := by simpa using hn
  have hhb := half_bits a n h0 h1 hn0 hn2 hz
  have hsh := Lib.hid (one_shift n hn0 hn2)
  have hhB := Lib.hid hhb
  have hne := Lib.hid hn
  clear hhb hz hn
  by_cases ht : t = 0
  · subst ht
    go_enter Try.func55, Try.ntmps55
    go_wp2_with fail
    refine (check_any _ _ _ h0 h1).mono ?_
    rintro e w1 ⟨rfl, hb⟩
    rw [hr]
    simp only [if_true]
    have e0 : w1.cell? ⟨w.heap.size, 0, none⟩ = some (.int .u32 a) := (hb.cell (p := ⟨w.heap.size, 0, none⟩) (by simp; omega)).trans (by go_simp)
    have e1 : w1.cell? ⟨w.heap.size, 1, none⟩ = some (.int .i64 n) := (hb.cell (p := ⟨w.heap.size, 1, none⟩) (by simp; omega)).trans (by go_simp)
    have e2 : w1.cell? ⟨w.heap.size + 1, 0, none⟩ = some (.int .u32 0) := (hb.cell (p := ⟨w.heap.size + 1, 0, none⟩) (by simp)).trans (by go_simp)
    have e3 : w1.cell? ⟨w.heap.size + 1, 1, none⟩ = some (.int .i64 0) := (hb.cell (p := ⟨w.heap.size + 1, 1, none⟩) (by simp)).trans (by go_simp)
    have e4 : w1.frozen? ⟨w.heap.size + 1, 0, none⟩ = false := (hb.frozen (p := ⟨w.heap.size + 1, 0, none⟩) (by simp)).trans (by go_simp)
    have e5 : w1.frozen? ⟨w.heap.size + 1, 1, none⟩ = false := (hb.frozen (p := ⟨w.heap.size + 1, 1, none⟩) (by simp)).trans (by go_simp)
    have hs3 := hb.size
    have hB := Lib.hid (aid.bnext (((Below.refl w.heap.size w).alloc (Nat.le_refl _) _).alloc (by simp) _) hb (by simp; omega))
    simp at hs3
    have hz0 : w.heap.size < w1.heap.size := by omega
    have hz1 : w.heap.size + 1 < w1.heap.size := by omega
    clear hb
    have hR := Lib.hid hr
    clear hr
    go_wp2_with fail
    refine bodyPost_ret (v := .tuple #[.agg #[.int .u32 a, .int .i64 (n + 1)], .int .i64 0]) (by simp [results, Try.results55, go_sem, e2, e3, hz1]) rfl ⟨rfl, ?_⟩
    have hBo := hB.out
    go_grown
  · have ht0 : (t == 0) = false := by simpa using ht
    have hT := Lib.hid ht
    clear ht
    go_enter Try.func55, Try.ntmps55
    go_wp2_with fail
    refine (check_any _ _ _ h0 h1).mono ?_
    rintro e w1 ⟨rfl, hb⟩
    rw [hr]
    simp only [if_true]
    have e0 : w1.cell? ⟨w.heap.size, 0, none⟩ = some (.int .u32 a) := (hb.cell (p := ⟨w.heap.size, 0, none⟩) (by simp; omega)).trans (by go_simp)
    have e1 : w1.cell? ⟨w.heap.size, 1, none⟩ = some (.int .i64 n) := (hb.cell (p := ⟨w.heap.size, 1, none⟩) (by simp; omega)).trans (by go_simp)
    have e2 : w1.cell? ⟨w.heap.size + 1, 0, none⟩ = some (.int .u32 0) := (hb.cell (p := ⟨w.heap.size + 1, 0, none⟩) (by simp)).trans (by go_simp)
    have e3 : w1.cell? ⟨w.heap.size + 1, 1, none⟩ = some (.int .i64 0) := (hb.cell (p := ⟨w.heap.size + 1, 1, none⟩) (by simp)).trans (by go_simp)
    have e4 : w1.frozen? ⟨w.heap.size + 1, 0, none⟩ = false := (hb.frozen (p := ⟨w.heap.size + 1, 0, none⟩) (by simp)).trans (by go_simp)
    have e5 : w1.frozen? ⟨w.heap.size + 1, 1, none⟩ = false := (hb.frozen (p := ⟨w.heap.size + 1, 1, none⟩) (by simp)).trans (by go_simp)
    have hs3 := hb.size
    have hB := Lib.hid (aid.bnext (((Below.refl w.heap.size w).alloc (Nat.le_refl _) _).alloc (by simp) _) hb (by simp; omega))
    simp at hs3
    have hz0 : w.heap.size < w1.heap.size := by omega
    have hz1 : w.heap.size + 1 < w1.heap.size := by omega
    clear hb
    have hR := Lib.hid hr
    clear hr
    go_wp2_with fail
    go_region
    rw [hsh.out, hhB.out.1]
    go_wp2_with fail
    refine bodyPost_ret (v := .tuple #[.agg #[.int .u32 (a + sz (n + 1)), .int .i64 (n + 1)], .int .i64 0]) (by simp [results, Try.results55, go_sem, e2, e3, hz1]) rfl ⟨?_, ?_⟩
    · unfold halfI; rw [if_neg hT.out]
    have hBo := hB.out
    go_grown

/-- any bit, as a turn -/
theorem bit_turn (a : Int) (k : Nat) (w : World) (h0 : 0 ≤ a) (h1 : a < 4294967296) : Calls Try.prog 42 #[.int .u32 a, .int .i64 k] w fun e w' => e = .returned (.int .i64 (if turn a k then 1 else 0)) ∧ w = w' := by
  by_cases h : k < 32
  · have h2 := bit_any a k w h0 h1 (by omega) (by omega)
    rw [show (k : Int).toNat = k from rfl] at h2
    have e : (if turn a k then (1 : Int) else 0) = bitI a k := by
      unfold turn
      rw [if_pos h]
      rcases bitI_01 a k with e | e <;> rw [e] <;> rfl
    rw [e]; exact h2
  · have e : (if turn a k then (1 : Int) else 0) = 0 := by unfold turn; rw [if_neg h]; rfl
    rw [e]
    exact bit_out a k w (.inr (by omega))
end Go.Proofs.Ytfealajbibofiaa.ip1
