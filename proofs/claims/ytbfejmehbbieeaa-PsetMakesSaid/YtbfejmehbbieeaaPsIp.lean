import Derived.Test.YtbfejmehbbieeaaMath2
import Derived.Test.YtbfejmehbbieeaaAid
import Derived.Outline
import Derived.Handy
import Derived.WalkLawsBesides
import Derived.Deep.QuietTactic
import Derived.BigQuiet
import Derived.Deep.RegionHeld3
import Derived.RegionTactic
import Derived.ChangeAlike
import Derived.Lib.Hide
/- Contracts of package ip's small functions, as far as the laws of sets ask for them. -/
set_option linter.unusedVariables false
namespace Go.Proofs.Ytbfejmehbbieeaa.ip1
open Go.RowKit Go.Proofs.Ytbfejmehbbieeaa.math1

theorem clamp_any (n : Int) (w : World) : Calls Try.prog 60 #[.int .i64 n] w fun e w' => e = .returned (.int .i64 (clampI n)) ∧ w = w' := by
  go_enter Try.func60, Try.ntmps60
  go_wp2
  all_goals
    go_ret
    refine ⟨?_, rfl⟩
    have e : ∀ x y : Int, x = y → Ending.returned (.int .i64 x) = .returned (.int .i64 y) := fun _ _ h => by rw [h]
    apply e
    unfold clampI
    omega
theorem mask_any (n : Int) (w : World) : Calls Try.prog 59 #[.int .i64 n] w fun e w' => e = .returned (.int .u32 (maskI n)) ∧ w = w' := by
  have hb := clampI_bd n
  have hm := Lib.hid (mask_shift (clampI n) hb.1 hb.2)
  go_enter Try.func59, Try.ntmps59
  go_wp2_with fail
  refine (clamp_any _ _).mono ?_
  rintro e w' ⟨rfl, rfl⟩
  go_wp2_with fail
  go_ret
  rw [hm.out]
  exact ⟨rfl, rfl⟩
theorem of_any (a n : Int) (w : World) (h0 : 0 ≤ a) (h1 : a < 4294967296) : Calls Try.prog 52 #[.int .u32 a, .int .i64 n] w fun e w' => e = .returned (.agg #[.int .u32 (netI a n), .int .i64 (clampI n)]) ∧ Below w.heap.size w w' := by
  have hb := clampI_bd n
  have hm := Lib.hid (show bits .and .u32 a (maskI n) = netI a n from and_mask a (clampI n) h0 h1 hb.1 hb.2)
  go_enter Try.func52, Try.ntmps52
  go_wp2_with fail
  refine (mask_any _ _).mono ?_
  rintro e w' ⟨rfl, rfl⟩
  go_wp2_with fail
  refine (clamp_any _ _).mono ?_
  rintro e w' ⟨rfl, rfl⟩
  go_wp2_with fail
  go_returns
  rw [hm.out]
  exact ⟨rfl, (Below.refl _ _).alloc (Nat.le_refl _) _⟩
/-- two prefixes are one just if both parts are -/
theorem eql_pfx (x m y n : Int) (W : World) : (binOp .eql 26 (.agg #[.int .u32 x, .int .i64 m]) (.agg #[.int .u32 y, .int .i64 n])).run Try.prog W = .ok (.bool (x == y && m == n)) W := by
  rw [run_eql_struct]
  go_simp
  by_cases h1 : x = y
  · by_cases h2 : m = n <;> simp [h1, h2, go_sem]
  · by_cases h2 : m = n <;> simp [h1, h2, go_sem]
theorem neq_pfx (x m y n : Int) (W : World) : (binOp .neq 26 (.agg #[.int .u32 x, .int .i64 m]) (.agg #[.int .u32 y, .int .i64 n])).run Try.prog W = .ok (.bool (!(x == y && m == n))) W := by
  rw [run_neq_struct]
  go_simp
  by_cases h1 : x = y
  · by_cases h2 : m = n <;> simp [h1, h2, go_sem]
  · by_cases h2 : m = n <;> simp [h1, h2, go_sem]
theorem check_any (a n : Int) (w : World) (h0 : 0 ≤ a) (h1 : a < 4294967296) : Calls Try.prog 31 #[.agg #[.int .u32 a, .int .i64 n]] w fun e w' => e = .returned (.int .i64 (if rightB a n then 0 else 1)) ∧ Below w.heap.size w w' := by
  have hne : ∀ W, (binOp .neq 26 (.agg #[.int .u32 (netI a n), .int .i64 (clampI n)]) (.agg #[.int .u32 a, .int .i64 n])).run Try.prog W = .ok (.bool (!rightB a n)) W := fun W => neq_pfx (netI a n) (clampI n) a n W
  cases hr : rightB a n
  all_goals
    simp only [hr, Bool.not_true, Bool.not_false] at hne
    have hr' := Lib.hid hr
    clear hr
    go_enter Try.func31, Try.ntmps31
    go_wp2_with fail
    go_region_held3 (fun W => W.cell? ⟨w.heap.size, 0, none⟩ = some (.int .u32 a) ∧ W.cell? ⟨w.heap.size, 1, none⟩ = some (.int .i64 n)) (first | go_keep | (exact ⟨(hb.cell (p := ⟨w.heap.size, 0, none⟩) (by simp)).trans (by go_simp), (hb.cell (p := ⟨w.heap.size, 1, none⟩) (by simp)).trans (by go_simp)⟩))
      (first | (go_at_call 52; refine (of_any _ _ _ h0 h1).mono ?_; rintro e w1 ⟨rfl, hb⟩))
    go_wp2
    go_ret
    refine ⟨rfl, ?_⟩
    exact (((Below.refl _ _).alloc (Nat.le_refl _) _).drew).trans (hb.mono (by simp))
theorem has_any (a n x : Int) (w : World) (h0 : 0 ≤ a) (h1 : a < 4294967296) (h2 : 0 ≤ x) (h3 : x < 4294967296) : Calls Try.prog 28 #[.agg #[.int .u32 a, .int .i64 n], .int .u32 x] w fun e w' => e = .returned (.bool (hasB a n x)) ∧ Below w.heap.size w w' := by
  have hne : ∀ W, (binOp .eql 26 (.agg #[.int .u32 (netI x n), .int .i64 (clampI n)]) (.agg #[.int .u32 a, .int .i64 n])).run Try.prog W = .ok (.bool (hasB a n x)) W := fun W => eql_pfx (netI x n) (clampI n) a n W
  go_enter Try.func28, Try.ntmps28
  go_wp2_with fail
  go_region_held3 (fun W => W.cell? ⟨w.heap.size, 0, none⟩ = some (.int .u32 a) ∧ W.cell? ⟨w.heap.size, 1, none⟩ = some (.int .i64 n)) (first | go_keep | (exact ⟨(hb.cell (p := ⟨w.heap.size, 0, none⟩) (by simp)).trans (by go_simp), (hb.cell (p := ⟨w.heap.size, 1, none⟩) (by simp)).trans (by go_simp)⟩))
    (first | (go_at_call 52; refine (of_any _ _ _ h2 h3).mono ?_; rintro e w1 ⟨rfl, hb⟩))
  go_wp2
  go_ret
  refine ⟨rfl, ?_⟩
  exact (((Below.refl _ _).alloc (Nat.le_refl _) _).drew).trans (hb.mono (by simp))
theorem half_no (a n t : Int) (w : World) (h0 : 0 ≤ a) (h1 : a < 4294967296) (h : rightB a n = false ∨ n = 32) : Calls Try.prog 29 #[.agg #[.int .u32 a, .int .i64 n], .int .i64 t] w fun e w' => e = .returned (.tuple #[.agg #[.int .u32 0, .int .i64 0], .int .i64 1]) ∧ Below w.heap.size w w' := by
  cases hr : rightB a n
  · go_enter Try.func29, Try.ntmps29
    go_wp2_with fail
    refine (check_any _ _ _ h0 h1).mono ?_
    rintro e w1 ⟨rfl, hb⟩
    rw [hr]
    simp only [Bool.false_eq_true, if_false]
    have e0 : w1.cell? ⟨w.heap.size, 0, none⟩ = some (.int .u32 a) := (hb.cell (p := ⟨w.heap.size, 0, none⟩) (by simp; omega)).trans (by go_simp)
    have e1 : w1.cell? ⟨w.heap.size, 1, none⟩ = some (.int .i64 n) := (hb.cell (p := ⟨w.heap.size, 1, none⟩) (by simp; omega)).trans (by go_simp)
    have e2 : w1.cell? ⟨w.heap.size + 1, 0, none⟩ = some (.int .u32 0) := (hb.cell (p := ⟨w.heap.size + 1, 0, none⟩) (by simp)).trans (by go_simp)
    have e3 : w1.cell? ⟨w.heap.size + 1, 1, none⟩ = some (.int .i64 0) := (hb.cell (p := ⟨w.heap.size + 1, 1, none⟩) (by simp)).trans (by go_simp)
    have e4 : w1.frozen? ⟨w.heap.size + 1, 0, none⟩ = false := (hb.frozen (p := ⟨w.heap.size + 1, 0, none⟩) (by simp)).trans (by go_simp)
    have e5 : w1.frozen? ⟨w.heap.size + 1, 1, none⟩ = false := (hb.frozen (p := ⟨w.heap.size + 1, 1, none⟩) (by simp)).trans (by go_simp)
    have hs3 := hb.size
    have hB := Lib.hid (aid.bnext (((Below.refl w.heap.size w).alloc (Nat.le_refl _) _).alloc (by simp) _) hb (by simp; omega))
    simp at hs3
    clear hb
    have hR := Lib.hid hr
    clear hr h
    go_wp2_with fail
    refine bodyPost_ret (v := .tuple #[.agg #[.int .u32 0, .int .i64 0], .int .i64 1]) (by simp [results, Try.results29, go_sem, e2, e3]) rfl ⟨rfl, ?_⟩
    repeat (refine Below.setCell ?_ (by simp) _)
    exact hB.out
  · have e32 : n = 32 := by
      rcases h with h | h
      · rw [hr] at h; cases h
      · exact h
    subst e32
    go_enter Try.func29, Try.ntmps29
    go_wp2_with fail
    refine (check_any _ _ _ h0 h1).mono ?_
    rintro e w1 ⟨rfl, hb⟩
    rw [hr]
    simp only [if_true]
    have e0 : w1.cell? ⟨w.heap.size, 0, none⟩ = some (.int .u32 a) := (hb.cell (p := ⟨w.heap.size, 0, none⟩) (by simp; omega)).trans (by go_simp)
    have e1 : w1.cell? ⟨w.heap.size, 1, none⟩ = some (.int .i64 32) := (hb.cell (p := ⟨w.heap.size, 1, none⟩) (by simp; omega)).trans (by go_simp)
    have e2 : w1.cell? ⟨w.heap.size + 1, 0, none⟩ = some (.int .u32 0) := (hb.cell (p := ⟨w.heap.size + 1, 0, none⟩) (by simp)).trans (by go_simp)
    have e3 : w1.cell? ⟨w.heap.size + 1, 1, none⟩ = some (.int .i64 0) := (hb.cell (p := ⟨w.heap.size + 1, 1, none⟩) (by simp)).trans (by go_simp)
    have e4 : w1.frozen? ⟨w.heap.size + 1, 0, none⟩ = false := (hb.frozen (p := ⟨w.heap.size + 1, 0, none⟩) (by simp)).trans (by go_simp)
    have e5 : w1.frozen? ⟨w.heap.size + 1, 1, none⟩ = false := (hb.frozen (p := ⟨w.heap.size + 1, 1, none⟩) (by simp)).trans (by go_simp)
    have hs3 := hb.size
    have hB := Lib.hid (aid.bnext (((Below.refl w.heap.size w).alloc (Nat.le_refl _) _).alloc (by simp) _) hb (by simp; omega))
    simp at hs3
    clear hb
    have hR := Lib.hid hr
    clear hr h
    go_wp2_with fail
    refine bodyPost_ret (v := .tuple #[.agg #[.int .u32 0, .int .i64 0], .int .i64 1]) (by simp [results, Try.results29, go_sem, e2, e3]) rfl ⟨rfl, ?_⟩
    repeat (refine Below.setCell ?_ (by simp) _)
    exact hB.out
def halfI (a n t : Int) : Int := if t = 0 then a else a + sz (n + 1)
theorem half_yes (a n t : Int) (w : World) (h0 : 0 ≤ a) (h1 : a < 4294967296) (hr : rightB a n = true) (hn : n ≠ 32) : Calls Try.prog 29 #[.agg #[.int .u32 a, .int .i64 n], .int .i64 t] w fun e w' => e = .returned (.tuple #[.agg #[.int .u32 (halfI a n t), .int .i64 (n + 1)], .int .i64 0]) ∧ Below w.heap.size w w' := by
  obtain ⟨hn0, hn1, hz⟩ := rightB_iff.1 hr
  have hn2 : n < 32 := by omega
  have hn32 : (n == 32) = false := by simpa using hn
  have hhb := half_bits a n h0 h1 hn0 hn2 hz
  have hsh := Lib.hid (one_shift n hn0 hn2)
  have hhB := Lib.hid hhb
  have hne := Lib.hid hn
  clear hhb hz hn
  by_cases ht : t = 0
  · subst ht
    go_enter Try.func29, Try.ntmps29
    go_wp2_with fail
    refine (check_any _ _ _ h0 h1).mono ?_
    rintro e w1 ⟨rfl, hb⟩
    rw [hr]
    simp only [if_true]
    have e0 : w1.cell? ⟨w.heap.size, 0, none⟩ = some (.int .u32 a) := (hb.cell (p := ⟨w.heap.size, 0, none⟩) (by simp; omega)).trans (by go_simp)
    have e1 : w1.cell? ⟨w.heap.size, 1, none⟩ = some (.int .i64 n) := (hb.cell (p := ⟨w.heap.size, 1, none⟩) (by simp; omega)).trans (by go_simp)
    have e2 : w1.cell? ⟨w.heap.size + 1, 0, none⟩ = some (.int .u32 0) := (hb.cell (p := ⟨w.heap.size + 1, 0, none⟩) (by simp)).trans (by go_simp)
    have e3 : w1.cell? ⟨w.heap.size + 1, 1, none⟩ = some (.int .i64 0) := (hb.cell (p := ⟨w.heap.size + 1, 1, none⟩) (by simp)).trans (by go_simp)
    have e4 : w1.frozen? ⟨w.heap.size + 1, 0, none⟩ = false := (hb.frozen (p := ⟨w.heap.size + 1, 0, none⟩) (by simp)).trans (by go_simp)
    have e5 : w1.frozen? ⟨w.heap.size + 1, 1, none⟩ = false := (hb.frozen (p := ⟨w.heap.size + 1, 1, none⟩) (by simp)).trans (by go_simp)
    have hs3 := hb.size
    have hB := Lib.hid (aid.bnext (((Below.refl w.heap.size w).alloc (Nat.le_refl _) _).alloc (by simp) _) hb (by simp; omega))
    simp at hs3
    have hz0 : w.heap.size < w1.heap.size := by omega
    have hz1 : w.heap.size + 1 < w1.heap.size := by omega
    clear hb
    have hR := Lib.hid hr
    clear hr
    go_wp2_with fail
    refine bodyPost_ret (v := .tuple #[.agg #[.int .u32 a, .int .i64 (n + 1)], .int .i64 0]) (by simp [results, Try.results29, go_sem, e2, e3, hz1]) rfl ⟨rfl, ?_⟩
    have hBo := hB.out
    go_grown
  · have ht0 : (t == 0) = false := by simpa using ht
    have hT := Lib.hid ht
    clear ht
    go_enter Try.func29, Try.ntmps29
    go_wp2_with fail
    refine (check_any _ _ _ h0 h1).mono ?_
    rintro e w1 ⟨rfl, hb⟩
    rw [hr]
    simp only [if_true]
    have e0 : w1.cell? ⟨w.heap.size, 0, none⟩ = some (.int .u32 a) := (hb.cell (p := ⟨w.heap.size, 0, none⟩) (by simp; omega)).trans (by go_simp)
    have e1 : w1.cell? ⟨w.heap.size, 1, none⟩ = some (.int .i64 n) := (hb.cell (p := ⟨w.heap.size, 1, none⟩) (by simp; omega)).trans (by go_simp)
    have e2 : w1.cell? ⟨w.heap.size + 1, 0, none⟩ = some (.int .u32 0) := (hb.cell (p := ⟨w.heap.size + 1, 0, none⟩) (by simp)).trans (by go_simp)
    have e3 : w1.cell? ⟨w.heap.size + 1, 1, none⟩ = some (.int .i64 0) := (hb.cell (p := ⟨w.heap.size + 1, 1, none⟩) (by simp)).trans (by go_simp)
    have e4 : w1.frozen? ⟨w.heap.size + 1, 0, none⟩ = false := (hb.frozen (p := ⟨w.heap.size + 1, 0, none⟩) (by simp)).trans (by go_simp)
    have e5 : w1.frozen? ⟨w.heap.size + 1, 1, none⟩ = false := (hb.frozen (p := ⟨w.heap.size + 1, 1, none⟩) (by simp)).trans (by go_simp)
    have hs3 := hb.size
    have hB := Lib.hid (aid.bnext (((Below.refl w.heap.size w).alloc (Nat.le_refl _) _).alloc (by simp) _) hb (by simp; omega))
    simp at hs3
    have hz0 : w.heap.size < w1.heap.size := by omega
    have hz1 : w.heap.size + 1 < w1.heap.size := by omega
    clear hb
    have hR := Lib.hid hr
    clear hr
    go_wp2_with fail
    go_region
    rw [hsh.out, hhB.out.1]
    go_wp2_with fail
    refine bodyPost_ret (v := .tuple #[.agg #[.int .u32 (a + sz (n + 1)), .int .i64 (n + 1)], .int .i64 0]) (by simp [results, Try.results29, go_sem, e2, e3, hz1]) rfl ⟨?_, ?_⟩
    · unfold halfI; rw [if_neg hT.out]
    have hBo := hB.out
    go_grown
end Go.Proofs.Ytbfejmehbbieeaa.ip1
