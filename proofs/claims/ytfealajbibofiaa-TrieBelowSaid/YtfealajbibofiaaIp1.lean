import Derived.Test.YtfealajbibofiaaMath1
import Derived.Outline
import Derived.Handy
import Derived.WalkLawsBesides
import Derived.Deep.QuietTactic
import Derived.BigQuiet
import Derived.Deep.RegionHeld3
import Derived.Lib.Hide
/- Contracts of package ip's small functions. -/
set_option linter.unusedVariables false
namespace Go.Proofs.Ytfealajbibofiaa.ip1
open Go.RowKit Go.Proofs.Ytfealajbibofiaa.math1

theorem clamp_any (n : Int) (w : World) : Calls Try.prog 54 #[.int .i64 n] w fun e w' => e = .returned (.int .i64 (clampI n)) ∧ w = w' := by
  go_enter Try.func54, Try.ntmps54
  go_wp2
  all_goals
    go_ret
    refine ⟨?_, rfl⟩
    have e : ∀ x y : Int, x = y → Ending.returned (.int .i64 x) = .returned (.int .i64 y) := fun _ _ h => by rw [h]
    apply e
    unfold clampI
    omega

theorem mask_any (n : Int) (w : World) : Calls Try.prog 53 #[.int .i64 n] w fun e w' => e = .returned (.int .u32 (maskI n)) ∧ w = w' := by
  have hb := clampI_bd n
  have hm := Lib.hid (mask_shift (clampI n) hb.1 hb.2)
  go_enter Try.func53, Try.ntmps53
  go_wp2_with fail
  refine (clamp_any _ _).mono ?_
  rintro e w' ⟨rfl, rfl⟩
  go_wp2_with fail
  go_ret
  rw [hm.out]
  exact ⟨rfl, rfl⟩

theorem bit_any (a n : Int) (w : World) (h0 : 0 ≤ a) (h1 : a < 4294967296) (h2 : 0 ≤ n) (h3 : n ≤ 31) : Calls Try.prog 42 #[.int .u32 a, .int .i64 n] w fun e w' => e = .returned (.int .i64 (bitI a n.toNat)) ∧ w = w' := by
  have hb : bits .and .u32 (a / 2 ^ (31 - n).toNat) 1 = bitI a n.toNat := by
    have hp : (0 : Int) < 2 ^ (31 - n).toNat := Int.pow_pos (by decide)
    have h5 : 0 ≤ a / 2 ^ (31 - n).toNat := Int.ediv_nonneg h0 (by omega)
    have h6 : a / 2 ^ (31 - n).toNat ≤ a := Int.ediv_le_self _ h0
    rw [and_one _ h5 (by omega)]
    unfold bitI
    rw [show (31 - n).toNat = 31 - n.toNat by omega]
  have hB := Lib.hid hb
  have hw : wrap64 (bitI a n.toNat) = bitI a n.toNat := by
    apply IntWalk.wrap64_in
    unfold bitI; omega
  have hW := Lib.hid hw
  clear hb hw
  go_enter Try.func42, Try.ntmps42
  go_wp2_with fail
  go_ret
  rw [hB.out, hW.out]
  exact ⟨rfl, rfl⟩

theorem bit_out (a n : Int) (w : World) (h : n < 0 ∨ 31 < n) : Calls Try.prog 42 #[.int .u32 a, .int .i64 n] w fun e w' => e = .returned (.int .i64 0) ∧ w = w' := by
  rcases h with h | h
  · go_enter Try.func42, Try.ntmps42
    go_wp2_with fail
    go_ret
    exact ⟨rfl, rfl⟩
  · have h' : ¬ n < 0 := by omega
    go_enter Try.func42, Try.ntmps42
    go_wp2_with fail
    go_ret
    exact ⟨rfl, rfl⟩

theorem of_any (a n : Int) (w : World) (h0 : 0 ≤ a) (h1 : a < 4294967296) : Calls Try.prog 43 #[.int .u32 a, .int .i64 n] w fun e w' => e = .returned (.agg #[.int .u32 (netI a n), .int .i64 (clampI n)]) ∧ Below w.heap.size w w' := by
  have hb := clampI_bd n
  have hm := Lib.hid (show bits .and .u32 a (maskI n) = netI a n from and_mask a (clampI n) h0 h1 hb.1 hb.2)
  go_enter Try.func43, Try.ntmps43
  go_wp2_with fail
  refine (mask_any _ _).mono ?_
  rintro e w' ⟨rfl, rfl⟩
  go_wp2_with fail
  refine (clamp_any _ _).mono ?_
  rintro e w' ⟨rfl, rfl⟩
  go_wp2_with fail
  go_returns
  rw [hm.out]
  exact ⟨rfl, (Below.refl _ _).alloc (Nat.le_refl _) _⟩

/-- two prefixes are one just if both parts are -/
theorem eql_pfx (x m y n : Int) (W : World) : (binOp .eql 30 (.agg #[.int .u32 x, .int .i64 m]) (.agg #[.int .u32 y, .int .i64 n])).run Try.prog W = .ok (.bool (x == y && m == n)) W := by
  rw [run_eql_struct]
  go_simp
  by_cases h1 : x = y
  · by_cases h2 : m = n <;> simp [h1, h2, go_sem]
  · by_cases h2 : m = n <;> simp [h1, h2, go_sem]

theorem neq_pfx (x m y n : Int) (W : World) : (binOp .neq 30 (.agg #[.int .u32 x, .int .i64 m]) (.agg #[.int .u32 y, .int .i64 n])).run Try.prog W = .ok (.bool (!(x == y && m == n))) W := by
  rw [run_neq_struct]
  go_simp
  by_cases h1 : x = y
  · by_cases h2 : m = n <;> simp [h1, h2, go_sem]
  · by_cases h2 : m = n <;> simp [h1, h2, go_sem]

theorem check_any (a n : Int) (w : World) (h0 : 0 ≤ a) (h1 : a < 4294967296) : Calls Try.prog 38 #[.agg #[.int .u32 a, .int .i64 n]] w fun e w' => e = .returned (.int .i64 (if rightB a n then 0 else 1)) ∧ Below w.heap.size w w' := by
  have hne : ∀ W, (binOp .neq 30 (.agg #[.int .u32 (netI a n), .int .i64 (clampI n)]) (.agg #[.int .u32 a, .int .i64 n])).run Try.prog W = .ok (.bool (!rightB a n)) W := fun W => neq_pfx (netI a n) (clampI n) a n W
  cases hr : rightB a n
  all_goals
    simp only [hr, Bool.not_true, Bool.not_false] at hne
    have hr' := Lib.hid hr
    clear hr
    go_enter Try.func38, Try.ntmps38
    go_wp2_with fail
    go_region_held3 (fun W => W.cell? ⟨w.heap.size, 0, none⟩ = some (.int .u32 a) ∧ W.cell? ⟨w.heap.size, 1, none⟩ = some (.int .i64 n)) (first | go_keep | (exact ⟨(hb.cell (p := ⟨w.heap.size, 0, none⟩) (by simp)).trans (by go_simp), (hb.cell (p := ⟨w.heap.size, 1, none⟩) (by simp)).trans (by go_simp)⟩))
      (first | (go_at_call 43; refine (of_any _ _ _ h0 h1).mono ?_; rintro e w1 ⟨rfl, hb⟩))
    go_wp2
    go_ret
    refine ⟨rfl, ?_⟩
    exact (((Below.refl _ _).alloc (Nat.le_refl _) _).drew).trans (hb.mono (by simp))

theorem has_any (a n x : Int) (w : World) (h0 : 0 ≤ a) (h1 : a < 4294967296) (h2 : 0 ≤ x) (h3 : x < 4294967296) : Calls Try.prog 32 #[.agg #[.int .u32 a, .int .i64 n], .int .u32 x] w fun e w' => e = .returned (.bool (hasB a n x)) ∧ Below w.heap.size w w' := by
  have hne : ∀ W, (binOp .eql 30 (.agg #[.int .u32 (netI x n), .int .i64 (clampI n)]) (.agg #[.int .u32 a, .int .i64 n])).run Try.prog W = .ok (.bool (hasB a n x)) W := fun W => eql_pfx (netI x n) (clampI n) a n W
  go_enter Try.func32, Try.ntmps32
  go_wp2_with fail
  go_region_held3 (fun W => W.cell? ⟨w.heap.size, 0, none⟩ = some (.int .u32 a) ∧ W.cell? ⟨w.heap.size, 1, none⟩ = some (.int .i64 n)) (first | go_keep | (exact ⟨(hb.cell (p := ⟨w.heap.size, 0, none⟩) (by simp)).trans (by go_simp), (hb.cell (p := ⟨w.heap.size, 1, none⟩) (by simp)).trans (by go_simp)⟩))
    (first | (go_at_call 43; refine (of_any _ _ _ h2 h3).mono ?_; rintro e w1 ⟨rfl, hb⟩))
  go_wp2
  go_ret
  refine ⟨rfl, ?_⟩
  exact (((Below.refl _ _).alloc (Nat.le_refl _) _).drew).trans (hb.mono (by simp))

end Go.Proofs.Ytfealajbibofiaa.ip1
