import Derived.Test.YtedlclgimeafeaaDoorHMath
import Derived.Laws.Bits64b
import Derived.ChangeKeysEq
import Derived.Outline
import Derived.Handy
import Derived.WalkLawsBesides
import Derived.Below
import Derived.Lib.Hide
/- Contracts of head.Num and head.Of: addresses as numbers. -/
set_option linter.unusedVariables false
set_option linter.unusedSimpArgs false
namespace Go.Proofs.YtedlclgimeafeaaDoor.hmac
open Go.RowKit Go.Proofs.YtedlclgimeafeaaDoor.hmath

theorem or_nat (X A : Nat) (h : X < 72057594037927936) (ha : A < 256) : bits .or .u64 ((X : Int) * 256) (A : Int) = (X : Int) * 256 + (A : Int) := by
  have e : ((X : Int) * 256) = ((X * 256 : Nat) : Int) := by simp
  rw [e, bits_or_u64_nat _ _ (by omega) (by omega)]
  have := Nat.shiftLeft_add_eq_or_of_lt (i := 8) (b := A) (by omega) X
  rw [Nat.shiftLeft_eq] at this
  rw [show (2 : Nat) ^ 8 = 256 by decide] at this
  rw [← this]
  simp
theorem or_byte {x a : Int} (h0 : 0 ≤ x) (h1 : x < 72057594037927936) (a0 : 0 ≤ a) (a1 : a < 256) : bits .or .u64 (IntKind.u64.wrap (x * 256)) a = x * 256 + a := by
  obtain ⟨X, rfl⟩ := Int.eq_ofNat_of_zero_le h0
  obtain ⟨A, rfl⟩ := Int.eq_ofNat_of_zero_le a0
  rw [IntKind.wrap_u64, Int.emod_eq_of_lt (by omega) (by omega)]
  exact or_nat X A (by omega) (by omega)
theorem zero_or (a : Int) (a0 : 0 ≤ a) (a1 : a < 256) : bits .or .u64 0 a = a := by
  have h := or_byte (x := 0) (by decide) (by decide) a0 a1
  rw [show IntKind.u64.wrap (0 * 256) = 0 by decide, Int.zero_mul, Int.zero_add] at h
  exact h

set_option maxRecDepth 100000 in
set_option maxHeartbeats 1000000 in
theorem num_any (m : Mac) (k : m.ok) (w : World) : Calls Tryd.prog 17 #[m.val] w fun e w' => e = .returned (.int .u64 (macI m)) ∧ Below w.heap.size w w' := by
  obtain ⟨a0, a1, a2, a3, a4, a5⟩ := m
  obtain ⟨⟨p0, q0⟩, ⟨p1, q1⟩, ⟨p2, q2⟩, ⟨p3, q3⟩, ⟨p4, q4⟩, ⟨p5, q5⟩⟩ := k
  dsimp only at *
  simp only [Mac.val]
  have i0 : ∀ w, (Instr.index 29 (.agg #[.int .u8 a0, .int .u8 a1, .int .u8 a2, .int .u8 a3, .int .u8 a4, .int .u8 a5]) (.int .i64 0)).run Tryd.prog w = .ok (.int .u8 a0) w := fun _ => by kernel_rfl
  have i1 : ∀ w, (Instr.index 29 (.agg #[.int .u8 a0, .int .u8 a1, .int .u8 a2, .int .u8 a3, .int .u8 a4, .int .u8 a5]) (.int .i64 1)).run Tryd.prog w = .ok (.int .u8 a1) w := fun _ => by kernel_rfl
  have i2 : ∀ w, (Instr.index 29 (.agg #[.int .u8 a0, .int .u8 a1, .int .u8 a2, .int .u8 a3, .int .u8 a4, .int .u8 a5]) (.int .i64 2)).run Tryd.prog w = .ok (.int .u8 a2) w := fun _ => by kernel_rfl
  have i3 : ∀ w, (Instr.index 29 (.agg #[.int .u8 a0, .int .u8 a1, .int .u8 a2, .int .u8 a3, .int .u8 a4, .int .u8 a5]) (.int .i64 3)).run Tryd.prog w = .ok (.int .u8 a3) w := fun _ => by kernel_rfl
  have i4 : ∀ w, (Instr.index 29 (.agg #[.int .u8 a0, .int .u8 a1, .int .u8 a2, .int .u8 a3, .int .u8 a4, .int .u8 a5]) (.int .i64 4)).run Tryd.prog w = .ok (.int .u8 a4) w := fun _ => by kernel_rfl
  have i5 : ∀ w, (Instr.index 29 (.agg #[.int .u8 a0, .int .u8 a1, .int .u8 a2, .int .u8 a3, .int .u8 a4, .int .u8 a5]) (.int .i64 5)).run Tryd.prog w = .ok (.int .u8 a5) w := fun _ => by kernel_rfl
  go_enter Tryd.func17, Tryd.ntmps17
  go_wp2_with fail
  go_rounds 7
  go_ret
  rw [zero_or _ p0 q0, or_byte p0 (by omega) p1 q1, or_byte (by omega) (by omega) p2 q2, or_byte (by omega) (by omega) p3 q3, or_byte (by omega) (by omega) p4 q4, or_byte (by omega) (by omega) p5 q5]
  exact ⟨rfl, (Below.refl _ _).alloc (Nat.le_refl _) _⟩

set_option maxRecDepth 100000 in
set_option maxHeartbeats 1000000 in
theorem of_any (n : Int) (h0 : 0 ≤ n) (h1 : n < 18446744073709551616) (w : World) : Calls Tryd.prog 18 #[.int .u64 n] w fun e w' => e = .returned (ofI n).val ∧ Below w.heap.size w w' := by
  go_enter Tryd.func18, Tryd.ntmps18
  go_wp2_with fail
  go_rounds 7
  exact bodyPost_ret (v := (ofI n).val) (by simp [results, Tryd.results18, go_sem, Mac.val, ofI]) rfl ⟨rfl, ((Below.refl _ _).alloc (Nat.le_refl _) _).alloc (by simp) _⟩

theorem infoByte : (Tryd.prog.info? 5).isSome = true := by kernel_rfl
theorem cellsByte : Tryd.prog.cellsOf 5 = 1 := by kernel_rfl
set_option maxRecDepth 100000 in
theorem in_mac (d : Nat) (a0 a1 a2 a3 a4 a5 : Int) (W : World) : (Op.equalIn (d + 2) 29 (.agg #[.int .u8 a0, .int .u8 a1, .int .u8 a2, .int .u8 a3, .int .u8 a4, .int .u8 a5]) (.agg #[.int .u8 a0, .int .u8 a1, .int .u8 a2, .int .u8 a3, .int .u8 a4, .int .u8 a5])).run Tryd.prog W = .ok true W := by
  obtain ⟨i, hi⟩ := Option.isSome_iff_exists.1 infoByte
  rw [run_equalIn_array W (d + 1) _ _ Tryd.underlying29 hi, cellsByte]
  rw [show List.range 6 = [0, 1, 2, 3, 4, 5] by decide]
  simp [Op.eqItems, part, isAgg, run_underlying Tryd.underlying5, run_equalIn_int _ _ _ _ _ _ _ Tryd.underlying5]
theorem eql_mac (a0 a1 a2 a3 a4 a5 : Int) (W : World) : (binOp .eql 29 (.agg #[.int .u8 a0, .int .u8 a1, .int .u8 a2, .int .u8 a3, .int .u8 a4, .int .u8 a5]) (.agg #[.int .u8 a0, .int .u8 a1, .int .u8 a2, .int .u8 a3, .int .u8 a4, .int .u8 a5])).run Tryd.prog W = .ok (.bool true) W := by
  rw [run_eql_struct, in_mac 9998]
  rfl
theorem neq_mac (a0 a1 a2 a3 a4 a5 : Int) (W : World) : (binOp .neq 29 (.agg #[.int .u8 a0, .int .u8 a1, .int .u8 a2, .int .u8 a3, .int .u8 a4, .int .u8 a5]) (.agg #[.int .u8 a0, .int .u8 a1, .int .u8 a2, .int .u8 a3, .int .u8 a4, .int .u8 a5])).run Tryd.prog W = .ok (.bool false) W := by
  rw [run_neq_struct, in_mac 9998]
  rfl
end Go.Proofs.YtedlclgimeafeaaDoor.hmac
