/- ClockLate: for any three ints and any bool the law answers true: a name that is set anew is due at the new time alone; one that is stopped at none. No condition. -/
import Derived.Test.YthcbhehdilaejaaCkHead
import Derived.Test.YthcbhehdilaejaaFrame
import Derived.Shelf.Abstract
set_option linter.unusedVariables false
set_option linter.unusedSimpArgs false
namespace Go.Proofs.Ythcbhehdilaejaa.lawClockLate
open Go.ChangeShapes Go.WideShapes Go.ChangeAt Go.RowKit Go.Lib Go.Shelf Go.Proofs.Ythcbhehdilaejaa.frame Go.Proofs.Ythcbhehdilaejaa.ckmath Go.Proofs.Ythcbhehdilaejaa.ck

theorem and_low (n : Int) (k : Nat) (hk : k ≤ 20) : bits .and .i64 n ((2 ^ k - 1 : Nat) : Int) = n % ((2 ^ k : Nat) : Int) := by
  have h2 : 2 ^ k ≤ 2 ^ 20 := Nat.pow_le_pow_right (by omega) hk
  have h1 : 0 < 2 ^ k := Nat.two_pow_pos k
  have h127 : (BitVec.ofInt 64 ((2 ^ k - 1 : Nat) : Int)).toNat = 2 ^ k - 1 := by
    rw [BitVec.toNat_ofInt]; omega
  have key : (BitVec.ofInt 64 n &&& BitVec.ofInt 64 ((2 ^ k - 1 : Nat) : Int)).toNat = (n % ((2 ^ 64 : Nat) : Int)).toNat % 2 ^ k := by
    rw [BitVec.toNat_and, BitVec.toNat_ofInt, h127, Nat.and_two_pow_sub_one_eq_mod]
  show IntKind.i64.wrap ((BitVec.ofInt 64 n &&& BitVec.ofInt 64 ((2 ^ k - 1 : Nat) : Int)).toNat : Nat) = n % ((2 ^ k : Nat) : Int)
  rw [key, IntKind.wrap_i64]
  have hd : ((2 ^ k : Nat) : Int) ∣ ((2 ^ 64 : Nat) : Int) := Int.natCast_dvd_natCast.2 (Nat.pow_dvd_pow 2 (by omega))
  have e : (((n % ((2 ^ 64 : Nat) : Int)).toNat % 2 ^ k : Nat) : Int) = n % ((2 ^ k : Nat) : Int) := by
    rw [Int.natCast_emod, Int.toNat_of_nonneg (Int.emod_nonneg _ (by decide)), Int.emod_emod_of_dvd _ hd]
  have l0 := Int.emod_nonneg n (show ((2 ^ k : Nat) : Int) ≠ 0 by omega)
  have l1 := Int.emod_lt_of_pos n (show 0 < ((2 ^ k : Nat) : Int) by omega)
  rw [e]
  have h20 : (2 : Nat) ^ 20 = 1048576 := by decide
  omega
theorem and_255 (n : Int) : bits .and .i64 n 255 = n % 256 := and_low n 8 (by decide)
theorem and_511 (n : Int) : bits .and .i64 n 511 = n % 512 := and_low n 9 (by decide)

section
variable {P : Program} {w : World} {base : Nat} {spare : Nat → Bool} {held : Bool} {H : Type} {enc : TypeId × Value → H}
theorem open_bool1 {r : Reach} {b0 : Nat} {t : TypeId} {v : Value} {d : DataW H} {ps : List MemPlace} (ht : P.underlying t = some .bool) (hval : Value.okWide P w r b0 t v) (hd : DataW.Trod enc P w base spare held t v d ps) : ∃ b, v = .bool b ∧ True := by
  obtain ⟨b, e, _⟩ := open_bool ht hval hd
  exact ⟨b, e, trivial⟩
end

set_option maxRecDepth 100000 in
set_option maxHeartbeats 2000000 in
theorem walk (a b u : Int) (st : Bool) (w : World) (ha : I64 a) (hb : I64 b) (hu : I64 u) (hst : True) : Calls Try.prog 6 #[.int .i64 a, .int .i64 b, .int .i64 u, .bool st] w fun e w' => e = .returned (.bool true) ∧ Below w.heap.size w w' := by
  have e1 := and_255 a
  have e2 := and_255 b
  have e3 := and_511 u
  obtain ⟨A, hA⟩ : ∃ A, A = a % 256 := ⟨_, rfl⟩
  obtain ⟨Z, hZ⟩ : ∃ Z, Z = b % 256 := ⟨_, rfl⟩
  obtain ⟨U, hU⟩ : ∃ U, U = u % 512 := ⟨_, rfl⟩
  have a0 : 0 ≤ A ∧ A < 256 := by omega
  have z0 : 0 ≤ Z ∧ Z < 256 := by omega
  have u0 : 0 ≤ U ∧ U < 512 := by omega
  rw [← hA] at e1
  rw [← hZ] at e2
  rw [← hU] at e3
  have KH := Lib.hid (head_true w)
  clear hA hZ hU ha hb hu hst
  go_enter Try.func6, Try.ntmps6
  go_wp2_with fail
  refine KH.out.mono ?_
  rintro e w1 ⟨rfl, b1⟩
  have B1 := Lib.hid b1
  have K0 := Lib.hid (new_any w1.heap.size w1 (Nat.le_refl _))
  clear b1 KH
  go_wp2_with fail
  refine K0.out.mono ?_
  rintro e w2 ⟨rfl, c2, b2⟩
  have B2 := Lib.hid (aid.kb b2 B1.out)
  have S2 := Lib.hid b2.size
  have C2 := Lib.hid c2
  have K1 := Lib.hid (set_new c2 (name := 1) (fun x hx => by cases hx) (by decide) A a0.1 (by omega))
  clear b2 c2 K0
  go_wp2_with fail
  refine K1.out.mono ?_
  rintro e w3 ⟨rfl, v3, c3, t3⟩
  have T3 := Lib.hid t3
  have K2 := Lib.hid (set_old (a := A) (name := 1) (M := []) c3 Z z0.1 (by omega))
  clear t3 c3 K1
  go_wp2_with fail
  refine K2.out.mono ?_
  rintro e w4 ⟨rfl, c4, t4⟩
  have T4 := Lib.hid (T3.out.trans t4)
  have C4 := Lib.hid c4
  have K3 := Lib.hid (clen_any c4 1 rfl)
  clear t4 c4 K2 T3
  go_wp2_with fail
  refine K3.out.mono ?_
  rintro e w5 ⟨rfl, rfl⟩
  clear K3
  have FIN : Hid (∀ W v', Tr w2 w1.heap.size (.slice none 0 0) W v' → Below w.heap.size w W) := Lib.hid fun W v' t => B2.out.trans ((ck_below t C2.out S2.out).mono B1.out.size)
  cases st with
  | true =>
    have K4 := Lib.hid (stop_yes (a := Z) (name := 1) (M := []) C4.out)
    go_wp2_with fail
    refine K4.out.mono ?_
    rintro e w5 ⟨rfl, v5, c5, t5⟩
    have T5 := Lib.hid (T4.out.trans t5)
    have K5 := Lib.hid (next_empty c5 U u0.1 (by omega))
    clear t5 c5 K4 T4
    go_wp2_with fail
    refine K5.out.mono ?_
    rintro e w6 ⟨rfl, c6, t6⟩
    have T6 := Lib.hid (T5.out.trans t6)
    have K6 := Lib.hid (next_empty c6 U (by omega) (by omega))
    clear t6 c6 K5 T5
    go_wp2_with fail
    refine K6.out.mono ?_
    rintro e w7 ⟨rfl, c7, t7⟩
    have BF := Lib.hid (FIN.out _ _ (T6.out.trans t7))
    have K7 := Lib.hid (now_any c7)
    clear t7 c7 K6 T6
    go_wp2_with fail
    refine K7.out.mono ?_
    rintro e w8 ⟨rfl, rfl⟩
    go_wp2_with fail
    go_ret
    exact ⟨rfl, BF.out⟩
  | false =>
    by_cases hzu : Z ≤ U
    · have d0 : decide (Z ≤ U) = true := decide_eq_true hzu
      have K5 := Lib.hid (next_some (a := Z) (n := 1) (M := []) C4.out (fun y hy => by cases hy) U u0.1 (by omega) hzu)
      go_wp2_with fail
      refine K5.out.mono ?_
      rintro e w6 ⟨rfl, v6, c6, t6⟩
      have T6 := Lib.hid (T4.out.trans t6)
      have K6 := Lib.hid (next_empty c6 U hzu (by omega))
      clear t6 c6 K5 T4
      go_wp2_with fail
      refine K6.out.mono ?_
      rintro e w7 ⟨rfl, c7, t7⟩
      have BF := Lib.hid (FIN.out _ _ (T6.out.trans t7))
      have K7 := Lib.hid (now_any c7)
      clear t7 c7 K6 T6
      go_wp2_with fail
      refine K7.out.mono ?_
      rintro e w8 ⟨rfl, rfl⟩
      go_wp2_with fail
      go_ret
      exact ⟨rfl, BF.out⟩
    · have d0 : decide (Z ≤ U) = false := decide_eq_false hzu
      have K5 := Lib.hid (next_wait C4.out (fun e => by cases e) U u0.1 (by omega) (fun x hx => by simp at hx; subst hx; dsimp only; omega))
      go_wp2_with fail
      refine K5.out.mono ?_
      rintro e w6 ⟨rfl, c6, t6⟩
      have T6 := Lib.hid (T4.out.trans t6)
      have K6 := Lib.hid (next_wait c6 (fun e => by cases e) U (Int.le_refl _) (by omega) (fun x hx => by simp at hx; subst hx; dsimp only; omega))
      clear t6 c6 K5 T4
      go_wp2_with fail
      refine K6.out.mono ?_
      rintro e w7 ⟨rfl, c7, t7⟩
      have BF := Lib.hid (FIN.out _ _ (T6.out.trans t7))
      have K7 := Lib.hid (now_any c7)
      clear t7 c7 K6 T6
      go_wp2_with fail
      refine K7.out.mono ?_
      rintro e w8 ⟨rfl, rfl⟩
      go_wp2_with fail
      go_ret
      exact ⟨rfl, BF.out⟩

set_option maxRecDepth 100000 in
theorem lifted (os : Os) (started : os.Started) (H : Type) (enc : TypeId × Value → H) :
    ReturnsInHanded {} Try.checked os 6 .any (Rows.clockLateSpec.pre6 enc Try.prog Try.f6 Rows.clockLateRow.domain false) (Rows.clockLateSpec.post enc Try.prog Try.f6 false true false false) := by
  refine returnsInHanded_of_change (C := Try.checked) own started (by kernel_rfl) Try.func6
    (ChangeSpec.witness6 (enc := enc) (C := Try.checked) false ⟨#[], #[.int .i64 0, .int .i64 0, .int .i64 0, .bool false], []⟩ 8 (by kernel_rfl) (by kernel_rfl) (by kernel_rfl) (by kernel_rfl)) ?_
  intro W base args ds gs before hval0 hW hcnd _
  have hval : ∀ (j : Nat) t v, Try.f6.params[j]? = some t → args[j]? = some v → Value.okWide Try.prog W .any base t v := hval0
  obtain ⟨p, q, hA0, _⟩ := id hW
  have hA : DataW.TrodAll enc Try.prog W 0 (fun _ => true) true Try.f6.params.toList args.toList ds p := hA0
  rw [Try.params6] at hA hval
  obtain ⟨v0, vs0, d0, ds0, p0, q0, hargs, rfl, rfl, h0, r0⟩ := trodAll_cons hA
  obtain ⟨v1, vs1, d1, ds1, p1, q1, rfl, rfl, rfl, h1, r1⟩ := trodAll_cons r0
  obtain ⟨v2, vs2, d2, ds2, p2, q2, rfl, rfl, rfl, h2, r2⟩ := trodAll_cons r1
  obtain ⟨v3, vs3, d3, ds3, p3, q3, rfl, rfl, rfl, h3, r3⟩ := trodAll_cons r2
  obtain ⟨rfl, rfl, rfl⟩ := trodAll_nil r3
  obtain rfl : args = #[v0, v1, v2, v3] := by cases args; simp_all
  obtain ⟨a, rfl, ha⟩ := open_i64 Try.underlying3 (hval 0 _ v0 rfl rfl) h0
  obtain ⟨b, rfl, hb⟩ := open_i64 Try.underlying3 (hval 1 _ v1 rfl rfl) h1
  obtain ⟨u, rfl, hu⟩ := open_i64 Try.underlying3 (hval 2 _ v2 rfl rfl) h2
  obtain ⟨st, rfl, hst⟩ := open_bool1 Try.underlying4 (hval 3 _ v3 rfl rfl) h3
  refine (walk a b u st W ha hb hu hst).mono fun e W' ⟨he, hb⟩ => ⟨_, he, ?_⟩
  exact law_post laidOut rfl (by kernel_rfl) Try.underlying4 (by kernel_rfl) (fun ds h => by match ds, h with | [_, _, _, _], _ => rfl) hW hb

theorem over : Rows.clockLateRow.holds Try.pinned (OpenSpec.ofChange Rows.clockLateSpec) :=
  OpenClaim.holds_of_wide 6 Try.f6 rfl rfl rfl rfl rfl rfl rfl ⟨rfl, rfl, rfl, rfl, rfl⟩ rfl rfl rfl rfl rfl (by kernel_rfl) Try.func6 (by kernel_rfl)
    (of_decide_eq_true (by kernel_rfl)) (by unfold Func.isWrapper; first | (rw [if_pos (by decide +kernel)]; kernel_rfl) | (rw [if_neg (by decide +kernel)]; exact ⟨rfl, rfl⟩))
    (fun os started H enc _ => lifted os started H enc)

theorem proved : Rows.ClockLateSaid := over
end Go.Proofs.Ythcbhehdilaejaa.lawClockLate
