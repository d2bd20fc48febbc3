/- IpBits: for every address and every int the law answers true. No condition. -/
import Derived.Test.YtjpjgehhkjljfaaFrame
import Derived.Test.YtjpjgehhkjljfaaIp1
import Derived.Test.YtjpjgehhkjljfaaRef2
set_option linter.unusedVariables false
namespace Go.Proofs.Ytjpjgehhkjljfaa.lawBits
open Go.ChangeShapes Go.WideShapes Go.ChangeAt Go.RowKit Go.Proofs.Ytjpjgehhkjljfaa.frame Go.Proofs.Ytjpjgehhkjljfaa.math1

set_option maxRecDepth 100000 in
theorem walk (a n : Int) (w : World) (ha : U32 a) (hn : I64 n) :
    Calls Try.prog 6 #[.int .u32 a, .int .i64 n] w fun e w' => e = .returned (.bool true) ∧ Below w.heap.size w w' := by
  obtain ⟨h0, h1⟩ := ha
  by_cases hin : n < 0 ∨ 31 < n
  · rcases hin with h | h
    all_goals
      go_enter Try.func6, Try.ntmps6
      go_wp2_with fail
      refine (ip1.bit_any _ _ _ (by omega) (by omega) (by omega) (by omega)).mono ?_
      rintro e w' ⟨rfl, rfl⟩
      rw [show bitI 1 (31 : Int).toNat = 1 by decide]
      go_wp2_with fail
      refine (ip1.bit_any _ _ _ (by omega) (by omega) (by omega) (by omega)).mono ?_
      rintro e w' ⟨rfl, rfl⟩
      rw [show bitI 2147483648 (0 : Int).toNat = 1 by decide]
      go_wp2_with fail
      refine (ip1.bit_out _ _ _ (by omega)).mono ?_
      rintro e w' ⟨rfl, rfl⟩
      go_wp2_with fail
      go_ret
      exact ⟨rfl, Below.refl _ _⟩
  · obtain ⟨m, rfl⟩ := Int.eq_ofNat_of_zero_le (show 0 ≤ n by omega)
    have hm : (m : Int) < 32 := by omega
    have hm31 : ¬ (31 < (m : Int)) := by omega
    have hm0 : ¬ ((m : Int) < 0) := by omega
    go_enter Try.func6, Try.ntmps6
    go_wp2_with fail
    refine (ip1.bit_any _ _ _ (by omega) (by omega) (by omega) (by omega)).mono ?_
    rintro e w' ⟨rfl, rfl⟩
    rw [show bitI 1 (31 : Int).toNat = 1 by decide]
    go_wp2_with fail
    refine (ip1.bit_any _ _ _ (by omega) (by omega) (by omega) (by omega)).mono ?_
    rintro e w' ⟨rfl, rfl⟩
    rw [show bitI 2147483648 (0 : Int).toNat = 1 by decide]
    go_wp2_with fail
    refine (ip1.bit_any _ _ _ h0 h1 (by omega) (by omega)).mono ?_
    rintro e w' ⟨rfl, rfl⟩
    rw [Int.toNat_natCast]
    go_wp2_with fail
    refine (ref1.bits_at _ _ h0 h1).mono ?_
    rintro e w1 ⟨g, cap, rfl, hg0, hg1, hc0, hc1, hcell, hb⟩
    have hc := hcell m (by omega)
    have hB := Lib.hid hb
    unfold maxLen at hc1
    clear hcell hb
    go_wp2_with fail
    go_ret
    exact ⟨rfl, hB.out⟩

set_option maxRecDepth 100000 in
theorem lifted (os : Os) (started : os.Started) (H : Type) (enc : TypeId × Value → H) :
    ReturnsInHanded {} Try.checked os 6 .any (Rows.ipBitsSpec.pre6 enc Try.prog Try.f6 Rows.ipBitsRow.domain false) (Rows.ipBitsSpec.post enc Try.prog Try.f6 false true false false) := by
  refine returnsInHanded_of_change (C := Try.checked) own started (by kernel_rfl) Try.func6
    (ChangeSpec.witness6 (enc := enc) (C := Try.checked) false ⟨#[], #[.int .u32 0, .int .i64 0], []⟩ 8 (by kernel_rfl) (by kernel_rfl) (by kernel_rfl) (by kernel_rfl)) ?_
  intro W base args ds gs before hval0 hW hcnd _
  have hval : ∀ (j : Nat) t v, Try.f6.params[j]? = some t → args[j]? = some v → Value.okWide Try.prog W .any base t v := hval0
  obtain ⟨p, q, hA0, _⟩ := id hW
  have hA : DataW.TrodAll enc Try.prog W 0 (fun _ => true) true Try.f6.params.toList args.toList ds p := hA0
  rw [Try.params6] at hA hval
  obtain ⟨v0, vs0, d0, ds0, p0, q0, hargs, rfl, rfl, h0, r0⟩ := trodAll_cons hA
  obtain ⟨v1, vs1, d1, ds1, p1, q1, rfl, rfl, rfl, h1, r1⟩ := trodAll_cons r0
  obtain ⟨rfl, rfl, rfl⟩ := trodAll_nil r1
  obtain rfl : args = #[v0, v1] := by cases args; simp_all
  obtain ⟨a, rfl, ha⟩ := open_u32 Try.underlying23 (hval 0 _ v0 rfl rfl) h0
  obtain ⟨n, rfl, hn⟩ := open_i64 Try.underlying3 (hval 1 _ v1 rfl rfl) h1
  refine (walk a n W ha hn).mono fun e W' ⟨he, hb⟩ => ⟨_, he, ?_⟩
  exact law_post laidOut rfl (by kernel_rfl) Try.underlying4 (by kernel_rfl) (fun ds h => by match ds, h with | [_, _], _ => rfl) hW hb

theorem over : Rows.ipBitsRow.holds Try.pinned (OpenSpec.ofChange Rows.ipBitsSpec) :=
  OpenClaim.holds_of_wide 6 Try.f6 rfl rfl rfl rfl rfl rfl rfl ⟨rfl, rfl, rfl, rfl, rfl⟩ rfl rfl rfl rfl rfl (by kernel_rfl) Try.func6 (by kernel_rfl)
    (of_decide_eq_true (by kernel_rfl)) (by unfold Func.isWrapper; first | (rw [if_pos (by decide +kernel)]; kernel_rfl) | (rw [if_neg (by decide +kernel)]; exact ⟨rfl, rfl⟩))
    (fun os started H enc _ => lifted os started H enc)

theorem proved : Rows.IpBitsSaid := over
end Go.Proofs.Ytjpjgehhkjljfaa.lawBits
