/- IpMasks: for every address and every int the law answers true. No condition. -/
import Derived.Test.YtjpjgehhkjljfaaFrame
import Derived.Test.YtjpjgehhkjljfaaIp1
import Derived.Test.YtjpjgehhkjljfaaRef2
import Derived.Test.YtjpjgehhkjljfaaAid
set_option linter.unusedVariables false
namespace Go.Proofs.Ytjpjgehhkjljfaa.lawMasks
open Go.ChangeShapes Go.WideShapes Go.ChangeAt Go.RowKit Go.Proofs.Ytjpjgehhkjljfaa.frame Go.Proofs.Ytjpjgehhkjljfaa.math1

theorem clamp_fix (n : Int) : clampI (clampI n) = clampI n := clampI_in (clampI_bd n).1 (clampI_bd n).2
theorem net_right (a n : Int) : rightB (netI a n) (clampI n) = true := by
  have hb := clampI_bd n
  refine rightB_iff.2 ⟨hb.1, hb.2, ?_⟩
  unfold netI
  have := Int.mul_ediv_add_emod a (sz (clampI n))
  rw [show a - a % sz (clampI n) = sz (clampI n) * (a / sz (clampI n)) by omega]
  exact Int.mul_emod_right _ _
theorem net_has (a n : Int) : hasB (netI a n) (clampI n) a = true := by
  unfold hasB netI
  rw [clamp_fix]
  simp

set_option maxRecDepth 100000 in
theorem walk (a n : Int) (w : World) (ha : U32 a) (hn : I64 n) :
    Calls Try.prog 3 #[.int .u32 a, .int .i64 n] w fun e w' => e = .returned (.bool true) ∧ Below w.heap.size w w' := by
  obtain ⟨h0, h1⟩ := ha
  have hnb := netI_bd (n := n) h0 h1
  have hr := Lib.hid (net_right a n)
  have hh := Lib.hid (net_has a n)
  have cases3 : (n < 0 ∧ clampI n = 0) ∨ (32 < n ∧ clampI n = 32) ∨ (0 ≤ n ∧ n ≤ 32 ∧ clampI n = n) := by unfold clampI; split <;> (try split) <;> omega
  go_enter Try.func3, Try.ntmps3
  go_wp2_with fail
  refine (ip1.mask_any _ _).mono ?_
  rintro e w' ⟨rfl, rfl⟩
  rw [show maskI 8 = 4278190080 by decide]
  go_wp2_with fail
  refine (ip1.mask_any _ _).mono ?_
  rintro e w' ⟨rfl, rfl⟩
  go_wp2_with fail
  refine (ref1.mask_any _ _).mono ?_
  rintro e w1 ⟨rfl, hb1⟩
  have hB1 := Lib.hid hb1
  clear hb1
  go_wp2_with fail
  refine (ip1.of_any _ _ _ h0 h1).mono ?_
  rintro e w2 ⟨rfl, hb2⟩
  have hB2 := Lib.hid (aid.bnext hB1.out hb2 hB1.out.size)
  clear hb2
  rcases cases3 with ⟨c1, c2⟩ | ⟨c1, c2⟩ | ⟨c1, c3, c2⟩
  all_goals
    rw [c2] at hr hh ⊢
    clear c2
    go_wp2_with fail
    refine (ref1.right_any _ _ _ hnb.1 (by omega)).mono ?_
    rintro e w3 ⟨rfl, hb3⟩
    rw [hr.out]
    obtain ⟨hc3, hf3, hs3⟩ := aid.bcell hb3
    have hB3 := Lib.hid (aid.bnext ((hB2.out).alloc hB2.out.size _) hb3 (by have := hB2.out.size; simp; omega))
    simp at hs3
    clear hb3
    go_wp2_with fail
    refine (ref1.has_any _ _ _ _ hnb.1 (by omega) h0 h1).mono ?_
    rintro e w4 ⟨rfl, hb4⟩
    rw [hh.out]
    have hB4 := Lib.hid (aid.bnext hB3.out hb4 hB3.out.size)
    clear hb4
    go_wp2_with fail
    go_ret
    exact ⟨rfl, hB4.out⟩

set_option maxRecDepth 100000 in
theorem lifted (os : Os) (started : os.Started) (H : Type) (enc : TypeId × Value → H) :
    ReturnsInHanded {} Try.checked os 3 .any (Rows.ipMasksSpec.pre6 enc Try.prog Try.f3 Rows.ipMasksRow.domain false) (Rows.ipMasksSpec.post enc Try.prog Try.f3 false true false false) := by
  refine returnsInHanded_of_change (C := Try.checked) own started (by kernel_rfl) Try.func3
    (ChangeSpec.witness6 (enc := enc) (C := Try.checked) false ⟨#[], #[.int .u32 0, .int .i64 0], []⟩ 8 (by kernel_rfl) (by kernel_rfl) (by kernel_rfl) (by kernel_rfl)) ?_
  intro W base args ds gs before hval0 hW hcnd _
  have hval : ∀ (j : Nat) t v, Try.f3.params[j]? = some t → args[j]? = some v → Value.okWide Try.prog W .any base t v := hval0
  obtain ⟨p, q, hA0, _⟩ := id hW
  have hA : DataW.TrodAll enc Try.prog W 0 (fun _ => true) true Try.f3.params.toList args.toList ds p := hA0
  rw [Try.params3] at hA hval
  obtain ⟨v0, vs0, d0, ds0, p0, q0, hargs, rfl, rfl, h0, r0⟩ := trodAll_cons hA
  obtain ⟨v1, vs1, d1, ds1, p1, q1, rfl, rfl, rfl, h1, r1⟩ := trodAll_cons r0
  obtain ⟨rfl, rfl, rfl⟩ := trodAll_nil r1
  obtain rfl : args = #[v0, v1] := by cases args; simp_all
  obtain ⟨a, rfl, ha⟩ := open_u32 Try.underlying23 (hval 0 _ v0 rfl rfl) h0
  obtain ⟨n, rfl, hn⟩ := open_i64 Try.underlying3 (hval 1 _ v1 rfl rfl) h1
  refine (walk a n W ha hn).mono fun e W' ⟨he, hb⟩ => ⟨_, he, ?_⟩
  exact law_post laidOut rfl (by kernel_rfl) Try.underlying4 (by kernel_rfl) (fun ds h => by match ds, h with | [_, _], _ => rfl) hW hb

theorem over : Rows.ipMasksRow.holds Try.pinned (OpenSpec.ofChange Rows.ipMasksSpec) :=
  OpenClaim.holds_of_wide 3 Try.f3 rfl rfl rfl rfl rfl rfl rfl ⟨rfl, rfl, rfl, rfl, rfl⟩ rfl rfl rfl rfl rfl (by kernel_rfl) Try.func3 (by kernel_rfl)
    (of_decide_eq_true (by kernel_rfl)) (by unfold Func.isWrapper; first | (rw [if_pos (by decide +kernel)]; kernel_rfl) | (rw [if_neg (by decide +kernel)]; exact ⟨rfl, rfl⟩))
    (fun os started H enc _ => lifted os started H enc)

theorem proved : Rows.IpMasksSaid := over
end Go.Proofs.Ytjpjgehhkjljfaa.lawMasks
