/- IpForms: for any prefix, in its form or not, and any address the law answers true. No condition. -/
import Derived.Test.YtjpjgehhkjljfaaFrame
import Derived.Test.YtjpjgehhkjljfaaIp2
import Derived.Test.YtjpjgehhkjljfaaRef2
import Derived.Test.YtjpjgehhkjljfaaAid
set_option linter.unusedVariables false
namespace Go.Proofs.Ytjpjgehhkjljfaa.lawForms
open Go.ChangeShapes Go.WideShapes Go.ChangeAt Go.RowKit Go.Proofs.Ytjpjgehhkjljfaa.frame Go.Proofs.Ytjpjgehhkjljfaa.math1

set_option maxRecDepth 100000 in
set_option maxHeartbeats 1000000 in
theorem walk (a n x : Int) (w : World) (ha : U32 a) (hn : I64 n) (hx : U32 x) :
    Calls Try.prog 4 #[.agg #[.int .u32 a, .int .i64 n], .int .u32 x] w fun e w' => e = .returned (.bool true) ∧ Below w.heap.size w w' := by
  obtain ⟨a0, a1⟩ := ha
  obtain ⟨x0, x1⟩ := hx
  clear hn
  have kc := fun W => ip1.check_any a n W a0 a1
  have kr := fun W => ref1.right_any a n W a0 a1
  have kh := fun W => ip1.has_any a n x W a0 a1 x0 x1
  have kg := fun W => ref1.has_any a n x W a0 a1 x0 x1
  have hcase : (rightB a n = true ∧ hasB a n x = true) ∨ (rightB a n = true ∧ hasB a n x = false) ∨ (rightB a n = false ∧ hasB a n x = false) := by
    cases hr : rightB a n
    · right; right
      refine ⟨rfl, ?_⟩
      cases e : hasB a n x with
      | false => rfl
      | true => rw [has_right e] at hr; cases hr
    · cases hh : hasB a n x
      · exact .inr (.inl ⟨rfl, rfl⟩)
      · exact .inl ⟨rfl, rfl⟩
  rcases hcase with ⟨h1, h2⟩ | ⟨h1, h2⟩ | ⟨h1, h2⟩
  all_goals
    simp only [h1, if_true, Bool.false_eq_true, if_false] at kc kr
    rw [h2] at kh kg
    have KC := Lib.hid kc
    have KR := Lib.hid kr
    have KH := Lib.hid kh
    have KG := Lib.hid kg
    clear kc kr kh kg h1 h2
    go_enter Try.func4, Try.ntmps4
    go_wp2_with fail
    refine (aid.keep_first (ip1.has_any _ _ _ _ (by omega) (by omega) (by omega) (by omega))).mono ?_
    rintro e _ ⟨rfl, s1, rfl⟩
    rw [show hasB 167772160 8 167838211 = true by decide]
    have f0 := aid.keep_cell (aid.new2a w (.int .u32 a) (.int .i64 n) 27)
    have f1 := aid.keep_cell (aid.new2b w (.int .u32 a) (.int .i64 n) 27)
    have HX := Lib.hid (aid.kba (Below.refl w.heap.size w) (.cells #[.int .u32 a, .int .i64 n] 27))
    go_wp2_with fail
    refine (aid.keep_call (ip1.check_any _ _ _ (by omega) (by omega))).mono ?_
    rintro e _ ⟨rfl, s2, rfl⟩
    rw [show rightB 1 8 = false by decide]
    simp only [Bool.false_eq_true, if_false]
    go_wp2_with fail
    refine (aid.keep_call (KR.out _)).mono ?_
    rintro e _ ⟨rfl, s3, rfl⟩
    go_wp2_with fail
    have g0 := fun s : aid.Keep s3.world => aid.keep_cell (f0 s3) s
    have g1 := fun s : aid.Keep s3.world => aid.keep_cell (f1 s3) s
    clear f0 f1
    refine aid.wp_region_keep (by kernel_rfl) (by kernel_rfl) ?_
    repeat (go_big_quiet_step ((first | (go_at_call 22; exact aid.keep_call (KC.out _)) | (go_at_call 21; exact aid.keep_call (KH.out _)) | (go_at_call 20; exact aid.keep_call (KG.out _)))))
    refine wpQuiet_nil ?_
    rintro _ ⟨s4, rfl⟩
    go_wp2_with fail
    go_ret
    exact ⟨rfl, aid.kbk (aid.kbk HX.out s3) s4⟩

set_option maxRecDepth 100000 in
theorem lifted (os : Os) (started : os.Started) (H : Type) (enc : TypeId × Value → H) :
    ReturnsInHanded {} Try.checked os 4 .any (Rows.ipFormsSpec.pre6 enc Try.prog Try.f4 Rows.ipFormsRow.domain false) (Rows.ipFormsSpec.post enc Try.prog Try.f4 false true false false) := by
  refine returnsInHanded_of_change (C := Try.checked) own started (by kernel_rfl) Try.func4
    (ChangeSpec.witness6 (enc := enc) (C := Try.checked) false ⟨#[], #[.agg #[.int .u32 0, .int .i64 0], .int .u32 0], []⟩ 8 (by kernel_rfl) (by kernel_rfl) (by kernel_rfl) (by kernel_rfl)) ?_
  intro W base args ds gs before hval0 hW hcnd _
  have hval : ∀ (j : Nat) t v, Try.f4.params[j]? = some t → args[j]? = some v → Value.okWide Try.prog W .any base t v := hval0
  obtain ⟨p, q, hA0, _⟩ := id hW
  have hA : DataW.TrodAll enc Try.prog W 0 (fun _ => true) true Try.f4.params.toList args.toList ds p := hA0
  rw [Try.params4] at hA hval
  obtain ⟨v0, vs0, d0, ds0, p0, q0, hargs, rfl, rfl, h0, r0⟩ := trodAll_cons hA
  obtain ⟨v1, vs1, d1, ds1, p1, q1, rfl, rfl, rfl, h1, r1⟩ := trodAll_cons r0
  obtain ⟨rfl, rfl, rfl⟩ := trodAll_nil r1
  obtain rfl : args = #[v0, v1] := by cases args; simp_all
  obtain ⟨a, n, rfl, ha, hn⟩ := open_pfx (hval 0 _ v0 rfl rfl) h0
  obtain ⟨x, rfl, hx⟩ := open_u32 Try.underlying23 (hval 1 _ v1 rfl rfl) h1
  refine (walk a n x W ha hn hx).mono fun e W' ⟨he, hb⟩ => ⟨_, he, ?_⟩
  exact law_post laidOut rfl (by kernel_rfl) Try.underlying4 (by kernel_rfl) (fun ds h => by match ds, h with | [_, _], _ => rfl) hW hb

theorem over : Rows.ipFormsRow.holds Try.pinned (OpenSpec.ofChange Rows.ipFormsSpec) :=
  OpenClaim.holds_of_wide 4 Try.f4 rfl rfl rfl rfl rfl rfl rfl ⟨rfl, rfl, rfl, rfl, rfl⟩ rfl rfl rfl rfl rfl (by kernel_rfl) Try.func4 (by kernel_rfl)
    (of_decide_eq_true (by kernel_rfl)) (by unfold Func.isWrapper; first | (rw [if_pos (by decide +kernel)]; kernel_rfl) | (rw [if_neg (by decide +kernel)]; exact ⟨rfl, rfl⟩))
    (fun os started H enc _ => lifted os started H enc)

theorem proved : Rows.IpFormsSaid := over
end Go.Proofs.Ytjpjgehhkjljfaa.lawForms
