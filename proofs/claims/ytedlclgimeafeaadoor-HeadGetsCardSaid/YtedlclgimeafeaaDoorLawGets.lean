/- HeadGets: for every header and field the law answers true. The widths lie as the program's text lays them (the card ties them); no other condition. -/
import Derived.Test.YtedlclgimeafeaaDoorLawGetsA
import Derived.Test.YtedlclgimeafeaaDoorLawGetsB
import Derived.Test.YtedlclgimeafeaaDoorLawGetsC
import Derived.Test.YtedlclgimeafeaaDoorCards
import Derived.SevenTiedAt
set_option linter.unusedVariables false
set_option linter.unusedSimpArgs false
namespace Go.Proofs.YtedlclgimeafeaaDoor.lawGets
open Go.ChangeShapes Go.WideShapes Go.ChangeAt Go.RowKit Go.Proofs.YtedlclgimeafeaaDoor.frame Go.Proofs.YtedlclgimeafeaaDoor.hmath Go.Proofs.YtedlclgimeafeaaDoor.head1 Go.Proofs.YtedlclgimeafeaaDoor.head2 Go.Proofs.YtedlclgimeafeaaDoor.hrow Go.Proofs.YtedlclgimeafeaaDoor.head3 Go.Proofs.YtedlclgimeafeaaDoor.head5 Go.Proofs.YtedlclgimeafeaaDoor.head6 Go.Proofs.YtedlclgimeafeaaDoor.head7 Go.Proofs.YtedlclgimeafeaaDoor.lawGetsR Go.Proofs.YtedlclgimeafeaaDoor.lawGetsA Go.Proofs.YtedlclgimeafeaaDoor.lawGetsB Go.Proofs.YtedlclgimeafeaaDoor.lawGetsC

theorem walk (h : Hd) (f : Int) (w : World) (hh : h.ok) (hf : frame.I64 f) (L : Laid w) :
    Calls Tryd.prog 4 #[h.val, .int .i64 f] w fun e w' => e = .returned (.bool true) ∧ Below w.heap.size w w' := by
  have KG7 := Lib.hid (fun w L => get_any hd7 hd7_ok 3 (by unfold hmath.I64; omega) w L)
  have KC7 := Lib.hid (fun w L => check_any hd256 hd256_ok w L)
  rw [show getI hd7 3 = 7 by decide] at KG7
  rw [show checkI hd256 = 1 by decide] at KC7
  have KN := Lib.hid (fun w => nums_any h hh w)
  have KG := Lib.hid (fun w L => get_any h hh f hf w L)
  have KC := Lib.hid (fun w L => check_any h hh w L)
  have HC := Lib.hid (check_right h)
  by_cases hd : h.dp < 65536
  · by_cases f0 : f < 0
    · exact walk_lo_lt h f _ _ w KG7 KC7 KN KG KC HC L hd f0 (getI_out (.inl f0))
    by_cases f9 : 9 ≤ f
    · exact walk_hi_lt h f _ _ w KG7 KC7 KN KG KC HC L hd f0 f9 (getI_out (.inr f9))
    exact walk_in_lt h f _ _ w KG7 KC7 KN KG KC HC L hd (by omega) (by omega) (fun w => index_nums h f (by omega) (by omega) w)
  · by_cases f0 : f < 0
    · exact walk_lo_ge h f _ _ w KG7 KC7 KN KG KC HC L (by omega) f0 (getI_out (.inl f0))
    by_cases f9 : 9 ≤ f
    · exact walk_hi_ge h f _ _ w KG7 KC7 KN KG KC HC L (by omega) f0 f9 (getI_out (.inr f9))
    exact walk_in_ge h f _ _ w KG7 KC7 KN KG KC HC L (by omega) (by omega) (by omega) (fun w => index_nums h f (by omega) (by omega) w)

set_option maxRecDepth 100000 in
theorem lifted (os : Os) (started : os.Started) (H : Type) (enc : TypeId × Value → H) :
    ReturnsInHanded {} Tryd.checked os 4 .any (fun w args => (Rows.headGetsSpec.pre enc Tryd.prog Tryd.f4 [] false w args ∧ laidMetH Tryd.prog frame.laid w) ∧ sizedMet enc Tryd.prog Tryd.f4 (OpenSpec.ofChange Rows.headGetsSpec) false w args)
      (Rows.headGetsSpec.post enc Tryd.prog Tryd.f4 false true false false) := by
  refine returnsInHanded_of_change_and (C := Tryd.checked) (X := fun w _ => laidMetH Tryd.prog frame.laid w) (fun _ _ _ hh h => h.of_heap hh) own started (by kernel_rfl) Tryd.func4
    (ChangeSpec.witness_shaped (enc := enc) (C := Tryd.checked) (os := os) (X := fun w _ => laidMetH Tryd.prog frame.laid w) false (World.doorLaid Tryd.prog 400 os) #[.agg #[.int .i64 0, .int .u8 0, .int .u8 0, .int .u8 0, .int .u8 0, .int .u8 0, .int .u8 0, .int .u8 0, .int .u8 0, .int .u8 0, .int .u8 0, .int .u8 0, .int .u8 0, .int .i64 0, .int .u32 0, .int .u32 0, .int .i64 0, .int .i64 0, .int .i64 0], .int .i64 0] 8 rfl (World.shaped_of_RefB (by kernel_rfl) (by kernel_rfl)) (by kernel_rfl) (by kernel_rfl) (by kernel_rfl) (frame.door_met os _)) ?_
  intro W base args ds gs before hval0 hW _ _ hL0 _
  have hL := frame.of_laid hL0
  have hval : ∀ (j : Nat) t v, Tryd.f4.params[j]? = some t → args[j]? = some v → Value.okWide Tryd.prog W .any base t v := hval0
  obtain ⟨p, q, hA0, _⟩ := id hW
  have hA : DataW.TrodAll enc Tryd.prog W 0 (fun _ => true) true Tryd.f4.params.toList args.toList ds p := hA0
  rw [Tryd.params4] at hA hval
  obtain ⟨v0, vs0, d0, ds0, p0, q0, hargs, rfl, rfl, h0, r0⟩ := trodAll_cons hA
  obtain ⟨v1, vs1, d1, ds1, p1, q1, rfl, rfl, rfl, h1, r1⟩ := trodAll_cons r0
  obtain ⟨rfl, rfl, rfl⟩ := trodAll_nil r1
  obtain rfl : args = #[v0, v1] := by cases args; simp_all
  obtain ⟨h, rfl, hh⟩ := open_hdr (hval 0 _ v0 rfl rfl) h0
  obtain ⟨f, rfl, hf⟩ := open_i64 Tryd.underlying22 (hval 1 _ v1 rfl rfl) h1
  refine (walk h f W hh hf hL).mono fun e W' ⟨he, hb⟩ => ⟨_, he, ?_⟩
  exact law_post laidOut rfl (by kernel_rfl) Tryd.underlying4 (by kernel_rfl) (fun ds h => by match ds, h with | [_, _], _ => rfl) hW hb

theorem over : Rows.HeadGetsSaid :=
  OpenClaim.holds_of_wide 4 Tryd.f4 rfl rfl rfl rfl rfl rfl rfl ⟨rfl, rfl, rfl, rfl, rfl⟩ rfl rfl rfl rfl rfl (by kernel_rfl) Tryd.func4 (by kernel_rfl)
    (of_decide_eq_true (by kernel_rfl)) (by unfold Func.isWrapper; first | (rw [if_pos (by decide +kernel)]; kernel_rfl) | (rw [if_neg (by decide +kernel)]; exact ⟨rfl, rfl⟩))
    (fun os started H enc _ => lifted os started H enc)

theorem proved : Rows.HeadGetsCardSaid :=
  Claim7.holds_tied_plain_at .later [] [.data] true _ false
    over (fun _ h => by cases h) (by kernel_rfl) (fun _ h => by cases h) headGets_row_tie rfl ⟨rfl, rfl⟩ (by kernel_rfl) rfl
    (fun f fn hf hfn => by
      obtain rfl : f = 4 := Option.some.inj ((show Tryd.prog.funcNamed "carrefour/carrefourlaw04.HeadGets" = some 4 by kernel_rfl).symm.trans hf) |>.symm
      obtain rfl : fn = Tryd.f4 := (Option.some.inj (Tryd.func4.symm.trans hfn)).symm
      exact ⟨by kernel_rfl, fun j t ht => by
        rw [Tryd.params4] at ht
        match j, ht with
        | 0, ht => obtain rfl := Option.some.inj ht; exact (show Tryd.prog.wantsStandIn 33 = false by kernel_rfl)
        | 1, ht => obtain rfl := Option.some.inj ht; exact (show Tryd.prog.wantsStandIn 22 = false by kernel_rfl)
        | j + 2, ht => simp at ht⟩)
    (by kernel_rfl)
end Go.Proofs.YtedlclgimeafeaaDoor.lawGets
