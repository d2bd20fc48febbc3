/- HeadTwice: for every header, two fields and two numbers the law answers true. The widths lie as the program's text lays them (the card ties them); no other condition. -/
import Derived.Test.YtedlclgimeafeaaDoorLawTwiceA
import Derived.Test.YtedlclgimeafeaaDoorLawTwiceB
import Derived.Test.YtedlclgimeafeaaDoorLawTwiceC
import Derived.Test.YtedlclgimeafeaaDoorLawTwiceD
import Derived.Test.YtedlclgimeafeaaDoorCards
import Derived.SevenTiedAt
set_option linter.unusedVariables false
set_option linter.unusedSimpArgs false
namespace Go.Proofs.YtedlclgimeafeaaDoor.lawTwice
open Go.ChangeShapes Go.WideShapes Go.ChangeAt Go.RowKit Go.Proofs.YtedlclgimeafeaaDoor.frame Go.Proofs.YtedlclgimeafeaaDoor.hmath Go.Proofs.YtedlclgimeafeaaDoor.head1 Go.Proofs.YtedlclgimeafeaaDoor.hrow Go.Proofs.YtedlclgimeafeaaDoor.head3 Go.Proofs.YtedlclgimeafeaaDoor.head5 Go.Proofs.YtedlclgimeafeaaDoor.lawTwiceA Go.Proofs.YtedlclgimeafeaaDoor.lawTwiceB Go.Proofs.YtedlclgimeafeaaDoor.lawTwiceC Go.Proofs.YtedlclgimeafeaaDoor.lawTwiceD

theorem walk (h : Hd) (f g a b : Int) (w : World) (hh : h.ok) (hf : frame.I64 f) (hg : frame.I64 g) (ha : hmath.U64 a) (hb : hmath.U64 b) (L : Laid w) :
    Calls Tryd.prog 7 #[h.val, .int .i64 f, .int .i64 g, .int .u64 a, .int .u64 b] w fun e w' => e = .returned (.bool true) ∧ Below w.heap.size w w' := by
  have KF := Lib.hid (fun w L => full_any f w hf L)
  have KG := Lib.hid (fun w L => full_any g w hg L)
  obtain ⟨A0, A1⟩ := and_bd f a ha.1 ha.2
  obtain ⟨C0, C1⟩ := and_bd g b hb.1 hb.2
  have hFf := fullI_bd f
  have hFg := fullI_bd g
  have uA : hmath.U64 (bits .and .u64 a (fullI f)) := ⟨A0, by omega⟩
  have uC : hmath.U64 (bits .and .u64 b (fullI g)) := ⟨C0, by omega⟩
  obtain ⟨p, e1, v1, y1, n1⟩ := with_parts h f (bits .and .u64 a (fullI f))
  obtain ⟨q, e2, v2, y2, n2⟩ := with_parts h g (bits .and .u64 b (fullI g))
  obtain ⟨pq, e3, v3, y3, n3⟩ := with_parts p g (bits .and .u64 b (fullI g))
  obtain ⟨qp, e4, v4, y4, n4⟩ := with_parts q f (bits .and .u64 a (fullI f))
  have KP := Lib.hid (fun w L => with_any h f _ hf uA w L)
  have KQ := Lib.hid (fun w L => with_any h g _ hg uC w L)
  have KPQ := Lib.hid (fun w L => with_any p g _ hg uC w L)
  have KQP := Lib.hid (fun w L => with_any q f _ hf uA w L)
  rw [v1] at KP
  rw [v2] at KQ
  rw [v3] at KPQ
  rw [v4] at KQP
  by_cases f0 : f < 0
  · obtain ⟨-, rfl⟩ := n1 (by omega)
    exact bad_f_lo h p q pq qp q f g a b _ _ 1 e2 e3 e4 e2 w KF KG KP KQ KPQ KQP KQ L f0 rfl
  by_cases f9 : 9 ≤ f
  · obtain ⟨-, rfl⟩ := n1 (by omega)
    exact bad_f_hi h p q pq qp q f g a b _ _ 1 e2 e3 e4 e2 w KF KG KP KQ KPQ KQP KQ L f9 f0 rfl
  obtain ⟨rfl, rfl⟩ := y1 ⟨by omega, by omega, A1⟩
  by_cases g0 : g < 0
  · obtain ⟨-, rfl⟩ := n2 (by omega)
    exact bad_g_lo h _ q pq qp q f g a b _ _ 0 1 e3 e4 1 w KF KG KP KQ KPQ KQP KQ L f0 (by omega) g0 rfl rfl
  by_cases g9 : 9 ≤ g
  · obtain ⟨-, rfl⟩ := n2 (by omega)
    exact bad_g_hi h _ q pq qp q f g a b _ _ 0 1 e3 e4 1 w KF KG KP KQ KPQ KQP KQ L f0 (by omega) g9 g0 rfl rfl
  obtain ⟨rfl, rfl⟩ := y2 ⟨by omega, by omega, C1⟩
  obtain ⟨rfl, rfl⟩ := y3 ⟨by omega, by omega, C1⟩
  obtain ⟨rfl, rfl⟩ := y4 ⟨by omega, by omega, A1⟩
  by_cases hfg : f = g
  · subst hfg
    exact good_eq h _ _ _ _ _ f f a b _ _ 0 0 0 0 0 w KF KG KP KQ KPQ KQP KQ L f0 (by omega) g0 (by omega) (eq_bool rfl) set_set
  · exact good_ne h _ _ _ _ _ f g a b _ _ 0 0 0 0 0 w KF KG KP KQ KPQ KQP KQ L f0 (by omega) g0 (by omega) (ne_bool hfg) (set_comm hfg)

set_option maxRecDepth 100000 in
theorem lifted (os : Os) (started : os.Started) (H : Type) (enc : TypeId × Value → H) :
    ReturnsInHanded {} Tryd.checked os 7 .any (fun w args => (Rows.headTwiceSpec.pre enc Tryd.prog Tryd.f7 [] false w args ∧ laidMetH Tryd.prog frame.laid w) ∧ sizedMet enc Tryd.prog Tryd.f7 (OpenSpec.ofChange Rows.headTwiceSpec) false w args)
      (Rows.headTwiceSpec.post enc Tryd.prog Tryd.f7 false true false false) := by
  refine returnsInHanded_of_change_and (C := Tryd.checked) (X := fun w _ => laidMetH Tryd.prog frame.laid w) (fun _ _ _ hh h => h.of_heap hh) own started (by kernel_rfl) Tryd.func7
    (ChangeSpec.witness_shaped (enc := enc) (C := Tryd.checked) (os := os) (X := fun w _ => laidMetH Tryd.prog frame.laid w) false (World.doorLaid Tryd.prog 400 os) #[.agg #[.int .i64 0, .int .u8 0, .int .u8 0, .int .u8 0, .int .u8 0, .int .u8 0, .int .u8 0, .int .u8 0, .int .u8 0, .int .u8 0, .int .u8 0, .int .u8 0, .int .u8 0, .int .i64 0, .int .u32 0, .int .u32 0, .int .i64 0, .int .i64 0, .int .i64 0], .int .i64 0, .int .i64 0, .int .u64 0, .int .u64 0] 8 rfl (World.shaped_of_RefB (by kernel_rfl) (by kernel_rfl)) (by kernel_rfl) (by kernel_rfl) (by kernel_rfl) (frame.door_met os _)) ?_
  intro W base args ds gs before hval0 hW _ _ hL0 _
  have hL := frame.of_laid hL0
  have hval : ∀ (j : Nat) t v, Tryd.f7.params[j]? = some t → args[j]? = some v → Value.okWide Tryd.prog W .any base t v := hval0
  obtain ⟨p, q, hA0, _⟩ := id hW
  have hA : DataW.TrodAll enc Tryd.prog W 0 (fun _ => true) true Tryd.f7.params.toList args.toList ds p := hA0
  rw [Tryd.params7] at hA hval
  obtain ⟨v0, vs0, d0, ds0, p0, q0, hargs, rfl, rfl, h0, r0⟩ := trodAll_cons hA
  obtain ⟨v1, vs1, d1, ds1, p1, q1, rfl, rfl, rfl, h1, r1⟩ := trodAll_cons r0
  obtain ⟨v2, vs2, d2, ds2, p2, q2, rfl, rfl, rfl, h2, r2⟩ := trodAll_cons r1
  obtain ⟨v3, vs3, d3, ds3, p3, q3, rfl, rfl, rfl, h3, r3⟩ := trodAll_cons r2
  obtain ⟨v4, vs4, d4, ds4, p4, q4, rfl, rfl, rfl, h4, r4⟩ := trodAll_cons r3
  obtain ⟨rfl, rfl, rfl⟩ := trodAll_nil r4
  obtain rfl : args = #[v0, v1, v2, v3, v4] := by cases args; simp_all
  obtain ⟨h, rfl, hh⟩ := open_hdr (hval 0 _ v0 rfl rfl) h0
  obtain ⟨f, rfl, hf⟩ := open_i64 Tryd.underlying22 (hval 1 _ v1 rfl rfl) h1
  obtain ⟨g, rfl, hg⟩ := open_i64 Tryd.underlying22 (hval 2 _ v2 rfl rfl) h2
  obtain ⟨a, rfl, ha⟩ := hopen.open_u64 Tryd.underlying24 (hval 3 _ v3 rfl rfl) h3
  obtain ⟨b, rfl, hb⟩ := hopen.open_u64 Tryd.underlying24 (hval 4 _ v4 rfl rfl) h4
  refine (walk h f g a b W hh hf hg ha hb hL).mono fun e W' ⟨he, hb⟩ => ⟨_, he, ?_⟩
  exact law_post laidOut rfl (by kernel_rfl) Tryd.underlying4 (by kernel_rfl) (fun ds h => by match ds, h with | [_, _, _, _, _], _ => rfl) hW hb

theorem over : Rows.HeadTwiceSaid :=
  OpenClaim.holds_of_wide 7 Tryd.f7 rfl rfl rfl rfl rfl rfl rfl ⟨rfl, rfl, rfl, rfl, rfl⟩ rfl rfl rfl rfl rfl (by kernel_rfl) Tryd.func7 (by kernel_rfl)
    (of_decide_eq_true (by kernel_rfl)) (by unfold Func.isWrapper; first | (rw [if_pos (by decide +kernel)]; kernel_rfl) | (rw [if_neg (by decide +kernel)]; exact ⟨rfl, rfl⟩))
    (fun os started H enc _ => lifted os started H enc)

theorem proved : Rows.HeadTwiceCardSaid :=
  Claim7.holds_tied_plain_at .later [] [.data] true _ false
    over (fun _ h => by cases h) (by kernel_rfl) (fun _ h => by cases h) headTwice_row_tie rfl ⟨rfl, rfl⟩ (by kernel_rfl) rfl
    (fun f fn hf hfn => by
      obtain rfl : f = 7 := Option.some.inj ((show Tryd.prog.funcNamed "carrefour/carrefourlaw04.HeadTwice" = some 7 by kernel_rfl).symm.trans hf) |>.symm
      obtain rfl : fn = Tryd.f7 := (Option.some.inj (Tryd.func7.symm.trans hfn)).symm
      exact ⟨by kernel_rfl, fun j t ht => by
        rw [Tryd.params7] at ht
        match j, ht with
        | 0, ht => obtain rfl := Option.some.inj ht; exact (show Tryd.prog.wantsStandIn 33 = false by kernel_rfl)
        | 1, ht => obtain rfl := Option.some.inj ht; exact (show Tryd.prog.wantsStandIn 22 = false by kernel_rfl)
        | 2, ht => obtain rfl := Option.some.inj ht; exact (show Tryd.prog.wantsStandIn 22 = false by kernel_rfl)
        | 3, ht => obtain rfl := Option.some.inj ht; exact (show Tryd.prog.wantsStandIn 24 = false by kernel_rfl)
        | 4, ht => obtain rfl := Option.some.inj ht; exact (show Tryd.prog.wantsStandIn 24 = false by kernel_rfl)
        | j + 5, ht => simp at ht⟩)
    (by kernel_rfl)
end Go.Proofs.YtedlclgimeafeaaDoor.lawTwice
