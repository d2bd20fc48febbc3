/- HeadWiths: for every header, field and number the law answers true. The widths lie as the program's text lays them (the card ties them); no other condition. -/
import Derived.Test.YtedlclgimeafeaaDoorLawWithsA
import Derived.Test.YtedlclgimeafeaaDoorLawWithsB
import Derived.Test.YtedlclgimeafeaaDoorCards
import Derived.SevenTiedAt
set_option linter.unusedVariables false
set_option linter.unusedSimpArgs false
namespace Go.Proofs.YtedlclgimeafeaaDoor.lawWiths
open Go.ChangeShapes Go.WideShapes Go.ChangeAt Go.RowKit Go.Proofs.YtedlclgimeafeaaDoor.frame Go.Proofs.YtedlclgimeafeaaDoor.hmath Go.Proofs.YtedlclgimeafeaaDoor.head1 Go.Proofs.YtedlclgimeafeaaDoor.head2 Go.Proofs.YtedlclgimeafeaaDoor.hrow Go.Proofs.YtedlclgimeafeaaDoor.head3 Go.Proofs.YtedlclgimeafeaaDoor.head5 Go.Proofs.YtedlclgimeafeaaDoor.head6 Go.Proofs.YtedlclgimeafeaaDoor.head7 Go.Proofs.YtedlclgimeafeaaDoor.head8 Go.Proofs.YtedlclgimeafeaaDoor.lawWithsA Go.Proofs.YtedlclgimeafeaaDoor.lawWithsB

theorem walk (h : Hd) (f n : Int) (w : World) (hh : h.ok) (hf : frame.I64 f) (hn : hmath.U64 n) (L : Laid w) :
    Calls Tryd.prog 5 #[h.val, .int .i64 f, .int .u64 n] w fun e w' => e = .returned (.bool true) ∧ Below w.heap.size w w' := by
  have KF := Lib.hid (fun w L => full_any f w hf L)
  have hF := fullI_bd f
  obtain ⟨g, e1, v1, y1, n1⟩ := with_parts h f n
  have KW := Lib.hid (fun w L => with_any h f n hf hn w L)
  rw [v1] at KW
  by_cases f0 : f < 0
  · obtain ⟨hg, he⟩ := n1 (by omega)
    exact bad_lo h g f n _ e1 w KF KW L hg he f0
  by_cases f9 : 9 ≤ f
  · obtain ⟨hg, he⟩ := n1 (by omega)
    exact bad_hi h g f n _ e1 w KF KW L hg he f0 f9
  by_cases hx : fullI f < n
  · obtain ⟨hg, he⟩ := n1 (by omega)
    exact bad_full h g f n _ e1 w KF KW L hg he f0 (by omega) hx
  obtain ⟨rfl, rfl⟩ := y1 ⟨by omega, by omega, by omega⟩
  have gk : (setI h f n).ok := setI_ok hh hn.1 (by omega)
  have hv := getI_bd hh f
  have KGg := Lib.hid (fun w L => get_any (setI h f n) gk f hf w L)
  rw [get_set (by omega) (by omega) hn.1 (by omega)] at KGg
  have KGh := Lib.hid (fun w L => get_any h hh f hf w L)
  have KNh := Lib.hid (fun w => nums_any h hh w)
  have KNg := Lib.hid (fun w => nums_any (setI h f n) gk w)
  obtain ⟨b, e2, v2, y2, -⟩ := with_parts (setI h f n) f (getI h f)
  have KB := Lib.hid (fun w L => with_any (setI h f n) f (getI h f) hf ⟨hv.1, by omega⟩ w L)
  rw [v2] at KB
  obtain ⟨rfl, rfl⟩ := y2 ⟨by omega, by omega, hv.2⟩
  have KC := Lib.hid (fun w L => check_any h hh w L)
  exact good h _ _ f n _ _ _ w KF KW KGg KGh KNh KNg KB KC (fun hc => set_back hh (by
    unfold checkI at hc
    by_cases hb : checkB h = true
    · exact hb
    · rw [if_neg hb] at hc; omega)) (fun k hk => get_set_ne hk) L f0 (by omega) (by omega)

set_option maxRecDepth 100000 in
theorem lifted (os : Os) (started : os.Started) (H : Type) (enc : TypeId × Value → H) :
    ReturnsInHanded {} Tryd.checked os 5 .any (fun w args => (Rows.headWithsSpec.pre enc Tryd.prog Tryd.f5 [] false w args ∧ laidMetH Tryd.prog frame.laid w) ∧ sizedMet enc Tryd.prog Tryd.f5 (OpenSpec.ofChange Rows.headWithsSpec) false w args)
      (Rows.headWithsSpec.post enc Tryd.prog Tryd.f5 false true false false) := by
  refine returnsInHanded_of_change_and (C := Tryd.checked) (X := fun w _ => laidMetH Tryd.prog frame.laid w) (fun _ _ _ hh h => h.of_heap hh) own started (by kernel_rfl) Tryd.func5
    (ChangeSpec.witness_shaped (enc := enc) (C := Tryd.checked) (os := os) (X := fun w _ => laidMetH Tryd.prog frame.laid w) false (World.doorLaid Tryd.prog 400 os) #[.agg #[.int .i64 0, .int .u8 0, .int .u8 0, .int .u8 0, .int .u8 0, .int .u8 0, .int .u8 0, .int .u8 0, .int .u8 0, .int .u8 0, .int .u8 0, .int .u8 0, .int .u8 0, .int .i64 0, .int .u32 0, .int .u32 0, .int .i64 0, .int .i64 0, .int .i64 0], .int .i64 0, .int .u64 0] 8 rfl (World.shaped_of_RefB (by kernel_rfl) (by kernel_rfl)) (by kernel_rfl) (by kernel_rfl) (by kernel_rfl) (frame.door_met os _)) ?_
  intro W base args ds gs before hval0 hW _ _ hL0 _
  have hL := frame.of_laid hL0
  have hval : ∀ (j : Nat) t v, Tryd.f5.params[j]? = some t → args[j]? = some v → Value.okWide Tryd.prog W .any base t v := hval0
  obtain ⟨p, q, hA0, _⟩ := id hW
  have hA : DataW.TrodAll enc Tryd.prog W 0 (fun _ => true) true Tryd.f5.params.toList args.toList ds p := hA0
  rw [Tryd.params5] at hA hval
  obtain ⟨v0, vs0, d0, ds0, p0, q0, hargs, rfl, rfl, h0, r0⟩ := trodAll_cons hA
  obtain ⟨v1, vs1, d1, ds1, p1, q1, rfl, rfl, rfl, h1, r1⟩ := trodAll_cons r0
  obtain ⟨v2, vs2, d2, ds2, p2, q2, rfl, rfl, rfl, h2, r2⟩ := trodAll_cons r1
  obtain ⟨rfl, rfl, rfl⟩ := trodAll_nil r2
  obtain rfl : args = #[v0, v1, v2] := by cases args; simp_all
  obtain ⟨h, rfl, hh⟩ := open_hdr (hval 0 _ v0 rfl rfl) h0
  obtain ⟨f, rfl, hf⟩ := open_i64 Tryd.underlying22 (hval 1 _ v1 rfl rfl) h1
  obtain ⟨n, rfl, hn⟩ := hopen.open_u64 Tryd.underlying24 (hval 2 _ v2 rfl rfl) h2
  refine (walk h f n W hh hf hn hL).mono fun e W' ⟨he, hb⟩ => ⟨_, he, ?_⟩
  exact law_post laidOut rfl (by kernel_rfl) Tryd.underlying4 (by kernel_rfl) (fun ds h => by match ds, h with | [_, _, _], _ => rfl) hW hb

theorem over : Rows.HeadWithsSaid :=
  OpenClaim.holds_of_wide 5 Tryd.f5 rfl rfl rfl rfl rfl rfl rfl ⟨rfl, rfl, rfl, rfl, rfl⟩ rfl rfl rfl rfl rfl (by kernel_rfl) Tryd.func5 (by kernel_rfl)
    (of_decide_eq_true (by kernel_rfl)) (by unfold Func.isWrapper; first | (rw [if_pos (by decide +kernel)]; kernel_rfl) | (rw [if_neg (by decide +kernel)]; exact ⟨rfl, rfl⟩))
    (fun os started H enc _ => lifted os started H enc)

theorem proved : Rows.HeadWithsCardSaid :=
  Claim7.holds_tied_plain_at .later [] [.data] true _ false
    over (fun _ h => by cases h) (by kernel_rfl) (fun _ h => by cases h) headWiths_row_tie rfl ⟨rfl, rfl⟩ (by kernel_rfl) rfl
    (fun f fn hf hfn => by
      obtain rfl : f = 5 := Option.some.inj ((show Tryd.prog.funcNamed "carrefour/carrefourlaw04.HeadWiths" = some 5 by kernel_rfl).symm.trans hf) |>.symm
      obtain rfl : fn = Tryd.f5 := (Option.some.inj (Tryd.func5.symm.trans hfn)).symm
      exact ⟨by kernel_rfl, fun j t ht => by
        rw [Tryd.params5] at ht
        match j, ht with
        | 0, ht => obtain rfl := Option.some.inj ht; exact (show Tryd.prog.wantsStandIn 33 = false by kernel_rfl)
        | 1, ht => obtain rfl := Option.some.inj ht; exact (show Tryd.prog.wantsStandIn 22 = false by kernel_rfl)
        | 2, ht => obtain rfl := Option.some.inj ht; exact (show Tryd.prog.wantsStandIn 24 = false by kernel_rfl)
        | j + 3, ht => simp at ht⟩)
    (by kernel_rfl)
end Go.Proofs.YtedlclgimeafeaaDoor.lawWiths
