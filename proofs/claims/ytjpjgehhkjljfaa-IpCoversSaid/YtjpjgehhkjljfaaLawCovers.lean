/- IpCovers: for any two prefixes, in their form or not, the law answers true. No condition. -/
import Derived.Test.YtjpjgehhkjljfaaFrame
import Derived.Test.YtjpjgehhkjljfaaIp2
import Derived.Test.YtjpjgehhkjljfaaRef2
import Derived.Test.YtjpjgehhkjljfaaAid
set_option linter.unusedVariables false
namespace Go.Proofs.Ytjpjgehhkjljfaa.lawCovers
open Go.ChangeShapes Go.WideShapes Go.ChangeAt Go.RowKit Go.Proofs.Ytjpjgehhkjljfaa.frame Go.Proofs.Ytjpjgehhkjljfaa.math1

set_option maxRecDepth 100000 in
set_option maxHeartbeats 1000000 in
theorem walk (a n b m : Int) (w : World) (ha : U32 a) (hn : I64 n) (hb : U32 b) (hm : I64 m) :
    Calls Try.prog 5 #[.agg #[.int .u32 a, .int .i64 n], .agg #[.int .u32 b, .int .i64 m]] w fun e w' => e = .returned (.bool true) ∧ Below w.heap.size w w' := by
  obtain ⟨a0, a1⟩ := ha
  obtain ⟨b0, b1⟩ := hb
  clear hn hm
  have hM : ip1.meetsB a n b m = (coversB a n b m || coversB b m a n) := rfl
  have hM2 : ip1.meetsB b m a n = (coversB b m a n || coversB a n b m) := rfl
  cases hA : coversB a n b m
  all_goals cases hB : coversB b m a n
  all_goals
    rw [hA, hB] at hM hM2
    have HA := Lib.hid hA
    have HB := Lib.hid hB
    have HM := Lib.hid hM
    have HM2 := Lib.hid hM2
    clear hA hB hM hM2
    go_enter Try.func5, Try.ntmps5
    go_wp2_with fail
    refine (ip1.covers_any _ _ _ _ _ (by omega) (by omega) (by omega) (by omega)).mono ?_
    rintro e w1 ⟨rfl, hb1⟩
    rw [show coversB 167772160 8 167837696 16 = true by decide]
    obtain ⟨hc1, _, hs1⟩ := aid.bcell hb1
    have hX := Lib.hid (aid.bnext (((Below.refl w.heap.size w).alloc (Nat.le_refl _) _).alloc (by simp) _) hb1 (by simp; omega))
    simp at hs1
    have hz1 : w.heap.size < w1.heap.size := by omega
    have hz2 : w.heap.size + 1 < w1.heap.size := by omega
    clear hb1
    go_wp2_with fail
    refine (ref1.covers_any _ _ _ _ _ a0 a1 b0 b1).mono ?_
    rintro e w2 ⟨rfl, hb2⟩
    rw [HA.out]
    obtain ⟨hc2, _, hs2⟩ := aid.bcell hb2
    have hX2 := Lib.hid (aid.bnext hX.out hb2 (by omega))
    have hz3 : w.heap.size < w2.heap.size := by omega
    have hz4 : w.heap.size + 1 < w2.heap.size := by omega
    clear hb2 hX
    go_wp2_with fail
    refine (ref1.covers_any _ _ _ _ _ b0 b1 a0 a1).mono ?_
    rintro e w3 ⟨rfl, hb3⟩
    rw [HB.out]
    obtain ⟨hc3, _, hs3⟩ := aid.bcell hb3
    have hX3 := Lib.hid (aid.bnext hX2.out hb3 (by omega))
    have hz5 : w.heap.size < w3.heap.size := by omega
    have hz6 : w.heap.size + 1 < w3.heap.size := by omega
    clear hb3 hX2
    go_wp2_with fail
    refine (ip1.covers_any _ _ _ _ _ a0 a1 b0 b1).mono ?_
    rintro e w4 ⟨rfl, hb4⟩
    rw [HA.out]
    obtain ⟨hc4, _, hs4⟩ := aid.bcell hb4
    have hX4 := Lib.hid (aid.bnext hX3.out hb4 (by omega))
    have hz7 : w.heap.size < w4.heap.size := by omega
    have hz8 : w.heap.size + 1 < w4.heap.size := by omega
    clear hb4 hX3
    go_wp2_with fail
    refine (ip1.covers_any _ _ _ _ _ b0 b1 a0 a1).mono ?_
    rintro e w5 ⟨rfl, hb5⟩
    rw [HB.out]
    obtain ⟨hc5, _, hs5⟩ := aid.bcell hb5
    have hX5 := Lib.hid (aid.bnext hX4.out hb5 (by omega))
    have hz9 : w.heap.size < w5.heap.size := by omega
    have hz10 : w.heap.size + 1 < w5.heap.size := by omega
    clear hb5 hX4
    go_wp2_with fail
    refine (ip1.meets_any _ _ _ _ _ a0 a1 b0 b1).mono ?_
    rintro e w6 ⟨rfl, hb6⟩
    rw [HM.out]
    obtain ⟨hc6, _, hs6⟩ := aid.bcell hb6
    have hX6 := Lib.hid (aid.bnext hX5.out hb6 (by omega))
    have hz11 : w.heap.size < w6.heap.size := by omega
    have hz12 : w.heap.size + 1 < w6.heap.size := by omega
    clear hb6 hX5
    go_wp2_with fail
    refine (ip1.meets_any _ _ _ _ _ b0 b1 a0 a1).mono ?_
    rintro e w7 ⟨rfl, hb7⟩
    rw [HM2.out]
    have hX7 := Lib.hid (aid.bnext hX6.out hb7 (by omega))
    clear hb7
    go_wp2_with fail
    go_ret
    exact ⟨rfl, hX7.out⟩

set_option maxRecDepth 100000 in
theorem lifted (os : Os) (started : os.Started) (H : Type) (enc : TypeId × Value → H) :
    ReturnsInHanded {} Try.checked os 5 .any (Rows.ipCoversSpec.pre6 enc Try.prog Try.f5 Rows.ipCoversRow.domain false) (Rows.ipCoversSpec.post enc Try.prog Try.f5 false true false false) := by
  refine returnsInHanded_of_change (C := Try.checked) own started (by kernel_rfl) Try.func5
    (ChangeSpec.witness6 (enc := enc) (C := Try.checked) false ⟨#[], #[.agg #[.int .u32 0, .int .i64 0], .agg #[.int .u32 0, .int .i64 0]], []⟩ 8 (by kernel_rfl) (by kernel_rfl) (by kernel_rfl) (by kernel_rfl)) ?_
  intro W base args ds gs before hval0 hW hcnd _
  have hval : ∀ (j : Nat) t v, Try.f5.params[j]? = some t → args[j]? = some v → Value.okWide Try.prog W .any base t v := hval0
  obtain ⟨p, q, hA0, _⟩ := id hW
  have hA : DataW.TrodAll enc Try.prog W 0 (fun _ => true) true Try.f5.params.toList args.toList ds p := hA0
  rw [Try.params5] at hA hval
  obtain ⟨v0, vs0, d0, ds0, p0, q0, hargs, rfl, rfl, h0, r0⟩ := trodAll_cons hA
  obtain ⟨v1, vs1, d1, ds1, p1, q1, rfl, rfl, rfl, h1, r1⟩ := trodAll_cons r0
  obtain ⟨rfl, rfl, rfl⟩ := trodAll_nil r1
  obtain rfl : args = #[v0, v1] := by cases args; simp_all
  obtain ⟨a, n, rfl, ha, hn⟩ := open_pfx (hval 0 _ v0 rfl rfl) h0
  obtain ⟨b, m, rfl, hb, hm⟩ := open_pfx (hval 1 _ v1 rfl rfl) h1
  refine (walk a n b m W ha hn hb hm).mono fun e W' ⟨he, hb⟩ => ⟨_, he, ?_⟩
  exact law_post laidOut rfl (by kernel_rfl) Try.underlying4 (by kernel_rfl) (fun ds h => by match ds, h with | [_, _], _ => rfl) hW hb

theorem over : Rows.ipCoversRow.holds Try.pinned (OpenSpec.ofChange Rows.ipCoversSpec) :=
  OpenClaim.holds_of_wide 5 Try.f5 rfl rfl rfl rfl rfl rfl rfl ⟨rfl, rfl, rfl, rfl, rfl⟩ rfl rfl rfl rfl rfl (by kernel_rfl) Try.func5 (by kernel_rfl)
    (of_decide_eq_true (by kernel_rfl)) (by unfold Func.isWrapper; first | (rw [if_pos (by decide +kernel)]; kernel_rfl) | (rw [if_neg (by decide +kernel)]; exact ⟨rfl, rfl⟩))
    (fun os started H enc _ => lifted os started H enc)

theorem proved : Rows.IpCoversSaid := over
end Go.Proofs.Ytjpjgehhkjljfaa.lawCovers
