/- HeadWidths: for every field the law answers true. The widths lie as the program's text lays them (the card ties them); no other condition. -/
import Derived.Test.YtedlclgimeafeaaDoorHFrame
import Derived.Test.YtedlclgimeafeaaDoorHead1
import Derived.Test.YtedlclgimeafeaaDoorCards
import Derived.SevenTiedAt
set_option linter.unusedVariables false
set_option linter.unusedSimpArgs false
namespace Go.Proofs.YtedlclgimeafeaaDoor.lawWidths
open Go.ChangeShapes Go.WideShapes Go.ChangeAt Go.RowKit Go.Proofs.YtedlclgimeafeaaDoor.frame Go.Proofs.YtedlclgimeafeaaDoor.hmath

def ones (k : Nat) : Int := 2 ^ k - 1
theorem ones_succ (k : Nat) : ones (k + 1) = 2 * ones k + 1 := by unfold ones; rw [Int.pow_succ]; omega
theorem ones_bd : ∀ k, k ≤ 48 → 0 ≤ ones k ∧ ones k ≤ 281474976710655 := by
  have : ∀ k, k < 49 → 0 ≤ ones k ∧ ones k ≤ 281474976710655 := by decide +kernel
  exact fun k hk => this k (by omega)

set_option maxRecDepth 100000 in
set_option maxHeartbeats 2000000 in
theorem walk (f : Int) (w : World) (hf : frame.I64 f) (L : Laid w) :
    Calls Tryd.prog 3 #[.int .i64 f] w fun e w' => e = .returned (.bool true) ∧ Below w.heap.size w w' := by
  have K1 := fun w L => Lib.hid (head1.width_any 1 w (by unfold hmath.I64; omega) L)
  have K2 := fun w L => Lib.hid (head1.full_any 0 w (by unfold hmath.I64; omega) L)
  have K3 := fun w L => Lib.hid (head1.width_any f w hf L)
  have K4 := fun w L => Lib.hid (head1.full_any f w hf L)
  simp only [show widthI 1 = 48 by decide, show fullI 0 = 255 by decide] at K1 K2
  have B : ∀ o, Below w.heap.size w (w.alloc o) := fun o => (Below.refl _ _).alloc (Nat.le_refl _) _
  have LA : ∀ o, Laid (w.alloc o) := fun o => head1.laid_below (B o) L
  have k1 := K1 w L
  have k2 := K2 w L
  have k3 := fun o => K3 _ (LA o)
  have k4 := fun o => K4 _ (LA o)
  have hB := Lib.hid B
  clear K1 K2 K3 K4 LA B L
  obtain ⟨hf0, hf1⟩ := hf
  by_cases h : f < 0 ∨ 9 ≤ f
  · rw [widthI_out h] at k3
    rw [fullI_out h] at k4
    rcases h with h | h
    all_goals
      have h' : ¬ (0 ≤ f ∧ f < 9) := by omega
      go_enter Tryd.func3, Tryd.ntmps3
      go_wp2_with fail
      refine k1.out.mono ?_
      rintro e w' ⟨rfl, rfl⟩
      go_wp2_with fail
      refine k2.out.mono ?_
      rintro e w' ⟨rfl, rfl⟩
      go_wp2_with fail
      go_rounds 1
      go_ret
      exact ⟨rfl, hB.out _⟩
  · rcases cases9 (by omega : 0 ≤ f) (by omega) with rfl | rfl | rfl | rfl | rfl | rfl | rfl | rfl | rfl
    · simp only [show widthI 0 = 8 by decide, show fullI 0 = 255 by decide] at k3 k4
      clear h hf0 hf1
      go_enter Tryd.func3, Tryd.ntmps3
      go_wp2_with fail
      refine k1.out.mono ?_
      rintro e w' ⟨rfl, rfl⟩
      go_wp2_with fail
      refine k2.out.mono ?_
      rintro e w' ⟨rfl, rfl⟩
      go_wp2_with fail
      go_loop [5, 6] (fun x i => ∃ k : Nat, k ≤ 8 ∧ i = .int .i64 k ∧ x = .int .u64 (ones k)) (fun _ i => 8 - (intOf i).toNat)
      case atStart => exact ⟨0, by omega, rfl, rfl⟩
      case round =>
        obtain ⟨k, hk, rfl, rfl⟩ := hrel
        by_cases hlt : k < 8
        · obtain ⟨b0, b1⟩ := ones_bd k (by omega)
          obtain ⟨b2, b3⟩ := ones_bd (k + 1) (by omega)
          have e1 := Lib.hid (ones_succ k)
          obtain ⟨q, hq⟩ : ∃ q, q = ones k := ⟨_, rfl⟩
          rw [← hq] at b0 b1 e1 ⊢
          rw [e1.out] at b2 b3
          clear hq
          go_wp2_with fail
          go_round
          case rel => exact ⟨k + 1, by omega, by go_num, by rw [e1.out]⟩
          case measure => simp [intOf]; omega
        · have hk' : k = 8 := by omega
          subst hk'
          rw [show ones 8 = 255 by decide]
          go_wp2_with fail
          refine (k3 _).out.mono ?_
          rintro e w' ⟨rfl, rfl⟩
          go_wp2_with fail
          refine (k4 _).out.mono ?_
          rintro e w' ⟨rfl, rfl⟩
          go_wp2_with fail
          go_ret
          exact ⟨rfl, hB.out _⟩
    · simp only [show widthI 1 = 48 by decide, show fullI 1 = 281474976710655 by decide] at k3 k4
      clear h hf0 hf1
      go_enter Tryd.func3, Tryd.ntmps3
      go_wp2_with fail
      refine k1.out.mono ?_
      rintro e w' ⟨rfl, rfl⟩
      go_wp2_with fail
      refine k2.out.mono ?_
      rintro e w' ⟨rfl, rfl⟩
      go_wp2_with fail
      go_loop [5, 6] (fun x i => ∃ k : Nat, k ≤ 48 ∧ i = .int .i64 k ∧ x = .int .u64 (ones k)) (fun _ i => 48 - (intOf i).toNat)
      case atStart => exact ⟨0, by omega, rfl, rfl⟩
      case round =>
        obtain ⟨k, hk, rfl, rfl⟩ := hrel
        by_cases hlt : k < 48
        · obtain ⟨b0, b1⟩ := ones_bd k (by omega)
          obtain ⟨b2, b3⟩ := ones_bd (k + 1) (by omega)
          have e1 := Lib.hid (ones_succ k)
          obtain ⟨q, hq⟩ : ∃ q, q = ones k := ⟨_, rfl⟩
          rw [← hq] at b0 b1 e1 ⊢
          rw [e1.out] at b2 b3
          clear hq
          go_wp2_with fail
          go_round
          case rel => exact ⟨k + 1, by omega, by go_num, by rw [e1.out]⟩
          case measure => simp [intOf]; omega
        · have hk' : k = 48 := by omega
          subst hk'
          rw [show ones 48 = 281474976710655 by decide]
          go_wp2_with fail
          refine (k3 _).out.mono ?_
          rintro e w' ⟨rfl, rfl⟩
          go_wp2_with fail
          refine (k4 _).out.mono ?_
          rintro e w' ⟨rfl, rfl⟩
          go_wp2_with fail
          go_ret
          exact ⟨rfl, hB.out _⟩
    · simp only [show widthI 2 = 48 by decide, show fullI 2 = 281474976710655 by decide] at k3 k4
      clear h hf0 hf1
      go_enter Tryd.func3, Tryd.ntmps3
      go_wp2_with fail
      refine k1.out.mono ?_
      rintro e w' ⟨rfl, rfl⟩
      go_wp2_with fail
      refine k2.out.mono ?_
      rintro e w' ⟨rfl, rfl⟩
      go_wp2_with fail
      go_loop [5, 6] (fun x i => ∃ k : Nat, k ≤ 48 ∧ i = .int .i64 k ∧ x = .int .u64 (ones k)) (fun _ i => 48 - (intOf i).toNat)
      case atStart => exact ⟨0, by omega, rfl, rfl⟩
      case round =>
        obtain ⟨k, hk, rfl, rfl⟩ := hrel
        by_cases hlt : k < 48
        · obtain ⟨b0, b1⟩ := ones_bd k (by omega)
          obtain ⟨b2, b3⟩ := ones_bd (k + 1) (by omega)
          have e1 := Lib.hid (ones_succ k)
          obtain ⟨q, hq⟩ : ∃ q, q = ones k := ⟨_, rfl⟩
          rw [← hq] at b0 b1 e1 ⊢
          rw [e1.out] at b2 b3
          clear hq
          go_wp2_with fail
          go_round
          case rel => exact ⟨k + 1, by omega, by go_num, by rw [e1.out]⟩
          case measure => simp [intOf]; omega
        · have hk' : k = 48 := by omega
          subst hk'
          rw [show ones 48 = 281474976710655 by decide]
          go_wp2_with fail
          refine (k3 _).out.mono ?_
          rintro e w' ⟨rfl, rfl⟩
          go_wp2_with fail
          refine (k4 _).out.mono ?_
          rintro e w' ⟨rfl, rfl⟩
          go_wp2_with fail
          go_ret
          exact ⟨rfl, hB.out _⟩
    · simp only [show widthI 3 = 16 by decide, show fullI 3 = 65535 by decide] at k3 k4
      clear h hf0 hf1
      go_enter Tryd.func3, Tryd.ntmps3
      go_wp2_with fail
      refine k1.out.mono ?_
      rintro e w' ⟨rfl, rfl⟩
      go_wp2_with fail
      refine k2.out.mono ?_
      rintro e w' ⟨rfl, rfl⟩
      go_wp2_with fail
      go_loop [5, 6] (fun x i => ∃ k : Nat, k ≤ 16 ∧ i = .int .i64 k ∧ x = .int .u64 (ones k)) (fun _ i => 16 - (intOf i).toNat)
      case atStart => exact ⟨0, by omega, rfl, rfl⟩
      case round =>
        obtain ⟨k, hk, rfl, rfl⟩ := hrel
        by_cases hlt : k < 16
        · obtain ⟨b0, b1⟩ := ones_bd k (by omega)
          obtain ⟨b2, b3⟩ := ones_bd (k + 1) (by omega)
          have e1 := Lib.hid (ones_succ k)
          obtain ⟨q, hq⟩ : ∃ q, q = ones k := ⟨_, rfl⟩
          rw [← hq] at b0 b1 e1 ⊢
          rw [e1.out] at b2 b3
          clear hq
          go_wp2_with fail
          go_round
          case rel => exact ⟨k + 1, by omega, by go_num, by rw [e1.out]⟩
          case measure => simp [intOf]; omega
        · have hk' : k = 16 := by omega
          subst hk'
          rw [show ones 16 = 65535 by decide]
          go_wp2_with fail
          refine (k3 _).out.mono ?_
          rintro e w' ⟨rfl, rfl⟩
          go_wp2_with fail
          refine (k4 _).out.mono ?_
          rintro e w' ⟨rfl, rfl⟩
          go_wp2_with fail
          go_ret
          exact ⟨rfl, hB.out _⟩
    · simp only [show widthI 4 = 32 by decide, show fullI 4 = 4294967295 by decide] at k3 k4
      clear h hf0 hf1
      go_enter Tryd.func3, Tryd.ntmps3
      go_wp2_with fail
      refine k1.out.mono ?_
      rintro e w' ⟨rfl, rfl⟩
      go_wp2_with fail
      refine k2.out.mono ?_
      rintro e w' ⟨rfl, rfl⟩
      go_wp2_with fail
      go_loop [5, 6] (fun x i => ∃ k : Nat, k ≤ 32 ∧ i = .int .i64 k ∧ x = .int .u64 (ones k)) (fun _ i => 32 - (intOf i).toNat)
      case atStart => exact ⟨0, by omega, rfl, rfl⟩
      case round =>
        obtain ⟨k, hk, rfl, rfl⟩ := hrel
        by_cases hlt : k < 32
        · obtain ⟨b0, b1⟩ := ones_bd k (by omega)
          obtain ⟨b2, b3⟩ := ones_bd (k + 1) (by omega)
          have e1 := Lib.hid (ones_succ k)
          obtain ⟨q, hq⟩ : ∃ q, q = ones k := ⟨_, rfl⟩
          rw [← hq] at b0 b1 e1 ⊢
          rw [e1.out] at b2 b3
          clear hq
          go_wp2_with fail
          go_round
          case rel => exact ⟨k + 1, by omega, by go_num, by rw [e1.out]⟩
          case measure => simp [intOf]; omega
        · have hk' : k = 32 := by omega
          subst hk'
          rw [show ones 32 = 4294967295 by decide]
          go_wp2_with fail
          refine (k3 _).out.mono ?_
          rintro e w' ⟨rfl, rfl⟩
          go_wp2_with fail
          refine (k4 _).out.mono ?_
          rintro e w' ⟨rfl, rfl⟩
          go_wp2_with fail
          go_ret
          exact ⟨rfl, hB.out _⟩
    · simp only [show widthI 5 = 32 by decide, show fullI 5 = 4294967295 by decide] at k3 k4
      clear h hf0 hf1
      go_enter Tryd.func3, Tryd.ntmps3
      go_wp2_with fail
      refine k1.out.mono ?_
      rintro e w' ⟨rfl, rfl⟩
      go_wp2_with fail
      refine k2.out.mono ?_
      rintro e w' ⟨rfl, rfl⟩
      go_wp2_with fail
      go_loop [5, 6] (fun x i => ∃ k : Nat, k ≤ 32 ∧ i = .int .i64 k ∧ x = .int .u64 (ones k)) (fun _ i => 32 - (intOf i).toNat)
      case atStart => exact ⟨0, by omega, rfl, rfl⟩
      case round =>
        obtain ⟨k, hk, rfl, rfl⟩ := hrel
        by_cases hlt : k < 32
        · obtain ⟨b0, b1⟩ := ones_bd k (by omega)
          obtain ⟨b2, b3⟩ := ones_bd (k + 1) (by omega)
          have e1 := Lib.hid (ones_succ k)
          obtain ⟨q, hq⟩ : ∃ q, q = ones k := ⟨_, rfl⟩
          rw [← hq] at b0 b1 e1 ⊢
          rw [e1.out] at b2 b3
          clear hq
          go_wp2_with fail
          go_round
          case rel => exact ⟨k + 1, by omega, by go_num, by rw [e1.out]⟩
          case measure => simp [intOf]; omega
        · have hk' : k = 32 := by omega
          subst hk'
          rw [show ones 32 = 4294967295 by decide]
          go_wp2_with fail
          refine (k3 _).out.mono ?_
          rintro e w' ⟨rfl, rfl⟩
          go_wp2_with fail
          refine (k4 _).out.mono ?_
          rintro e w' ⟨rfl, rfl⟩
          go_wp2_with fail
          go_ret
          exact ⟨rfl, hB.out _⟩
    · simp only [show widthI 6 = 8 by decide, show fullI 6 = 255 by decide] at k3 k4
      clear h hf0 hf1
      go_enter Tryd.func3, Tryd.ntmps3
      go_wp2_with fail
      refine k1.out.mono ?_
      rintro e w' ⟨rfl, rfl⟩
      go_wp2_with fail
      refine k2.out.mono ?_
      rintro e w' ⟨rfl, rfl⟩
      go_wp2_with fail
      go_loop [5, 6] (fun x i => ∃ k : Nat, k ≤ 8 ∧ i = .int .i64 k ∧ x = .int .u64 (ones k)) (fun _ i => 8 - (intOf i).toNat)
      case atStart => exact ⟨0, by omega, rfl, rfl⟩
      case round =>
        obtain ⟨k, hk, rfl, rfl⟩ := hrel
        by_cases hlt : k < 8
        · obtain ⟨b0, b1⟩ := ones_bd k (by omega)
          obtain ⟨b2, b3⟩ := ones_bd (k + 1) (by omega)
          have e1 := Lib.hid (ones_succ k)
          obtain ⟨q, hq⟩ : ∃ q, q = ones k := ⟨_, rfl⟩
          rw [← hq] at b0 b1 e1 ⊢
          rw [e1.out] at b2 b3
          clear hq
          go_wp2_with fail
          go_round
          case rel => exact ⟨k + 1, by omega, by go_num, by rw [e1.out]⟩
          case measure => simp [intOf]; omega
        · have hk' : k = 8 := by omega
          subst hk'
          rw [show ones 8 = 255 by decide]
          go_wp2_with fail
          refine (k3 _).out.mono ?_
          rintro e w' ⟨rfl, rfl⟩
          go_wp2_with fail
          refine (k4 _).out.mono ?_
          rintro e w' ⟨rfl, rfl⟩
          go_wp2_with fail
          go_ret
          exact ⟨rfl, hB.out _⟩
    · simp only [show widthI 7 = 16 by decide, show fullI 7 = 65535 by decide] at k3 k4
      clear h hf0 hf1
      go_enter Tryd.func3, Tryd.ntmps3
      go_wp2_with fail
      refine k1.out.mono ?_
      rintro e w' ⟨rfl, rfl⟩
      go_wp2_with fail
      refine k2.out.mono ?_
      rintro e w' ⟨rfl, rfl⟩
      go_wp2_with fail
      go_loop [5, 6] (fun x i => ∃ k : Nat, k ≤ 16 ∧ i = .int .i64 k ∧ x = .int .u64 (ones k)) (fun _ i => 16 - (intOf i).toNat)
      case atStart => exact ⟨0, by omega, rfl, rfl⟩
      case round =>
        obtain ⟨k, hk, rfl, rfl⟩ := hrel
        by_cases hlt : k < 16
        · obtain ⟨b0, b1⟩ := ones_bd k (by omega)
          obtain ⟨b2, b3⟩ := ones_bd (k + 1) (by omega)
          have e1 := Lib.hid (ones_succ k)
          obtain ⟨q, hq⟩ : ∃ q, q = ones k := ⟨_, rfl⟩
          rw [← hq] at b0 b1 e1 ⊢
          rw [e1.out] at b2 b3
          clear hq
          go_wp2_with fail
          go_round
          case rel => exact ⟨k + 1, by omega, by go_num, by rw [e1.out]⟩
          case measure => simp [intOf]; omega
        · have hk' : k = 16 := by omega
          subst hk'
          rw [show ones 16 = 65535 by decide]
          go_wp2_with fail
          refine (k3 _).out.mono ?_
          rintro e w' ⟨rfl, rfl⟩
          go_wp2_with fail
          refine (k4 _).out.mono ?_
          rintro e w' ⟨rfl, rfl⟩
          go_wp2_with fail
          go_ret
          exact ⟨rfl, hB.out _⟩
    · simp only [show widthI 8 = 16 by decide, show fullI 8 = 65535 by decide] at k3 k4
      clear h hf0 hf1
      go_enter Tryd.func3, Tryd.ntmps3
      go_wp2_with fail
      refine k1.out.mono ?_
      rintro e w' ⟨rfl, rfl⟩
      go_wp2_with fail
      refine k2.out.mono ?_
      rintro e w' ⟨rfl, rfl⟩
      go_wp2_with fail
      go_loop [5, 6] (fun x i => ∃ k : Nat, k ≤ 16 ∧ i = .int .i64 k ∧ x = .int .u64 (ones k)) (fun _ i => 16 - (intOf i).toNat)
      case atStart => exact ⟨0, by omega, rfl, rfl⟩
      case round =>
        obtain ⟨k, hk, rfl, rfl⟩ := hrel
        by_cases hlt : k < 16
        · obtain ⟨b0, b1⟩ := ones_bd k (by omega)
          obtain ⟨b2, b3⟩ := ones_bd (k + 1) (by omega)
          have e1 := Lib.hid (ones_succ k)
          obtain ⟨q, hq⟩ : ∃ q, q = ones k := ⟨_, rfl⟩
          rw [← hq] at b0 b1 e1 ⊢
          rw [e1.out] at b2 b3
          clear hq
          go_wp2_with fail
          go_round
          case rel => exact ⟨k + 1, by omega, by go_num, by rw [e1.out]⟩
          case measure => simp [intOf]; omega
        · have hk' : k = 16 := by omega
          subst hk'
          rw [show ones 16 = 65535 by decide]
          go_wp2_with fail
          refine (k3 _).out.mono ?_
          rintro e w' ⟨rfl, rfl⟩
          go_wp2_with fail
          refine (k4 _).out.mono ?_
          rintro e w' ⟨rfl, rfl⟩
          go_wp2_with fail
          go_ret
          exact ⟨rfl, hB.out _⟩

set_option maxRecDepth 100000 in
theorem lifted (os : Os) (started : os.Started) (H : Type) (enc : TypeId × Value → H) :
    ReturnsInHanded {} Tryd.checked os 3 .any (fun w args => (Rows.headWidthsSpec.pre enc Tryd.prog Tryd.f3 [] false w args ∧ laidMetH Tryd.prog frame.laid w) ∧ sizedMet enc Tryd.prog Tryd.f3 (OpenSpec.ofChange Rows.headWidthsSpec) false w args)
      (Rows.headWidthsSpec.post enc Tryd.prog Tryd.f3 false true false false) := by
  refine returnsInHanded_of_change_and (C := Tryd.checked) (X := fun w _ => laidMetH Tryd.prog frame.laid w) (fun _ _ _ hh h => h.of_heap hh) own started (by kernel_rfl) Tryd.func3
    (ChangeSpec.witness_shaped (enc := enc) (C := Tryd.checked) (os := os) (X := fun w _ => laidMetH Tryd.prog frame.laid w) false (World.doorLaid Tryd.prog 400 os) #[.int .i64 0] 8 rfl (World.shaped_of_RefB (by kernel_rfl) (by kernel_rfl)) (by kernel_rfl) (by kernel_rfl) (by kernel_rfl) (frame.door_met os _)) ?_
  intro W base args ds gs before hval0 hW _ _ hL0 _
  have hL := frame.of_laid hL0
  have hval : ∀ (j : Nat) t v, Tryd.f3.params[j]? = some t → args[j]? = some v → Value.okWide Tryd.prog W .any base t v := hval0
  obtain ⟨p, q, hA0, _⟩ := id hW
  have hA : DataW.TrodAll enc Tryd.prog W 0 (fun _ => true) true Tryd.f3.params.toList args.toList ds p := hA0
  rw [Tryd.params3] at hA hval
  obtain ⟨v0, vs0, d0, ds0, p0, q0, hargs, rfl, rfl, h0, r0⟩ := trodAll_cons hA
  obtain ⟨rfl, rfl, rfl⟩ := trodAll_nil r0
  obtain rfl : args = #[v0] := by cases args; simp_all
  obtain ⟨f, rfl, hf⟩ := open_i64 Tryd.underlying22 (hval 0 _ v0 rfl rfl) h0
  refine (walk f W hf hL).mono fun e W' ⟨he, hb⟩ => ⟨_, he, ?_⟩
  exact law_post laidOut rfl (by kernel_rfl) Tryd.underlying4 (by kernel_rfl) (fun ds h => by match ds, h with | [_], _ => rfl) hW hb

theorem over : Rows.HeadWidthsSaid :=
  OpenClaim.holds_of_wide 3 Tryd.f3 rfl rfl rfl rfl rfl rfl rfl ⟨rfl, rfl, rfl, rfl, rfl⟩ rfl rfl rfl rfl rfl (by kernel_rfl) Tryd.func3 (by kernel_rfl)
    (of_decide_eq_true (by kernel_rfl)) (by unfold Func.isWrapper; first | (rw [if_pos (by decide +kernel)]; kernel_rfl) | (rw [if_neg (by decide +kernel)]; exact ⟨rfl, rfl⟩))
    (fun os started H enc _ => lifted os started H enc)

theorem proved : Rows.HeadWidthsCardSaid :=
  Claim7.holds_tied_plain_at .later [] [.data] true _ false
    over (fun _ h => by cases h) (by kernel_rfl) (fun _ h => by cases h) headWidths_row_tie rfl ⟨rfl, rfl⟩ (by kernel_rfl) rfl
    (fun f fn hf hfn => by
      obtain rfl : f = 3 := Option.some.inj ((show Tryd.prog.funcNamed "carrefour/carrefourlaw04.HeadWidths" = some 3 by kernel_rfl).symm.trans hf) |>.symm
      obtain rfl : fn = Tryd.f3 := (Option.some.inj (Tryd.func3.symm.trans hfn)).symm
      exact ⟨by kernel_rfl, fun j t ht => by
        rw [Tryd.params3] at ht
        match j, ht with
        | 0, ht => obtain rfl := Option.some.inj ht; exact (show Tryd.prog.wantsStandIn 22 = false by kernel_rfl)
        | j + 1, ht => simp at ht⟩)
    (by kernel_rfl)
end Go.Proofs.YtedlclgimeafeaaDoor.lawWidths
