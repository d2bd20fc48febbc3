import Derived.Test.YtedlclgimeafeaaDoorHFrame
import Derived.Test.YtedlclgimeafeaaDoorHMac
import Derived.Test.YtedlclgimeafeaaDoorAid
import Derived.Laws.Bits64b
/- Contracts of package head: Width, Full, whole, Get, fits, Check. -/
set_option linter.unusedVariables false
set_option linter.unusedSimpArgs false
namespace Go.Proofs.YtedlclgimeafeaaDoor.head1
open Go.RowKit Go.Proofs.YtedlclgimeafeaaDoor.hmath Go.Proofs.YtedlclgimeafeaaDoor.frame

theorem laid_below {W w1 : World} (hb : Below W.heap.size W w1) (L : Laid W) : Laid w1 := fun i hi => aid.kc hb (L i hi)

set_option maxRecDepth 100000 in
theorem width_any (f : Int) (w : World) (hf : hmath.I64 f) (L : Laid w) : Calls Tryd.prog 8 #[.int .i64 f] w fun e w' => e = .returned (.int .i64 (widthI f)) ∧ w = w' := by
  obtain ⟨hf0, hf1⟩ := hf
  by_cases h0 : f < 0
  · rw [widthI_out (.inl h0)]
    go_enter Tryd.func8, Tryd.ntmps8
    go_wp2_with fail
    go_ret
    exact ⟨rfl, rfl⟩
  · by_cases h9 : 9 ≤ f
    · rw [widthI_out (.inr h9)]
      have h9' : f ≥ 9 := h9
      go_enter Tryd.func8, Tryd.ntmps8
      go_wp2_with fail
      go_ret
      exact ⟨rfl, rfl⟩
    · have c0 : w.cell? ⟨0, 0, none⟩ = some (.int .i64 8) := L 0 (by decide)
      have c1 : w.cell? ⟨0, 1, none⟩ = some (.int .i64 48) := L 1 (by decide)
      have c2 : w.cell? ⟨0, 2, none⟩ = some (.int .i64 48) := L 2 (by decide)
      have c3 : w.cell? ⟨0, 3, none⟩ = some (.int .i64 16) := L 3 (by decide)
      have c4 : w.cell? ⟨0, 4, none⟩ = some (.int .i64 32) := L 4 (by decide)
      have c5 : w.cell? ⟨0, 5, none⟩ = some (.int .i64 32) := L 5 (by decide)
      have c6 : w.cell? ⟨0, 6, none⟩ = some (.int .i64 8) := L 6 (by decide)
      have c7 : w.cell? ⟨0, 7, none⟩ = some (.int .i64 16) := L 7 (by decide)
      have c8 : w.cell? ⟨0, 8, none⟩ = some (.int .i64 16) := L 8 (by decide)
      have LL := Lib.hid L
      clear L
      rcases cases9 (by omega : 0 ≤ f) (by omega) with rfl | rfl | rfl | rfl | rfl | rfl | rfl | rfl | rfl
      all_goals
        go_enter Tryd.func8, Tryd.ntmps8
        go_wp2_with fail
        go_ret
        exact ⟨rfl, rfl⟩

set_option maxRecDepth 100000 in
theorem full_any (f : Int) (w : World) (hf : hmath.I64 f) (L : Laid w) : Calls Tryd.prog 9 #[.int .i64 f] w fun e w' => e = .returned (.int .u64 (fullI f)) ∧ w = w' := by
  have K := Lib.hid (width_any f w hf L)
  by_cases h : f < 0 ∨ 9 ≤ f
  · rw [fullI_out h]
    rw [widthI_out h] at K
    clear h
    go_enter Tryd.func9, Tryd.ntmps9
    go_wp2_with fail
    refine K.out.mono ?_
    rintro e w' ⟨rfl, rfl⟩
    go_wp2_with fail
    go_ret
    exact ⟨rfl, rfl⟩
  · rcases cases9 (by omega : 0 ≤ f) (by omega) with rfl | rfl | rfl | rfl | rfl | rfl | rfl | rfl | rfl
    all_goals
      clear h
      simp only [widthI] at K
      go_enter Tryd.func9, Tryd.ntmps9
      go_wp2_with fail
      refine K.out.mono ?_
      rintro e w' ⟨rfl, rfl⟩
      go_wp2_with fail
      go_ret
      exact ⟨rfl, rfl⟩

theorem and_full (x : Int) (k : Nat) (h0 : 0 ≤ x) (h1 : x < 18446744073709551616) (hk : k < 64) : bits .and .u64 x (2 ^ k - 1) = x % 2 ^ k := by
  obtain ⟨X, rfl⟩ := Int.eq_ofNat_of_zero_le h0
  have hp : 1 ≤ 2 ^ k := Nat.one_le_two_pow
  have hl : 2 ^ k < 2 ^ 64 := Nat.pow_lt_pow_right (by decide) hk
  have e : ((2 : Int) ^ k - 1) = ((2 ^ k - 1 : Nat) : Int) := by
    rw [Int.natCast_sub hp]; simp
  rw [e, bits_and_u64_nat _ _ (by omega) (by omega), Nat.and_two_pow_sub_one_eq_mod]
  simp
theorem and_in (x : Int) (k : Nat) (h0 : 0 ≤ x) (h1 : x < 2 ^ k) (hk : k < 64) : bits .and .u64 x (2 ^ k - 1) = x := by
  have : (2 : Int) ^ k < 2 ^ 64 := by
    have hl : 2 ^ k < 2 ^ 64 := Nat.pow_lt_pow_right (by decide) hk
    exact_mod_cast hl
  rw [and_full x k h0 (by omega) hk, Int.emod_eq_of_lt h0 h1]

/-- a field's number with bits for which it has no room -/
def wholeI (h : Hd) (f : Int) : Int := if f = 0 then IntKind.u64.wrap h.p else if f = 1 then macI h.s else if f = 2 then macI h.d else if f = 3 then IntKind.u64.wrap h.t else if f = 4 then h.si else if f = 5 then h.di else if f = 6 then IntKind.u64.wrap h.pr else if f = 7 then IntKind.u64.wrap h.sp else if f = 8 then IntKind.u64.wrap h.dp else 0
theorem whole_out {h : Hd} {f : Int} (k : f < 0 ∨ 9 ≤ f) : wholeI h f = 0 := by unfold wholeI; repeat (rw [if_neg (by omega)])
theorem wrap_and8 (n : Int) : bits .and .u64 (IntKind.u64.wrap n) 255 = n % 256 := by
  rw [IntKind.wrap_u64, show (255 : Int) = 2 ^ 8 - 1 by decide, and_full _ 8 (Int.emod_nonneg _ (by decide)) (Int.emod_lt_of_pos _ (by decide)) (by decide)]
  omega
theorem wrap_and16 (n : Int) : bits .and .u64 (IntKind.u64.wrap n) 65535 = n % 65536 := by
  rw [IntKind.wrap_u64, show (65535 : Int) = 2 ^ 16 - 1 by decide, and_full _ 16 (Int.emod_nonneg _ (by decide)) (Int.emod_lt_of_pos _ (by decide)) (by decide)]
  omega
theorem whole_and {h : Hd} (k : h.ok) (f : Int) : bits .and .u64 (wholeI h f) (fullI f) = getI h f := by
  by_cases k9 : 0 ≤ f ∧ f < 9
  · rcases cases9 k9.1 k9.2 with rfl | rfl | rfl | rfl | rfl | rfl | rfl | rfl | rfl
    · exact wrap_and8 _
    · exact and_in _ 48 (macI_bd k.s).1 (macI_bd k.s).2 (by decide)
    · exact and_in _ 48 (macI_bd k.d).1 (macI_bd k.d).2 (by decide)
    · exact wrap_and16 _
    · exact and_in _ 32 k.si.1 k.si.2 (by decide)
    · exact and_in _ 32 k.di.1 k.di.2 (by decide)
    · exact wrap_and8 _
    · exact wrap_and16 _
    · exact wrap_and16 _
  · rw [whole_out (by omega), fullI_out (by omega), getI_out (by omega)]
    decide
theorem whole_bd {h : Hd} (k : h.ok) (f : Int) : 0 ≤ wholeI h f ∧ wholeI h f < 18446744073709551616 := by
  have := macI_bd k.s
  have := macI_bd k.d
  have := k.si
  have := k.di
  unfold hmath.U32 at *
  unfold wholeI
  simp only [IntKind.wrap_u64]
  repeat' split
  all_goals omega

set_option maxRecDepth 100000 in
set_option maxHeartbeats 6000000 in
theorem whole_any (h : Hd) (hk : h.ok) (f : Int) (hf : hmath.I64 f) (w : World) : Calls Tryd.prog 15 #[h.val, .int .i64 f] w fun e w' => e = .returned (.int .u64 (wholeI h f)) ∧ Below w.heap.size w w' := by
  have K1 := Lib.hid (fun w => hmac.num_any h.s hk.s w)
  have K2 := Lib.hid (fun w => hmac.num_any h.d hk.d w)
  have B0 : ∀ o w', Below (w.alloc o).heap.size (w.alloc o) w' → Below w.heap.size w w' := fun o w' hb => ((Below.refl w.heap.size w).alloc (Nat.le_refl _) o).trans (hb.mono (by simp))
  have BB := Lib.hid B0
  clear B0
  obtain ⟨hk0, -, -, hk3, hk4, hk5, hk6, hk7, hk8⟩ := hk
  obtain ⟨i0, i1⟩ := hf
  unfold hmath.I64 hmath.U32 at *
  obtain ⟨p, ⟨a0, a1, a2, a3, a4, a5⟩, ⟨d0, d1, d2, d3, d4, d5⟩, t, si, di, pr, sp, dp⟩ := h
  dsimp only at *
  simp only [Hd.val, Hd.cells, Mac.val] at K1 K2 ⊢
  by_cases h9 : f < 0 ∨ 9 ≤ f
  · rw [whole_out h9]
    have e0 : (f == 0) = false := by simp; omega
    have e1 : (f == 1) = false := by simp; omega
    have e2 : (f == 2) = false := by simp; omega
    have e3 : (f == 3) = false := by simp; omega
    have e4 : (f == 4) = false := by simp; omega
    have e5 : (f == 5) = false := by simp; omega
    have e6 : (f == 6) = false := by simp; omega
    have e7 : (f == 7) = false := by simp; omega
    have e8 : (f == 8) = false := by simp; omega
    clear h9
    go_enter Tryd.func15, Tryd.ntmps15
    go_wp2_with fail
    go_ret
    exact ⟨rfl, BB.out _ _ (Below.refl _ _)⟩
  · rcases cases9 (by omega : 0 ≤ f) (by omega) with rfl | rfl | rfl | rfl | rfl | rfl | rfl | rfl | rfl
    all_goals
      simp only [wholeI]
      clear h9
    · go_enter Tryd.func15, Tryd.ntmps15
      go_wp2_with fail
      go_ret
      exact ⟨by simp, BB.out _ _ (Below.refl _ _)⟩
    · go_enter Tryd.func15, Tryd.ntmps15
      go_wp2_with fail
      refine (K1.out _).mono ?_
      rintro e w' ⟨rfl, hb⟩
      have hB := Lib.hid (BB.out _ _ hb)
      clear hb
      go_wp2_with fail
      go_ret
      exact ⟨by simp, hB.out⟩
    · go_enter Tryd.func15, Tryd.ntmps15
      go_wp2_with fail
      refine (K2.out _).mono ?_
      rintro e w' ⟨rfl, hb⟩
      have hB := Lib.hid (BB.out _ _ hb)
      clear hb
      go_wp2_with fail
      go_ret
      exact ⟨by simp, hB.out⟩
    · go_enter Tryd.func15, Tryd.ntmps15
      go_wp2_with fail
      go_ret
      exact ⟨by simp, BB.out _ _ (Below.refl _ _)⟩
    · go_enter Tryd.func15, Tryd.ntmps15
      go_wp2_with fail
      go_ret
      exact ⟨by simp, BB.out _ _ (Below.refl _ _)⟩
    · go_enter Tryd.func15, Tryd.ntmps15
      go_wp2_with fail
      go_ret
      exact ⟨by simp, BB.out _ _ (Below.refl _ _)⟩
    · go_enter Tryd.func15, Tryd.ntmps15
      go_wp2_with fail
      go_ret
      exact ⟨by simp, BB.out _ _ (Below.refl _ _)⟩
    · go_enter Tryd.func15, Tryd.ntmps15
      go_wp2_with fail
      go_ret
      exact ⟨by simp, BB.out _ _ (Below.refl _ _)⟩
    · go_enter Tryd.func15, Tryd.ntmps15
      go_wp2_with fail
      go_ret
      exact ⟨by simp, BB.out _ _ (Below.refl _ _)⟩
end Go.Proofs.YtedlclgimeafeaaDoor.head1
