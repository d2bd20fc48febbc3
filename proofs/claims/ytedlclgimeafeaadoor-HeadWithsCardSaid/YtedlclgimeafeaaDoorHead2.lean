import Derived.Test.YtedlclgimeafeaaDoorHRow
/- Contracts of package head: Get, fits, Check. -/
set_option linter.unusedVariables false
set_option linter.unusedSimpArgs false
namespace Go.Proofs.YtedlclgimeafeaaDoor.head2
open Go.RowKit Go.Proofs.YtedlclgimeafeaaDoor.hmath Go.Proofs.YtedlclgimeafeaaDoor.frame Go.Proofs.YtedlclgimeafeaaDoor.head1

set_option maxRecDepth 100000 in
set_option maxHeartbeats 4000000 in
theorem get_walk (h : Hd) (f x y z : Int) (w : World) (k1 : ∀ w, Hid (Calls Tryd.prog 15 #[h.val, .int .i64 f] w fun e w' => e = .returned (.int .u64 x) ∧ Below w.heap.size w w'))
    (k2 : ∀ w, Laid w → Hid (Calls Tryd.prog 9 #[.int .i64 f] w fun e w' => e = .returned (.int .u64 y) ∧ w = w')) (hA : Hid (bits .and .u64 x y = z)) (LL : Hid (Laid w)) :
    Calls Tryd.prog 10 #[h.val, .int .i64 f] w fun e w' => e = .returned (.int .u64 z) ∧ Below w.heap.size w w' := by
  have BB := Lib.hid (show ∀ o w', Below (w.alloc o).heap.size (w.alloc o) w' → Below w.heap.size w w' from fun o w' hb => ((Below.refl w.heap.size w).alloc (Nat.le_refl _) o).trans (hb.mono (by simp)))
  simp only [Hd.val] at k1 ⊢
  have K1 := Lib.hid k1
  have K2 := Lib.hid k2
  clear k1 k2
  have hz := hrow.size_hdr h
  obtain ⟨cs, hcs⟩ : ∃ cs, cs = h.cells := ⟨_, rfl⟩
  rw [← hcs] at hz K1 ⊢
  clear hcs
  have hR := Lib.hid (hrow.alloc_row w cs 33)
  have hZ := Lib.hid hz
  clear hz
  go_enter Tryd.func10, Tryd.ntmps10
  go_wp2_with (refine hrow.wp_load_hdr rfl (.tmp 2) rfl w.heap.size rfl cs hZ.out hR.out ?_)
  refine (K1.out _).out.mono ?_
  rintro e w1 ⟨rfl, hb⟩
  have hB := Lib.hid (BB.out _ _ hb)
  clear hb
  go_wp2_with fail
  refine (K2.out _ (laid_below hB.out LL.out)).out.mono ?_
  rintro e w' ⟨rfl, rfl⟩
  go_wp2_with fail
  rw [hA.out]
  go_ret
  exact ⟨rfl, hB.out⟩

theorem get_any (h : Hd) (hk : h.ok) (f : Int) (hf : hmath.I64 f) (w : World) (L : Laid w) : Calls Tryd.prog 10 #[h.val, .int .i64 f] w fun e w' => e = .returned (.int .u64 (getI h f)) ∧ Below w.heap.size w w' := by
  have K1 := fun w => whole_any h hk f hf w
  have K2 := fun w L => full_any f w hf L
  have hA := whole_and hk f
  obtain ⟨x, hx⟩ : ∃ x, x = wholeI h f := ⟨_, rfl⟩
  obtain ⟨y, hy⟩ : ∃ y, y = fullI f := ⟨_, rfl⟩
  obtain ⟨z, hz⟩ : ∃ z, z = getI h f := ⟨_, rfl⟩
  rw [← hx, ← hy, ← hz] at hA
  rw [← hx] at K1
  rw [← hy] at K2
  rw [← hz]
  clear hx hy hz
  exact get_walk h f x y z w (fun w => Lib.hid (K1 w)) (fun w L => Lib.hid (K2 w L)) (Lib.hid hA) (Lib.hid L)

set_option maxRecDepth 100000 in
theorem fits_any (f n : Int) (hf : hmath.I64 f) (hn : hmath.I64 n) (w : World) (L : Laid w) : Calls Tryd.prog 16 #[.int .i64 f, .int .i64 n] w fun e w' => e = .returned (.bool (fitsB f n)) ∧ w = w' := by
  have K2 := Lib.hid (full_any f w hf L)
  have hb := fullI_bd f
  obtain ⟨n0, n1⟩ := hn
  by_cases h : 0 ≤ n
  · have e1 : fitsB f n = decide (n ≤ fullI f) := by simp [fitsB, h]
    rw [e1]
    clear e1
    obtain ⟨F, hF⟩ : ∃ F, F = fullI f := ⟨_, rfl⟩
    rw [← hF] at K2 hb ⊢
    clear hF L
    have h' : n ≥ 0 := h
    go_enter Tryd.func16, Tryd.ntmps16
    go_wp2_with fail
    refine K2.out.mono ?_
    rintro e w' ⟨rfl, rfl⟩
    go_wp2_with fail
    go_ret
    exact ⟨rfl, rfl⟩
  · have e1 : fitsB f n = false := by simp [fitsB, h]
    rw [e1]
    go_enter Tryd.func16, Tryd.ntmps16
    go_wp2_with fail
    go_ret
    exact ⟨rfl, rfl⟩

def checkI (h : Hd) : Int := if checkB h then 0 else 1

set_option maxRecDepth 100000 in
set_option maxHeartbeats 4000000 in
theorem check_any (h : Hd) (hk : h.ok) (w : World) (L : Laid w) : Calls Tryd.prog 11 #[h.val] w fun e w' => e = .returned (.int .i64 (checkI h)) ∧ Below w.heap.size w w' := by
  have Lz : hmath.I64 0 := by unfold hmath.I64; omega
  have K0 := fits_any 0 h.p (by unfold hmath.I64; omega) hk.p
  have K1 := fits_any 3 h.t (by unfold hmath.I64; omega) hk.t
  have K2 := fits_any 6 h.pr (by unfold hmath.I64; omega) hk.pr
  have K3 := fits_any 7 h.sp (by unfold hmath.I64; omega) hk.sp
  have K4 := fits_any 8 h.dp (by unfold hmath.I64; omega) hk.dp
  have hC : checkB h = (fitsB 0 h.p && fitsB 3 h.t && fitsB 6 h.pr && fitsB 7 h.sp && fitsB 8 h.dp) := rfl
  unfold checkI
  rw [hC]
  clear hC Lz
  have B0 := Lib.hid (fun o => (Below.refl w.heap.size w).alloc (Nat.le_refl _) o)
  have L0 := Lib.hid (fun o => laid_below (B0.out o) L)
  clear L
  simp only [Hd.val, Hd.cells]
  cases h0 : fitsB 0 h.p
  · simp only [h0] at K0 ⊢
    have k0 := Lib.hid K0
    clear K0 K1 K2 K3 K4 h0 hk
    go_enter Tryd.func11, Tryd.ntmps11
    go_wp2_with fail
    refine (k0.out _ (L0.out _)).mono ?_
    rintro e w' ⟨rfl, rfl⟩
    go_wp2_with fail
    go_ret
    exact ⟨by simp, B0.out _⟩
  · cases h1 : fitsB 3 h.t
    · simp only [h0, h1] at K0 K1 ⊢
      have k0 := Lib.hid K0
      have k1 := Lib.hid K1
      clear K0 K1 K2 K3 K4 h0 h1 hk
      go_enter Tryd.func11, Tryd.ntmps11
      go_wp2_with fail
      refine (k0.out _ (L0.out _)).mono ?_
      rintro e w' ⟨rfl, rfl⟩
      go_wp2_with fail
      refine (k1.out _ (L0.out _)).mono ?_
      rintro e w' ⟨rfl, rfl⟩
      go_wp2_with fail
      go_ret
      exact ⟨by simp, B0.out _⟩
    · cases h2 : fitsB 6 h.pr
      · simp only [h0, h1, h2] at K0 K1 K2 ⊢
        have k0 := Lib.hid K0
        have k1 := Lib.hid K1
        have k2 := Lib.hid K2
        clear K0 K1 K2 K3 K4 h0 h1 h2 hk
        go_enter Tryd.func11, Tryd.ntmps11
        go_wp2_with fail
        refine (k0.out _ (L0.out _)).mono ?_
        rintro e w' ⟨rfl, rfl⟩
        go_wp2_with fail
        refine (k1.out _ (L0.out _)).mono ?_
        rintro e w' ⟨rfl, rfl⟩
        go_wp2_with fail
        refine (k2.out _ (L0.out _)).mono ?_
        rintro e w' ⟨rfl, rfl⟩
        go_wp2_with fail
        go_ret
        exact ⟨by simp, B0.out _⟩
      · cases h3 : fitsB 7 h.sp
        · simp only [h0, h1, h2, h3] at K0 K1 K2 K3 ⊢
          have k0 := Lib.hid K0
          have k1 := Lib.hid K1
          have k2 := Lib.hid K2
          have k3 := Lib.hid K3
          clear K0 K1 K2 K3 K4 h0 h1 h2 h3 hk
          go_enter Tryd.func11, Tryd.ntmps11
          go_wp2_with fail
          refine (k0.out _ (L0.out _)).mono ?_
          rintro e w' ⟨rfl, rfl⟩
          go_wp2_with fail
          refine (k1.out _ (L0.out _)).mono ?_
          rintro e w' ⟨rfl, rfl⟩
          go_wp2_with fail
          refine (k2.out _ (L0.out _)).mono ?_
          rintro e w' ⟨rfl, rfl⟩
          go_wp2_with fail
          refine (k3.out _ (L0.out _)).mono ?_
          rintro e w' ⟨rfl, rfl⟩
          go_wp2_with fail
          go_ret
          exact ⟨by simp, B0.out _⟩
        · cases h4 : fitsB 8 h.dp
          all_goals
            simp only [h0, h1, h2, h3, h4] at K0 K1 K2 K3 K4 ⊢
            have k0 := Lib.hid K0
            have k1 := Lib.hid K1
            have k2 := Lib.hid K2
            have k3 := Lib.hid K3
            have k4 := Lib.hid K4
            clear K0 K1 K2 K3 K4 h0 h1 h2 h3 h4 hk
            go_enter Tryd.func11, Tryd.ntmps11
            go_wp2_with fail
            refine (k0.out _ (L0.out _)).mono ?_
            rintro e w' ⟨rfl, rfl⟩
            go_wp2_with fail
            refine (k1.out _ (L0.out _)).mono ?_
            rintro e w' ⟨rfl, rfl⟩
            go_wp2_with fail
            refine (k2.out _ (L0.out _)).mono ?_
            rintro e w' ⟨rfl, rfl⟩
            go_wp2_with fail
            refine (k3.out _ (L0.out _)).mono ?_
            rintro e w' ⟨rfl, rfl⟩
            go_wp2_with fail
            refine (k4.out _ (L0.out _)).mono ?_
            rintro e w' ⟨rfl, rfl⟩
            go_wp2_with fail
            go_ret
            exact ⟨by simp, B0.out _⟩
end Go.Proofs.YtedlclgimeafeaaDoor.head2
