import Derived.Test.YtbfejmehbbieeaaPsMakes1
/- The law's in: is a prefix among some? -/
set_option linter.unusedVariables false
set_option linter.unusedSimpArgs false
namespace Go.Proofs.Ytbfejmehbbieeaa.psmakes
open Go.RowKit Go.Shelf Go.Lib Go.Sort Go.Proofs.Ytbfejmehbbieeaa.math1 Go.Proofs.Ytbfejmehbbieeaa.pscmp Go.Proofs.Ytbfejmehbbieeaa.psfind Go.Proofs.Ytbfejmehbbieeaa.pssort Go.Proofs.Ytbfejmehbbieeaa.psuniq Go.Proofs.Ytbfejmehbbieeaa.pscompact Go.Proofs.Ytbfejmehbbieeaa.psof Go.Proofs.Ytbfejmehbbieeaa.psask Go.Proofs.Ytbfejmehbbieeaa.tritem

theorem row_at {w : World} {a : Option Addr} {n c : Nat} {d : Array P2} (h : IsRow w (.slice a n c) d) {k : Nat} (hk : k < d.size) : ∃ b o, a = some ⟨b, o, none⟩ ∧ b < w.heap.size ∧ w.cell? ⟨b, o + k * 2, none⟩ = some (.int .u32 d[k]!.1) ∧ w.cell? ⟨b, o + k * 2 + 1, none⟩ = some (.int .i64 d[k]!.2) := by
  rcases h with ⟨_, e⟩ | ⟨b, o, cp, e, r, hlt⟩
  · rw [e] at hk; exact absurd hk (Nat.not_lt_zero _)
  · simp only [Value.slice.injEq] at e
    exact ⟨b, o, e.1, hlt, r k hk⟩
set_option maxRecDepth 100000 in
set_option maxHeartbeats 1000000 in
theorem in_any (s : Value) (d : Array P2) (p n : Int) (w : World) (hR : IsRow w s d) (hm : d.size ≤ 1000000) : Calls Try.prog 18 #[s, .agg #[.int .u32 p, .int .i64 n]] w fun e w' => e = .returned (.bool (decide ((p, n) ∈ d.toList))) ∧ Below w.heap.size w w' := by
  obtain ⟨a1, c1, e1⟩ := pssame.IsRow.shape hR
  obtain ⟨N, hN⟩ : ∃ N, N = d.size := ⟨_, rfl⟩
  rw [← hN] at e1 hm
  subst e1
  have BA : Below w.heap.size w (w.alloc (.cells #[.int .u32 p, .int .i64 n] 26)) := (Below.refl _ _).alloc (Nat.le_refl _) _
  have HR := Lib.hid (hR.below BA)
  have HN := Lib.hid hN
  have BAH := Lib.hid BA
  obtain ⟨W0, hW0⟩ : ∃ W, W = w.alloc (.cells #[.int .u32 p, .int .i64 n] 26) := ⟨_, rfl⟩
  have b0 : W0.cell? ⟨w.heap.size, 0, none⟩ = some (.int .u32 p) := by rw [hW0]; exact aid.new2a _ _ _ _
  have b1 : W0.cell? ⟨w.heap.size, 1, none⟩ = some (.int .i64 n) := by rw [hW0]; exact aid.new2b _ _ _ _
  rw [← hW0] at HR BAH
  have HW0 := Lib.hid hW0
  obtain ⟨R, hRR⟩ : ∃ R, R = decide ((p, n) ∈ d.toList) := ⟨_, rfl⟩
  rw [← hRR]
  have HRR := Lib.hid hRR
  clear hR hN BA hW0 hRR
  go_enter Try.func18, Try.ntmps18
  go_wp2_with fail
  rw [← HW0.out]
  go_loopw [9] (fun s9 wr => ∃ k : Nat, k ≤ N ∧ s9 = .int .i64 k ∧ Hid (∀ j, j < k → d[j]! ≠ (p, n)) ∧ Hid (Below W0.heap.size W0 wr)) (fun s9 _ => N - (intOf s9).toNat)
  case atStart => exact ⟨0, by omega, rfl, Lib.hid (fun j hj => by omega), Lib.hid (Below.refl _ _)⟩
  case round =>
    obtain ⟨k, hk, rfl, NO, Bl⟩ := hrel
    by_cases hlt : k < N
    · have hkd : k < d.size := by rw [← HN.out]; exact hlt
      have hlt2 : (k : Int) < (N : Int) := by omega
      obtain ⟨b, o, rfl, _, k0, k1⟩ := row_at (HR.out.below Bl.out) hkd
      obtain ⟨⟨x1, x2⟩, hx⟩ : ∃ x, x = d[k]! := ⟨_, rfl⟩
      rw [← hx] at k0 k1
      dsimp only at k0 k1
      have HX := Lib.hid hx
      have BX := Lib.hid (aid.kb ((Below.refl wr.heap.size wr).alloc (Nat.le_refl _) (.cells #[.int .u32 x1, .int .i64 x2] 26)) Bl.out)
      have c0 := aid.ca (.cells #[.int .u32 x1, .int .i64 x2] 26) (aid.kc Bl.out b0)
      have c1' := aid.ca (.cells #[.int .u32 x1, .int .i64 x2] 26) (aid.kc Bl.out b1)
      have Q := eql_pfx x1 x2 p n
      obtain ⟨bb, hbb⟩ : ∃ bb, bb = (x1 == p && x2 == n) := ⟨_, rfl⟩
      rw [← hbb] at Q
      have HB := Lib.hid hbb
      clear hx hbb
      cases bb with
      | true =>
        go_wp2_with fail
        go_ret
        refine ⟨?_, aid.kb BX.out BAH.out⟩
        have e := HB.out.symm
        simp only [Bool.and_eq_true, beq_iff_eq] at e
        rw [HRR.out]
        have : (p, n) ∈ d.toList := mem_get.2 ⟨k, hkd, by rw [← HX.out, e.1, e.2]⟩
        rw [decide_eq_true this]
        rfl
      | false =>
        have NO2 := Lib.hid (show ∀ j, j < k + 1 → d[j]! ≠ (p, n) from fun j hj h => by
          by_cases e : j = k
          · rw [e, ← HX.out] at h
            have e2 := HB.out.symm
            simp only [Prod.mk.injEq] at h
            rw [h.1, h.2] at e2
            simp at e2
          · exact NO.out j (by omega) h)
        go_wp2_with fail
        go_roundw
        case rel => exact ⟨k + 1, by omega, by go_num, NO2, BX⟩
        case measure => simp [intOf]; omega
    · obtain rfl : N = k := by omega
      go_wp2_with fail
      go_ret
      refine ⟨?_, aid.kb Bl.out BAH.out⟩
      have : ¬ (p, n) ∈ d.toList := fun h => by
        obtain ⟨j, hj, e⟩ := mem_get.1 h
        exact NO.out j (by rw [HN.out]; exact hj) e
      rw [HRR.out, decide_eq_false this]
      rfl
end Go.Proofs.Ytbfejmehbbieeaa.psmakes
