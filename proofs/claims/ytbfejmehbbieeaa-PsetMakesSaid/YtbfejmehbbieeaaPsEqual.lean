import Derived.Test.YtbfejmehbbieeaaPsFind
/- slices.Equal over prefixes. -/
set_option linter.unusedVariables false
set_option linter.unusedSimpArgs false
namespace Go.Proofs.Ytbfejmehbbieeaa.pseq
open Go.RowKit Go.Shelf Go.Lib Go.Sort Go.Proofs.Ytbfejmehbbieeaa.pscmp Go.Proofs.Ytbfejmehbbieeaa.psfind

theorem neq_pfx (x m y n : Int) (W : World) : (binOp .neq 26 (.agg #[.int .u32 x, .int .i64 m]) (.agg #[.int .u32 y, .int .i64 n])).run Try.prog W = .ok (.bool (!(x == y && m == n))) W := by
  rw [run_neq_struct]
  go_simp
  by_cases h1 : x = y
  · by_cases h2 : m = n <;> simp [h1, h2, go_sem]
  · by_cases h2 : m = n <;> simp [h1, h2, go_sem]

theorem ext_get {d e : Array (Int × Int)} (hs : d.size = e.size) (h : ∀ j, j < d.size → d[j]! = e[j]!) : d = e := by
  apply Array.ext hs
  intro i h1 h2
  have := h i h1
  rwa [getElem!_pos d i h1, getElem!_pos e i h2] at this

set_option maxRecDepth 100000 in
set_option maxHeartbeats 1000000 in
theorem equal_rows (b o cap b2 o2 cap2 : Nat) (d e : Array (Int × Int)) (w : World) (hR : Row w b o d) (hR2 : Row w b2 o2 e) (hsz : d.size = e.size) (hn : d.size < 4611686018427387904) :
    Calls Try.prog 46 #[.slice (some ⟨b, o, none⟩) d.size cap, .slice (some ⟨b2, o2, none⟩) e.size cap2] w fun e1 w' => e1 = .returned (.bool (decide (d = e))) ∧ Below w.heap.size w w' := by
  obtain ⟨n, hnn⟩ : ∃ n, n = d.size := ⟨_, rfl⟩
  rw [← hsz, ← hnn]
  rw [← hnn] at hn hsz
  have HN := Lib.hid hnn
  have HE := Lib.hid hsz
  have R0 := Lib.hid hR
  have R2 := Lib.hid hR2
  clear hnn hsz hR hR2
  go_enter Try.func46, Try.ntmps46
  go_wp2_with fail
  go_loopw [5, 13] (fun iv jv wr => ∃ k : Nat, k ≤ n ∧ jv = .int .i64 k ∧ Hid (∀ j, j < k → d[j]! = e[j]!) ∧ Hid (Row wr b o d) ∧ Hid (Row wr b2 o2 e) ∧ Hid (Below w.heap.size w wr)) (fun _ j _ => n - (intOf j).toNat)
  case atStart => exact ⟨0, by omega, rfl, fun j hj => absurd hj (Nat.not_lt_zero j), R0, R2, Below.refl _ _⟩
  case round =>
    obtain ⟨k, hk, rfl, A, R, S, B⟩ := hrel
    by_cases hlt : k < n
    · have hd : k < d.size := by rw [← HN.out]; exact hlt
      have he : k < e.size := by rw [← HE.out]; exact hlt
      have k0 := fun s : aid.Keep wr => aid.keep_cell (R.out k hd).1 s
      have k1 := fun s : aid.Keep wr => aid.keep_cell (R.out k hd).2 s
      have k2 := fun s : aid.Keep wr => aid.keep_cell (S.out k he).1 s
      have k3 := fun s : aid.Keep wr => aid.keep_cell (S.out k he).2 s
      obtain ⟨⟨x1, x2⟩, hx⟩ : ∃ x, x = d[k]! := ⟨_, rfl⟩
      obtain ⟨⟨y1, y2⟩, hy⟩ : ∃ y, y = e[k]! := ⟨_, rfl⟩
      rw [← hx] at k0 k1
      rw [← hy] at k2 k3
      dsimp only at k0 k1 k2 k3
      have HX := Lib.hid hx
      have HY := Lib.hid hy
      clear hx hy
      have Q := neq_pfx x1 x2 y1 y2
      by_cases heq : x1 = y1 ∧ x2 = y2
      · have q : (!(x1 == y1 && x2 == y2)) = false := by simp [heq.1, heq.2]
        rw [q] at Q
        have A2 := Lib.hid (show ∀ j, j < k + 1 → d[j]! = e[j]! from fun j hj => by
          by_cases ej : j = k
          · rw [ej, ← HX.out, ← HY.out, heq.1, heq.2]
          · exact A.out j (by omega))
        clear heq q
        go_wp2_with fail
        refine aid.wp_region_keep (by kernel_rfl) (by kernel_rfl) ?_
        repeat (go_big_quiet_step (fail))
        refine wpQuiet_nil ?_
        rintro _ ⟨s, rfl⟩
        go_wp2_with fail
        go_roundw
        case rel => exact ⟨k + 1, by omega, by go_num, A2, R.out.below s.below, S.out.below s.below, aid.kbk B.out s⟩
        case measure => simp [intOf]; omega
      · have q : (!(x1 == y1 && x2 == y2)) = true := by
          simp only [Bool.not_eq_true', Bool.and_eq_false_imp, beq_iff_eq]
          intro h1
          simpa using fun h2 => heq ⟨h1, h2⟩
        rw [q] at Q
        have G := Lib.hid (show decide (d = e) = false from decide_eq_false (fun h => heq (by
          have := HX.out
          rw [h, ← HY.out] at this
          simpa using this)))
        clear heq q
        go_wp2_with fail
        refine aid.wp_region_keep (by kernel_rfl) (by kernel_rfl) ?_
        repeat (go_big_quiet_step (fail))
        refine wpQuiet_nil ?_
        rintro _ ⟨s, rfl⟩
        go_wp2_with fail
        go_ret
        exact ⟨by rw [G.out]; rfl, aid.kbk B.out s⟩
    · have hk' : k = n := by omega
      subst hk'
      have G := Lib.hid (show decide (d = e) = true from decide_eq_true (ext_get (by rw [← HN.out, HE.out]) (fun j hj => A.out j (by rw [HN.out]; exact hj))))
      go_wp2_with fail
      go_ret
      exact ⟨by rw [G.out]; rfl, B.out⟩
end Go.Proofs.Ytbfejmehbbieeaa.pseq
