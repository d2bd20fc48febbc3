import Derived.Test.YtfealajbibofiaaMath2
/- Plain mathematics: a prefix is a range; its halves. -/
namespace Go.Proofs.Ytfealajbibofiaa.math1

theorem net_of_right {a n : Int} (h : rightB a n = true) : netI a n = a ∧ clampI n = n := by
  simpa [rightB] using h
theorem last_right {a n : Int} (h : rightB a n = true) : lastI a n = a + (sz n - 1) := by
  obtain ⟨h1, h2⟩ := net_of_right h
  unfold lastI
  rw [h1, h2]

/-- a prefix in its form is the range from its first address to its last -/
theorem has_range {a n v : Int} (h : rightB a n = true) : hasB a n v = true ↔ a ≤ v ∧ v < a + sz n := by
  obtain ⟨h1, h2, h3⟩ := rightB_iff.1 h
  have hp := sz_pos n
  have d := Int.mul_ediv_add_emod a (sz n)
  have e := Int.mul_ediv_add_emod v (sz n)
  have m0 := Int.emod_nonneg v (show sz n ≠ 0 by omega)
  have m1 := Int.emod_lt_of_pos v hp
  rw [hasB_iff]
  constructor
  · rintro ⟨_, _, _, h4⟩
    rw [← h4] at e
    omega
  · rintro ⟨h4, h5⟩
    refine ⟨h1, h2, h3, ?_⟩
    have q : v / sz n = a / sz n := by
      rw [Int.ediv_eq_iff_of_pos hp]
      constructor
      · rw [Int.mul_comm]; omega
      · rw [Int.mul_comm (a / sz n)]; omega
    exact q.symm

theorem right_mono {a n : Int} (h : rightB a n = true) (hn : n < 32) : rightB a (n + 1) = true ∧ rightB (a + sz (n + 1)) (n + 1) = true ∧ sz n = 2 * sz (n + 1) ∧ 0 < sz (n + 1) := by
  obtain ⟨h1, h2, h3⟩ := rightB_iff.1 h
  have e := sz_half h1 hn
  have hp := sz_pos (n + 1)
  have d := Int.mul_ediv_add_emod a (sz n)
  have e2 : a = sz (n + 1) * (2 * (a / sz n)) := by
    rw [← Int.mul_assoc, Int.mul_comm _ 2, ← e]
    omega
  have e3 : a + sz (n + 1) = sz (n + 1) * (2 * (a / sz n) + 1) := by rw [Int.mul_add, ← e2]; omega
  refine ⟨rightB_iff.2 ⟨by omega, by omega, ?_⟩, rightB_iff.2 ⟨by omega, by omega, ?_⟩, e, hp⟩
  · rw [e2]; exact Int.mul_emod_right _ _
  · rw [e3]; exact Int.mul_emod_right _ _

theorem has_false {a n v : Int} (h : rightB a n = true) (hv : v < a ∨ a + sz n ≤ v) : hasB a n v = false := by
  cases e : hasB a n v with
  | false => rfl
  | true => have := (has_range h).1 e; omega

theorem covers_false_of_not_has {a n b m : Int} (h : hasB a n b = false) : coversB a n b m = false := by
  simp [coversB, h]
theorem covers_true {a n b m : Int} (h1 : rightB b m = true) (h2 : n ≤ m) (h3 : hasB a n b = true) : coversB a n b m = true := by
  simp [coversB, h1, h2, h3]
end Go.Proofs.Ytfealajbibofiaa.math1
