import Derived.Test.YtpnbbaocdbopiaaPsAnd
/- How many are in either of two sets, in both, in one alone (mathematics). -/
set_option linter.unusedVariables false
set_option linter.unusedSimpArgs false
namespace Go.Proofs.Ytpnbbaocdbopiaa.pscount
open Go.RowKit Go.Shelf Go.Lib Go.Sort Go.Proofs.Ytpnbbaocdbopiaa.math1 Go.Proofs.Ytpnbbaocdbopiaa.pscmp Go.Proofs.Ytpnbbaocdbopiaa.psfind Go.Proofs.Ytpnbbaocdbopiaa.pssort Go.Proofs.Ytpnbbaocdbopiaa.psuniq Go.Proofs.Ytpnbbaocdbopiaa.psor

theorem size_part {d R : Array P2} (hd : Strict d) (hR : Strict R) (p : P2 → Bool) (h : ∀ x, x ∈ R.toList ↔ x ∈ d.toList ∧ p x = true) : R.size = (d.toList.filter p).length := by
  rw [← Array.length_toList, pairwise_ext R.toList (d.toList.filter p) (pairwise_of_strict hR) ((pairwise_of_strict hd).filter p) (fun x => by rw [h x, List.mem_filter])]
theorem len_filter (p : P2 → Bool) : ∀ l : List P2, l.length = (l.filter p).length + (l.filter (fun x => !p x)).length
  | [] => rfl
  | x :: l => by
    have := len_filter p l
    cases h : p x <;> simp [h] <;> omega
theorem size_two {d A B : Array P2} (hd : Strict d) (hA : Strict A) (hB : Strict B) (p : P2 → Bool) (h1 : ∀ x, x ∈ A.toList ↔ x ∈ d.toList ∧ p x = true) (h2 : ∀ x, x ∈ B.toList ↔ x ∈ d.toList ∧ p x = false) : d.size = A.size + B.size := by
  rw [size_part hd hA p h1, size_part hd hB (fun x => !p x) (fun x => by rw [h2 x]; simp), ← Array.length_toList]
  exact len_filter p d.toList
/-- in both and in one alone are all of it -/
theorem size_less {d e A L : Array P2} (sd : Strict d) (sA : Strict A) (sL : Strict L) (hA : ∀ x, x ∈ A.toList ↔ x ∈ d.toList ∧ x ∈ e.toList) (hL : ∀ x, x ∈ L.toList ↔ x ∈ d.toList ∧ x ∉ e.toList) : d.size = A.size + L.size :=
  size_two sd sA sL (fun x => decide (x ∈ e.toList)) (fun x => by rw [hA x]; simp) (fun x => by rw [hL x]; simp)
theorem size_or {d e L : Array P2} (sd : Strict d) (se : Strict e) (sL : Strict L) (hL : ∀ x, x ∈ L.toList ↔ x ∈ d.toList ∧ x ∉ e.toList) : (orD d e).size = e.size + L.size :=
  size_two (mk_strict _) se sL (fun x => decide (x ∈ e.toList)) (fun x => by rw [or_mem]; simp; intro h; exact .inr h) (fun x => by
    rw [or_mem, hL x]; simp
    intro h1 h2; exact absurd h2 h1)
/-- what is in one alone and what is in both are the one -/
theorem or_back {d e A L : Array P2} (sd : Strict d) (hA : ∀ x, x ∈ A.toList ↔ x ∈ d.toList ∧ x ∈ e.toList) (hL : ∀ x, x ∈ L.toList ↔ x ∈ d.toList ∧ x ∉ e.toList) : orD L A = d :=
  strict_ext (mk_strict _) sd fun x => by
    rw [or_mem, hA, hL]
    by_cases h : x ∈ e.toList <;> simp [h]
theorem or_comm (d e : Array P2) : orD e d = orD d e := strict_ext (mk_strict _) (mk_strict _) fun x => by rw [or_mem, or_mem]; exact Or.comm
/-- two sets are the same just if neither has what the other hasn't -/
theorem same_less {d e L M : Array P2} (sd : Strict d) (se : Strict e) (hL : ∀ x, x ∈ L.toList ↔ x ∈ d.toList ∧ x ∉ e.toList) (hM : ∀ x, x ∈ M.toList ↔ x ∈ e.toList ∧ x ∉ d.toList) : decide (d = e) = (decide (L.size = 0) && decide (M.size = 0)) := by
  apply Bool.eq_iff_iff.2
  rw [Bool.and_eq_true, decide_eq_true_iff, decide_eq_true_iff, decide_eq_true_iff]
  constructor
  · rintro rfl
    have e0 : ∀ N : Array P2, (∀ x, x ∈ N.toList ↔ x ∈ d.toList ∧ x ∉ d.toList) → N.size = 0 := fun N h => by
      rw [← Array.length_toList, List.length_eq_zero_iff]
      exact List.eq_nil_iff_forall_not_mem.2 (fun x hx => ((h x).1 hx).2 ((h x).1 hx).1)
    exact ⟨e0 L hL, e0 M hM⟩
  · rintro ⟨h1, h2⟩
    have z : ∀ N : Array P2, N.size = 0 → ∀ x, x ∉ N.toList := fun N h x hx => by
      rw [← Array.length_toList, List.length_eq_zero_iff] at h
      rw [h] at hx; cases hx
    refine strict_ext sd se (fun x => ⟨fun hx => ?_, fun hx => ?_⟩)
    · by_cases h : x ∈ e.toList
      · exact h
      · exact absurd ((hL x).2 ⟨hx, h⟩) (z L h1 x)
    · by_cases h : x ∈ d.toList
      · exact h
      · exact absurd ((hM x).2 ⟨hx, h⟩) (z M h2 x)
end Go.Proofs.Ytpnbbaocdbopiaa.pscount
