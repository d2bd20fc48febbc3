import Derived.Test.YtbfejmehbbieeaaPsSort
import Derived.Test.YtbfejmehbbieeaaPsFind
/- Plain mathematics of sets of prefixes: neighbours that are the same left out; of a sorted row that is strictly in order. -/
set_option linter.unusedVariables false
set_option linter.unusedSimpArgs false
namespace Go.Proofs.Ytbfejmehbbieeaa.psuniq
open Go.RowKit Go.Shelf Go.Lib Go.Sort Go.Proofs.Ytbfejmehbbieeaa.pscmp Go.Proofs.Ytbfejmehbbieeaa.psfind Go.Proofs.Ytbfejmehbbieeaa.pssort

abbrev P2 := Int × Int
/-- the first m, each that is the one ahead of it left out -/
def uqTo (d : Array P2) : Nat → List P2
  | 0 => []
  | m + 1 => if 0 < m ∧ d[m]! = d[m - 1]! then uqTo d m else uqTo d m ++ [d[m]!]
def uq (d : Array P2) : Array P2 := (uqTo d d.size).toArray
theorem uq_len (d : Array P2) : ∀ m, (uqTo d m).length ≤ m
  | 0 => Nat.le_refl _
  | m + 1 => by
    have := uq_len d m
    rw [uqTo]; split
    · omega
    · simp; omega
theorem uq_size (d : Array P2) : (uq d).size ≤ d.size := by simpa [uq] using uq_len d d.size
theorem uq_same (d : Array P2) : ∀ m, m ≤ d.size → (∀ j, 0 < j → j < m → d[j]! ≠ d[j - 1]!) → uqTo d m = d.toList.take m
  | 0, _, _ => by simp [uqTo]
  | m + 1, h, k => by
    have ih := uq_same d m (by omega) (fun j h0 h1 => k j h0 (by omega))
    rw [uqTo, if_neg (fun e => k m e.1 (by omega) e.2), ih]
    have hm : m < d.toList.length := by simp; omega
    rw [List.take_add_one, List.getElem?_eq_getElem hm, getElem!_pos d m (by simpa using hm)]
    simp
theorem uq_whole (d : Array P2) (k : ∀ j, 0 < j → j < d.size → d[j]! ≠ d[j - 1]!) : uq d = d := by
  unfold uq
  rw [uq_same d d.size (Nat.le_refl _) k]
  have : d.toList.take d.size = d.toList := List.take_of_length_le (by simp)
  rw [this]
theorem uq_small (d : Array P2) (h : d.size < 2) : uq d = d := uq_whole d (fun j h0 h1 => by omega)

/-- in order -/
def Ordered (d : Array P2) : Prop := ∀ i j, i < j → j < d.size → ¬ cf d[j]! d[i]! < 0
theorem sorted_ordered (d : Array P2) : Ordered (sorted d) := by
  intro i j hij hj
  have hp : (sorted d).toList.Pairwise (fun x y => (!ltOf cf y x) = true) := by
    have := List.pairwise_mergeSort (le := fun x y => !ltOf cf y x) (fun a b c h1 h2 => by
      simp only [Bool.not_eq_true'] at h1 h2 ⊢
      exact swo.ntrans _ _ _ h2 h1) (fun a b => by
      cases h1 : ltOf cf b a
      · simp
      · cases h2 : ltOf cf a b
        · simp
        · have h3 := swo.trans _ _ _ h1 h2
          rw [swo.irrefl] at h3; cases h3) d.toList
    simpa [sorted] using this
  have hi' : i < (sorted d).toList.length := by simp; omega
  have hj' : j < (sorted d).toList.length := by simpa using hj
  have h := List.pairwise_iff_getElem.1 hp i j hi' hj' hij
  rw [getElem!_pos _ j hj, getElem!_pos _ i (by omega)]
  simp only [Bool.not_eq_true', ltOf, Array.getElem_toList] at h
  simpa using h
theorem sorted_mem (d : Array P2) (x : P2) : x ∈ (sorted d).toList ↔ x ∈ d.toList := by simp [sorted]

theorem cf_trans {x y z : P2} (h1 : cf x y < 0) (h2 : ¬ cf z y < 0) : cf x z < 0 := by
  rw [cf_neg] at *; omega
theorem cf_lt_of {x y : P2} (h : ¬ cf y x < 0) (hne : x ≠ y) : cf x y < 0 := by
  rw [cf_neg] at *
  obtain ⟨a, n⟩ := x
  obtain ⟨b, m⟩ := y
  simp only [ne_eq, Prod.mk.injEq] at hne
  dsimp only at *
  omega
/-- of an ordered row: what is left is strictly in order, its last one is the last one, and it has just the same ones -/
theorem uq_props (d : Array P2) (ho : Ordered d) : ∀ m, m ≤ d.size → (uqTo d m).Pairwise (fun x y => cf x y < 0) ∧ (0 < m → (uqTo d m).getLast? = some d[m - 1]!) ∧ (∀ x, x ∈ uqTo d m ↔ ∃ j, j < m ∧ d[j]! = x)
  | 0, _ => by simp [uqTo]
  | m + 1, h => by
    obtain ⟨p, l, e⟩ := uq_props d ho m (by omega)
    by_cases hd : 0 < m ∧ d[m]! = d[m - 1]!
    · rw [uqTo, if_pos hd]
      refine ⟨p, fun _ => by rw [l hd.1, Nat.add_sub_cancel, hd.2], fun x => ?_⟩
      rw [e]
      constructor
      · rintro ⟨j, h1, h2⟩; exact ⟨j, by omega, h2⟩
      · rintro ⟨j, h1, h2⟩
        by_cases hj : j = m
        · exact ⟨m - 1, by omega, by rw [← hd.2, ← hj, h2]⟩
        · exact ⟨j, by omega, h2⟩
    · rw [uqTo, if_neg hd]
      refine ⟨?_, fun _ => by simp, fun x => ?_⟩
      · rw [List.pairwise_append]
        refine ⟨p, by simp, fun a ha b hb => ?_⟩
        obtain rfl : b = d[m]! := by simpa using hb
        obtain ⟨j, hj, rfl⟩ := (e a).1 ha
        have hm0 : 0 < m := by omega
        have hne : d[m]! ≠ d[m - 1]! := fun h => hd ⟨hm0, h⟩
        have h1 : cf d[m - 1]! d[m]! < 0 := cf_lt_of (ho (m - 1) m (by omega) (by omega)) (Ne.symm hne)
        by_cases hj1 : j = m - 1
        · rw [hj1]; exact h1
        · have h2 := ho j (m - 1) (by omega) (by omega)
          rw [cf_neg] at *
          omega
      · simp only [List.mem_append, e, List.mem_singleton]
        constructor
        · rintro (⟨j, h1, h2⟩ | rfl)
          · exact ⟨j, by omega, h2⟩
          · exact ⟨m, by omega, rfl⟩
        · rintro ⟨j, h1, h2⟩
          by_cases hj : j = m
          · exact .inr (by rw [← h2, hj])
          · exact .inl ⟨j, by omega, h2⟩
theorem strict_of_pairwise {d : Array P2} (h : d.toList.Pairwise (fun x y => cf x y < 0)) : Strict d := by
  intro i j hij hj
  have := List.pairwise_iff_getElem.1 h i j (by simp; omega) (by simpa using hj) hij
  rw [getElem!_pos _ j hj, getElem!_pos _ i (by omega)]
  simpa using this
theorem pairwise_of_strict {d : Array P2} (h : Strict d) : d.toList.Pairwise (fun x y => cf x y < 0) := by
  rw [List.pairwise_iff_getElem]
  intro i j hi hj hij
  have := h i j hij (by simpa using hj)
  rw [getElem!_pos _ j (by simpa using hj), getElem!_pos _ i (by simpa using hi)] at this
  simpa using this

/-- the set of some prefixes -/
def mk (d : Array P2) : Array P2 := uq (sorted d)
theorem mk_strict (d : Array P2) : Strict (mk d) := by
  apply strict_of_pairwise
  simpa [mk, uq] using (uq_props (sorted d) (sorted_ordered d) _ (Nat.le_refl _)).1
theorem mem_get {d : Array P2} {x : P2} : x ∈ d.toList ↔ ∃ j, j < d.size ∧ d[j]! = x := by
  rw [List.mem_iff_getElem]
  constructor
  · rintro ⟨j, hj, e⟩
    have hj' : j < d.size := by simpa using hj
    exact ⟨j, hj', by rw [getElem!_pos d j hj', ← e, Array.getElem_toList]⟩
  · rintro ⟨j, hj, e⟩
    exact ⟨j, by simpa using hj, by rw [← e, getElem!_pos d j hj, Array.getElem_toList]⟩
theorem mk_mem (d : Array P2) (x : P2) : x ∈ (mk d).toList ↔ x ∈ d.toList := by
  have h := (uq_props (sorted d) (sorted_ordered d) _ (Nat.le_refl _)).2.2 x
  rw [show (mk d).toList = uqTo (sorted d) (sorted d).size by simp [mk, uq], h, ← mem_get, sorted_mem]
theorem mk_size (d : Array P2) : (mk d).size ≤ d.size := by
  have := uq_size (sorted d)
  rwa [sorted_size] at this

/-- two rows strictly in order that have just the same ones are one -/
theorem pairwise_ext : ∀ (l m : List P2), l.Pairwise (fun x y => cf x y < 0) → m.Pairwise (fun x y => cf x y < 0) → (∀ x, x ∈ l ↔ x ∈ m) → l = m
  | [], [], _, _, _ => rfl
  | [], y :: m, _, _, h => absurd ((h y).2 (by simp)) (by simp)
  | x :: l, [], _, _, h => absurd ((h x).1 (by simp)) (by simp)
  | x :: l, y :: m, hl, hm, h => by
    rw [List.pairwise_cons] at hl hm
    have irr : ∀ z : P2, ¬ cf z z < 0 := fun z => by rw [cf_neg]; omega
    have asym : ∀ a b : P2, cf a b < 0 → ¬ cf b a < 0 := fun a b h1 h2 => by rw [cf_neg] at *; omega
    have e : x = y := by
      have h1 := (h x).1 (by simp)
      have h2 := (h y).2 (by simp)
      rcases List.mem_cons.1 h1 with h1 | h1
      · exact h1
      · rcases List.mem_cons.1 h2 with h2 | h2
        · exact h2.symm
        · exact absurd (hl.1 y h2) (asym _ _ (hm.1 x h1))
    subst e
    rw [pairwise_ext l m hl.2 hm.2 (fun z => ?_)]
    constructor
    · intro hz
      rcases List.mem_cons.1 ((h z).1 (List.mem_cons_of_mem _ hz)) with e | h3
      · rw [e] at hz; exact absurd (hl.1 x hz) (irr x)
      · exact h3
    · intro hz
      rcases List.mem_cons.1 ((h z).2 (List.mem_cons_of_mem _ hz)) with e | h3
      · rw [e] at hz; exact absurd (hm.1 x hz) (irr x)
      · exact h3
theorem strict_ext {d e : Array P2} (hd : Strict d) (he : Strict e) (h : ∀ x, x ∈ d.toList ↔ x ∈ e.toList) : d = e :=
  Array.toList_inj.1 (pairwise_ext _ _ (pairwise_of_strict hd) (pairwise_of_strict he) h)
/-- a row strictly in order is its own set -/
theorem mk_of_strict {d : Array P2} (hd : Strict d) : mk d = d := strict_ext (mk_strict d) hd (mk_mem d)
end Go.Proofs.Ytbfejmehbbieeaa.psuniq
