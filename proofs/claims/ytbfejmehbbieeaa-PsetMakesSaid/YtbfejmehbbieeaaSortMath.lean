import Derived.Test.YtbfejmehbbieeaaItems
/- The mathematics of the reference's Sorted: the least one taken out, again and again. -/
set_option linter.unusedVariables false
set_option linter.unusedSimpArgs false
namespace Go.Proofs.Ytbfejmehbbieeaa.tritem
open Go.RowKit Go.Lib Go.Proofs.Ytbfejmehbbieeaa.math1

theorem less_iff {x y : I3} : lessB x y = true ↔ x.1 < y.1 ∨ (x.1 = y.1 ∧ x.2.1 < y.2.1) := by simp [lessB]
theorem ge_iff {x y : I3} : lessB x y = false ↔ y.1 < x.1 ∨ (x.1 = y.1 ∧ y.2.1 ≤ x.2.1) := by
  simp [lessB]; omega
theorem ge_trans {x y z : I3} (h : lessB x y = false) (k : lessB y z = false) : lessB x z = false := by
  rw [ge_iff] at *; omega
theorem less_asymm {x y : I3} (h : lessB x y = true) : lessB y x = false := by
  rw [less_iff] at h; rw [ge_iff]; omega
theorem ge_refl (x : I3) : lessB x x = false := by rw [ge_iff]; omega

/-- one taken out of a list -/
theorem take_out : ∀ (L : List I3) (i : Nat) (h : i < L.length), (L[i] :: (L.take i ++ L.drop (i + 1))).Perm L
  | x :: L, 0, _ => by simp
  | x :: L, i + 1, h => by
    have hi : i < L.length := by simpa using h
    have ih := take_out L i hi
    show (L[i] :: (x :: (L.take i ++ L.drop (i + 1)))).Perm (x :: L)
    exact (List.Perm.swap x L[i] _).trans (ih.cons x)
/-- what stands and what is left -/
structure Sel (F : List I3) (out left : Array I3) : Prop where
  perm : (out.toList ++ left.toList).Perm F
  ord : ∀ i j, i < j → j < out.size → lessB out[j]! out[i]! = false
  low : ∀ i, i < out.size → ∀ y ∈ left.toList, lessB y out[i]! = false
theorem Sel.step {F : List I3} {out left left' : Array I3} {k : Nat} (h : Sel F out left) (hk : k < left.size) (hm : ∀ q, q < left.size → lessB left[q]! left[k]! = false) (hl : left'.toList = left.toList.take k ++ left.toList.drop (k + 1)) : Sel F (out.push left[k]!) left' := by
  have hk' : k < left.toList.length := by simpa using hk
  have tk := take_out left.toList k hk'
  have ek : left.toList[k] = left[k]! := by rw [getElem!_pos left k hk]; simp
  rw [ek, ← hl] at tk
  have mem : ∀ y ∈ left'.toList, y ∈ left.toList := fun y hy => tk.mem_iff.1 (List.mem_cons_of_mem _ hy)
  have og : ∀ i, i < out.size → (out.push left[k]!)[i]! = out[i]! := fun i hi => by
    rw [getElem!_pos _ i (by simp; omega), getElem!_pos out i hi, Array.getElem_push_lt hi]
  have ol : (out.push left[k]!)[out.size]! = left[k]! := by
    rw [getElem!_pos _ out.size (by simp)]; simp
  refine ⟨?_, fun i j hij hj => ?_, fun i hi y hy => ?_⟩
  · have e : (out.push left[k]!).toList ++ left'.toList = out.toList ++ (left[k]! :: left'.toList) := by simp
    rw [e]
    exact ((List.Perm.refl _).append tk).trans h.perm
  · rw [Array.size_push] at hj
    by_cases e : j = out.size
    · subst e
      rw [ol, og i (by omega)]
      exact h.low i (by omega) _ (by rw [← ek]; exact List.getElem_mem hk')
    · rw [og i (by omega), og j (by omega)]
      exact h.ord i j hij (by omega)
  · rw [Array.size_push] at hi
    by_cases e : i = out.size
    · subst e
      rw [ol]
      obtain ⟨q, hq, e2⟩ := List.mem_iff_getElem.1 (mem y hy)
      have hq' : q < left.size := by simpa using hq
      have := hm q hq'
      rw [getElem!_pos left q hq'] at this
      have e3 : left[q] = y := by rw [← e2]; simp
      rw [e3] at this
      exact this
    · rw [og i (by omega)]
      exact h.low i (by omega) y (mem y hy)
theorem Sel.done {F : List I3} {out left : Array I3} (h : Sel F out left) (hl : left.size = 0) : out.toList.Perm F ∧ ∀ i j, i < j → j < out.size → lessB out[j]! out[i]! = false := by
  have e : left.toList = [] := List.length_eq_zero_iff.1 (by simpa using hl)
  have := h.perm
  rw [e, List.append_nil] at this
  exact ⟨this, h.ord⟩
/-- those that a prefix covers, of the first k -/
def covTo (d : Array I3) (a n : Int) : Nat → Array I3
  | 0 => #[]
  | k + 1 => if coversB a n d[k]!.1 d[k]!.2.1 = true then (covTo d a n k).push d[k]! else covTo d a n k
theorem covTo_size (d : Array I3) (a n : Int) : ∀ k, (covTo d a n k).size ≤ k
  | 0 => Nat.le_refl _
  | k + 1 => by
    have := covTo_size d a n k
    rw [covTo]; split
    · rw [Array.size_push]; omega
    · omega
theorem covTo_list (d : Array I3) (a n : Int) : ∀ k, k ≤ d.size → (covTo d a n k).toList = (d.toList.take k).filter (fun x => coversB a n x.1 x.2.1)
  | 0, _ => by simp [covTo]
  | k + 1, h => by
    have ih := covTo_list d a n k (by omega)
    have e : d.toList.take (k + 1) = d.toList.take k ++ [d[k]!] := by
      rw [List.take_add_one]
      simp [show k < d.size by omega, getElem!_pos d k (by omega)]
    rw [covTo, e, List.filter_append, ← ih]
    by_cases c : coversB a n d[k]!.1 d[k]!.2.1 = true
    · rw [if_pos c, Array.toList_push]; simp [c]
    · rw [if_neg c]; simp [c]
theorem Sel.first (d : Array I3) (a n : Int) : Sel (d.toList.filter (fun x => coversB a n x.1 x.2.1)) #[] (covTo d a n d.size) := by
  refine ⟨?_, fun i j hij hj => absurd hj (Nat.not_lt_zero _), fun i hi => absurd hi (Nat.not_lt_zero _)⟩
  rw [covTo_list d a n d.size (Nat.le_refl _), List.take_of_length_le (by simp)]
  exact List.Perm.refl _
end Go.Proofs.Ytbfejmehbbieeaa.tritem
