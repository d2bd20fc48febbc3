import Derived.Test.YtbfejmehbbieeaaPsMake2
import Derived.Test.YtbfejmehbbieeaaPsHead2
import Derived.Test.YtbfejmehbbieeaaPsOpen
import Derived.Test.YtbfejmehbbieeaaSorted
/- What PsetMakes asks for: each prefix once, in the order in which they came; sorted by the reference they are the set. -/
set_option linter.unusedVariables false
set_option linter.unusedSimpArgs false
namespace Go.Proofs.Ytbfejmehbbieeaa.psmakes
open Go.RowKit Go.Shelf Go.Lib Go.Sort Go.Proofs.Ytbfejmehbbieeaa.math1 Go.Proofs.Ytbfejmehbbieeaa.pscmp Go.Proofs.Ytbfejmehbbieeaa.psfind Go.Proofs.Ytbfejmehbbieeaa.pssort Go.Proofs.Ytbfejmehbbieeaa.psuniq Go.Proofs.Ytbfejmehbbieeaa.pscompact Go.Proofs.Ytbfejmehbbieeaa.psof Go.Proofs.Ytbfejmehbbieeaa.psask Go.Proofs.Ytbfejmehbbieeaa.tritem

def rTo (d : Array P2) : Nat → Bool
  | 0 => true
  | k + 1 => rTo d k && rightB d[k]!.1 d[k]!.2
theorem rTo_iff (d : Array P2) : ∀ k, rTo d k = true ↔ ∀ j, j < k → rightB d[j]!.1 d[j]!.2 = true
  | 0 => by simp [rTo]
  | k + 1 => by
    rw [rTo, Bool.and_eq_true, rTo_iff d k]
    constructor
    · intro ⟨h1, h2⟩ j hj
      by_cases e : j = k
      · rw [e]; exact h2
      · exact h1 j (by omega)
    · intro h
      exact ⟨fun j hj => h j (by omega), h k (by omega)⟩
def cTo (d : Array P2) (y : Int) : Nat → Bool
  | 0 => false
  | k + 1 => cTo d y k || hasB d[k]!.1 d[k]!.2 y
theorem cTo_iff (d : Array P2) (y : Int) : ∀ k, cTo d y k = true ↔ ∃ j, j < k ∧ hasB d[j]!.1 d[j]!.2 y = true
  | 0 => by simp [cTo]
  | k + 1 => by
    rw [cTo, Bool.or_eq_true, cTo_iff d y k]
    constructor
    · rintro (⟨j, hj, h⟩ | h)
      · exact ⟨j, by omega, h⟩
      · exact ⟨k, by omega, h⟩
    · rintro ⟨j, hj, h⟩
      by_cases e : j = k
      · right; rw [← e]; exact h
      · exact .inl ⟨j, by omega, h⟩
theorem cov_mk (d : Array P2) (y : Int) : coversD (mk d) y = cTo d y d.size := by
  rw [Bool.eq_iff_iff, cTo_iff]
  unfold coversD
  rw [List.any_eq_true]
  constructor
  · rintro ⟨x, hx, h⟩
    obtain ⟨j, hj, e⟩ := mem_get.1 ((mk_mem d x).1 hx)
    exact ⟨j, hj, by rw [e]; exact h⟩
  · rintro ⟨j, hj, h⟩
    exact ⟨d[j]!, (mk_mem d _).2 (mem_get.2 ⟨j, hj, rfl⟩), h⟩

theorem findF_spec (e : Array I3) (a n : Int) : ∀ m k, (findF e a n m k = -1 ∧ ∀ i, k ≤ i → i < k + m → ¬ (e[i]!.1 = a ∧ e[i]!.2.1 = n)) ∨ ∃ i : Nat, findF e a n m k = i ∧ k ≤ i ∧ i < k + m ∧ e[i]!.1 = a ∧ e[i]!.2.1 = n
  | 0, k => .inl ⟨rfl, fun i h1 h2 => by omega⟩
  | m + 1, k => by
    rw [findF]
    by_cases c : (e[k]!.1 == a && e[k]!.2.1 == n) = true
    · rw [if_pos c]
      simp only [Bool.and_eq_true, beq_iff_eq] at c
      exact .inr ⟨k, rfl, by omega, by omega, c.1, c.2⟩
    · rw [if_neg c]
      simp only [Bool.and_eq_true, beq_iff_eq] at c
      rcases findF_spec e a n m (k + 1) with ⟨h1, h2⟩ | ⟨i, h1, h2, h3, h4⟩
      · refine .inl ⟨h1, fun i i1 i2 => ?_⟩
        by_cases q : i = k
        · rw [q]; exact c
        · exact h2 i (by omega) (by omega)
      · exact .inr ⟨i, h1, by omega, by omega, h4⟩
/-- each prefix once, as items -/
def nubTo (d : Array P2) : Nat → Array I3
  | 0 => #[]
  | k + 1 => if findI (nubTo d k) d[k]!.1 d[k]!.2 < 0 then (nubTo d k).push (d[k]!.1, d[k]!.2, 0) else nubTo d k
theorem nub_size (d : Array P2) : ∀ k, (nubTo d k).size ≤ k
  | 0 => Nat.le_refl _
  | k + 1 => by
    have := nub_size d k
    rw [nubTo]; split
    · rw [Array.size_push]; omega
    · omega
theorem nub_all (d : Array P2) : ∀ k, (∀ x ∈ (nubTo d k).toList, ∃ j, j < k ∧ x = (d[j]!.1, d[j]!.2, 0)) ∧ (∀ j, j < k → (d[j]!.1, d[j]!.2, 0) ∈ (nubTo d k).toList) ∧ (nubTo d k).toList.Nodup
  | 0 => ⟨fun x hx => by simp [nubTo] at hx, fun j hj => by omega, by simp [nubTo]⟩
  | k + 1 => by
    obtain ⟨h1, h2, h3⟩ := nub_all d k
    rcases findF_spec (nubTo d k) d[k]!.1 d[k]!.2 (nubTo d k).size 0 with ⟨f1, f2⟩ | ⟨i, f1, _, f3, f4, f5⟩
    · have hlt : findI (nubTo d k) d[k]!.1 d[k]!.2 < 0 := by rw [findI, f1]; decide
      rw [nubTo, if_pos hlt, Array.toList_push]
      refine ⟨fun x hx => ?_, fun j hj => ?_, ?_⟩
      · rcases List.mem_append.1 hx with hx | hx
        · obtain ⟨j, hj, e⟩ := h1 x hx
          exact ⟨j, by omega, e⟩
        · simp at hx
          exact ⟨k, by omega, hx⟩
      · by_cases e : j = k
        · rw [e]; simp
        · exact List.mem_append_left _ (h2 j (by omega))
      · rw [List.nodup_append]
        refine ⟨h3, by simp, fun a ha b hb => ?_⟩
        simp at hb
        rintro rfl
        obtain ⟨i, hi, e⟩ := List.mem_iff_getElem.1 ha
        have hi' : i < (nubTo d k).size := by simpa using hi
        refine f2 i (Nat.zero_le _) (by omega) ?_
        rw [getElem!_pos _ i hi']
        have e2 : (nubTo d k)[i] = a := by rw [← e]; simp
        rw [e2, hb]
        exact ⟨rfl, rfl⟩
    · have hlt : ¬ findI (nubTo d k) d[k]!.1 d[k]!.2 < 0 := by rw [findI, f1]; omega
      rw [nubTo, if_neg hlt]
      refine ⟨fun x hx => ?_, fun j hj => ?_, h3⟩
      · obtain ⟨j, hj, e⟩ := h1 x hx
        exact ⟨j, by omega, e⟩
      · by_cases e : j = k
        · have hi' : i < (nubTo d k).size := by omega
          have hm : (nubTo d k)[i]! ∈ (nubTo d k).toList := by rw [getElem!_pos _ i hi']; simp
          obtain ⟨q, _, eq⟩ := h1 _ hm
          rw [eq] at f4 f5
          dsimp only at f4 f5
          rw [e, ← f4, ← f5, ← eq]
          exact hm
        · exact h2 j (by omega)
theorem cov_all {a n : Int} (hr : rightB a n = true) (h0 : 0 ≤ a) (h1 : a < 4294967296) : coversB 0 0 a n = true := by
  have hn := (rightB_iff.1 hr).1
  have hs : sz 0 = 4294967296 := by decide
  unfold coversB
  rw [hr, decide_eq_true hn, Bool.true_and, Bool.true_and, hasB_iff, hs]
  omega
/-- sorted by the reference: the set -/
theorem sorted_mk {d : Array P2} (hok : AllOk d) (hu : AllU d) {out : Array I3} (hp : out.toList.Perm ((nubTo d d.size).toList.filter (fun x => coversB 0 0 x.1 x.2.1))) (ho : ∀ i j, i < j → j < out.size → lessB out[j]! out[i]! = false) :
    out.size = (mk d).size ∧ ∀ i, i < out.size → out[i]!.1 = (mk d)[i]!.1 ∧ out[i]!.2.1 = (mk d)[i]!.2 := by
  obtain ⟨n1, n2, n3⟩ := nub_all d d.size
  have hf : (nubTo d d.size).toList.filter (fun x => coversB 0 0 x.1 x.2.1) = (nubTo d d.size).toList := by
    rw [List.filter_eq_self]
    intro x hx
    obtain ⟨j, hj, e⟩ := n1 x hx
    rw [e]
    exact cov_all (hok j hj) (hu j hj).1 (hu j hj).2
  rw [hf] at hp
  have nd : out.toList.Nodup := hp.nodup_iff.2 n3
  let e : Array P2 := out.map (fun x => (x.1, x.2.1))
  have es : e.size = out.size := by simp [e]
  have eg : ∀ i, i < out.size → e[i]! = (out[i]!.1, out[i]!.2.1) := fun i hi => by
    rw [getElem!_pos e i (by omega), getElem!_pos out i hi]; simp [e]
  have og : ∀ i, i < out.size → ∃ j, j < d.size ∧ out[i]! = (d[j]!.1, d[j]!.2, 0) := fun i hi => by
    apply n1
    apply hp.mem_iff.1
    rw [getElem!_pos out i hi]; simp
  have st : Strict e := fun i j hij hj => by
    rw [es] at hj
    rw [eg i (by omega), eg j hj, cf_neg]
    have h := ho i j hij hj
    rw [ge_iff] at h
    dsimp only
    rcases h with h | ⟨h, k⟩
    · exact .inl h
    · refine .inr ⟨h.symm, ?_⟩
      have hne : out[i]!.2.1 ≠ out[j]!.2.1 := fun q => by
        obtain ⟨a, _, ea⟩ := og i (by omega)
        obtain ⟨b, _, eb⟩ := og j hj
        have : out[i]! = out[j]! := by
          rw [ea, eb] at q h
          rw [ea, eb]
          dsimp only at q h
          rw [← h, q]
        rw [getElem!_pos out i (by omega), getElem!_pos out j hj] at this
        have nd' := List.pairwise_iff_getElem.1 nd
        exact nd' i j (by simp; omega) (by simpa using hj) hij (by simpa using this)
      omega
  have eq : e = mk d := strict_ext st (mk_strict d) (fun x => by
    rw [mk_mem]
    constructor
    · intro hx
      obtain ⟨i, hi, ei⟩ := mem_get.1 hx
      rw [es] at hi
      obtain ⟨j, hj, ej⟩ := og i hi
      refine mem_get.2 ⟨j, hj, ?_⟩
      rw [← ei, eg i hi, ej]
    · intro hx
      obtain ⟨j, hj, ej⟩ := mem_get.1 hx
      have hm := hp.mem_iff.2 (n2 j hj)
      obtain ⟨i, hi, e2⟩ := List.mem_iff_getElem.1 hm
      have hi' : i < out.size := by simpa using hi
      refine mem_get.2 ⟨i, by omega, ?_⟩
      rw [eg i hi', getElem!_pos out i hi']
      have e3 : out[i] = (d[j]!.1, d[j]!.2, 0) := by rw [← e2]; simp
      rw [e3, ← ej])
  rw [← eq]
  exact ⟨es.symm, fun i hi => by rw [eg i hi]; exact ⟨rfl, rfl⟩⟩

theorem of_both (s : Value) (d : Array P2) (w : World) (hR : IsRow w s d) (hsz : d.size ≤ 60) (hu : AllU d) :
    Calls Try.prog 10 #[s] w fun e w' => (∃ s' ev D, e = .returned (.tuple #[.agg #[s'], .int .i64 ev]) ∧ IsRow w' s' D ∧ ((rTo d d.size = true ∧ ev = 0 ∧ D = mk d) ∨ (rTo d d.size = false ∧ ev = 1 ∧ D = #[]))) ∧ Below w.heap.size w w' := by
  cases h : rTo d d.size with
  | true =>
    have hok : AllOk d := (rTo_iff d d.size).1 h
    refine (of_set s d w hR (by omega) hu hok (by have := mk_size d; omega)).mono ?_
    rintro e w' ⟨⟨s', he, hr⟩, hb⟩
    exact ⟨⟨s', 0, _, he, hr, .inl ⟨rfl, rfl, rfl⟩⟩, hb⟩
  | false =>
    have hbad : ¬ AllOk d := fun hok => by rw [(rTo_iff d d.size).2 hok] at h; cases h
    rcases hR with ⟨_, hd⟩ | ⟨b, o, cap, rfl, hr, _⟩
    · exfalso
      apply hbad
      intro j hj
      rw [hd] at hj
      exact absurd hj (Nat.not_lt_zero _)
    · refine (of_bad b o cap d w hr (by omega) hu hbad).mono ?_
      rintro e w' ⟨he, hb⟩
      exact ⟨⟨_, 1, #[], he, .inl ⟨rfl, rfl⟩, .inr ⟨rfl, rfl, rfl⟩⟩, hb⟩
end Go.Proofs.Ytbfejmehbbieeaa.psmakes
