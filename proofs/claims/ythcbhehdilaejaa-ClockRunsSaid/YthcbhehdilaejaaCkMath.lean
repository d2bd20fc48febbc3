import Derived.Test.YthcbhehdilaejaaProg
/- The mathematics of a heap: what stands at a place is not ahead of what stands at its parent. -/
set_option linter.unusedVariables false
set_option linter.unusedSimpArgs false
namespace Go.Proofs.Ythcbhehdilaejaa.ckmath

abbrev E := Int × Int
def ltE (x y : E) : Bool := decide (x.1 < y.1) || (decide (x.1 = y.1) && decide (x.2 < y.2))
theorem ltE_iff {x y : E} : ltE x y = true ↔ x.1 < y.1 ∨ (x.1 = y.1 ∧ x.2 < y.2) := by simp [ltE]
theorem geE_iff {x y : E} : ltE x y = false ↔ y.1 < x.1 ∨ (x.1 = y.1 ∧ y.2 ≤ x.2) := by
  simp [ltE]; omega
theorem geE_trans {x y z : E} (h : ltE x y = false) (k : ltE y z = false) : ltE x z = false := by
  rw [geE_iff] at *; omega
theorem ltE_asymm {x y : E} (h : ltE x y = true) : ltE y x = false := by
  rw [ltE_iff] at h; rw [geE_iff]; omega
theorem geE_refl (x : E) : ltE x x = false := by rw [geE_iff]; omega

def par (k : Nat) : Nat := (k - 1) / 2
theorem par_lt {k : Nat} (h : 0 < k) : par k < k := by unfold par; omega

def sw (l : Array E) (i j : Nat) : Array E := (l.setIfInBounds i l[j]!).setIfInBounds j l[i]!
theorem sw_size (l : Array E) (i j : Nat) : (sw l i j).size = l.size := by simp [sw]
theorem set_get (l : Array E) (i k : Nat) (x : E) (hk : k < l.size) : (l.setIfInBounds i x)[k]! = if k = i then x else l[k]! := by
  rw [getElem!_pos _ k (by simpa using hk), Array.getElem_setIfInBounds hk, getElem!_pos l k hk]
  by_cases h : i = k
  · simp [h]
  · simp [h, Ne.symm h]
theorem sw_get (l : Array E) (i j k : Nat) (hk : k < l.size) : (sw l i j)[k]! = if k = j then l[i]! else if k = i then l[j]! else l[k]! := by
  unfold sw
  rw [set_get _ _ _ _ (by simpa using hk)]
  split
  · rfl
  · exact set_get _ _ _ _ hk
theorem sw_perm (l : Array E) (i j : Nat) (hi : i < l.size) (hj : j < l.size) : (sw l i j).toList.Perm l.toList := by
  have e : sw l i j = l.swap i j hi hj := by
    apply Array.ext
    · simp [sw]
    · intro k h1 h2
      have hk : k < l.size := by simpa [sw] using h1
      have := sw_get l i j k hk
      rw [getElem!_pos _ k h1] at this
      rw [this, Array.getElem_swap, getElem!_pos l i hi, getElem!_pos l j hj, getElem!_pos l k hk]
      by_cases a : k = j
      · subst a
        by_cases b : k = i
        · subst b; simp
        · simp [b]
      · by_cases b : k = i
        · subst b; simp [a]
        · simp [a, b]
  rw [e]
  exact (Array.swap_perm hi hj).toList

def Heap (l : Array E) (n : Nat) : Prop := ∀ k, 0 < k → k < n → ltE l[k]! l[par k]! = false
theorem heap_root {l : Array E} {n : Nat} (h : Heap l n) : ∀ k, k < n → ltE l[k]! l[0]! = false := by
  intro k
  induction k using Nat.strongRecOn with
  | _ k ih =>
    intro hk
    by_cases h0 : k = 0
    · subst h0; exact geE_refl _
    · have hp := par_lt (show 0 < k by omega)
      exact geE_trans (h k (by omega) hk) (ih (par k) hp (by omega))

def UpI (l : Array E) (n j : Nat) : Prop :=
  (∀ k, 0 < k → k < n → k ≠ j → ltE l[k]! l[par k]! = false) ∧ (∀ k, 0 < k → k < n → par k = j → 0 < j → ltE l[k]! l[par j]! = false)
theorem UpI.done0 {l : Array E} {n : Nat} (h : UpI l n 0) : Heap l n := fun k h0 hk => h.1 k h0 hk (by omega)
theorem UpI.done {l : Array E} {n j : Nat} (h : UpI l n j) (hj : ltE l[j]! l[par j]! = false) : Heap l n := fun k h0 hk => by
  by_cases e : k = j
  · subst e; exact hj
  · exact h.1 k h0 hk e
theorem UpI.step {l : Array E} {n j : Nat} (h : UpI l n j) (hn : n ≤ l.size) (h0 : 0 < j) (hjn : j < n) (hj : ltE l[j]! l[par j]! = true) : UpI (sw l (par j) j) n (par j) := by
  have hp := par_lt h0
  constructor
  · intro k k0 kn kp
    have kp' := par_lt k0
    rw [sw_get l _ _ k (by omega), sw_get l _ _ (par k) (by omega)]
    by_cases a : k = j
    · subst a
      rw [if_pos rfl, if_neg (by omega), if_pos rfl]
      exact ltE_asymm hj
    · rw [if_neg a, if_neg kp]
      by_cases b : par k = j
      · rw [if_pos b]
        exact h.2 k k0 kn b h0
      · rw [if_neg b]
        by_cases c : par k = par j
        · rw [if_pos c]
          have := h.1 k k0 kn a
          rw [c] at this
          exact geE_trans this (ltE_asymm hj)
        · rw [if_neg c]
          exact h.1 k k0 kn a
  · intro k k0 kn kp pp
    have kp' := par_lt k0
    have pp' := par_lt pp
    rw [sw_get l _ _ k (by omega), sw_get l _ _ (par (par j)) (by omega)]
    have hi := h.1 (par j) pp (by omega) (by omega)
    rw [if_neg (show par (par j) ≠ j by omega), if_neg (show par (par j) ≠ par j by omega)]
    by_cases a : k = j
    · rw [if_pos a]; exact hi
    · rw [if_neg a, if_neg (by omega)]
      have := h.1 k k0 kn a
      rw [kp] at this
      exact geE_trans this hi

def DnI (l : Array E) (n i : Nat) (mv : Bool) : Prop :=
  (∀ k, 0 < k → k < n → par k ≠ i → (k = i ∧ mv = false) ∨ ltE l[k]! l[par k]! = false) ∧ (∀ k, 0 < k → k < n → par k = i → 0 < i → ltE l[k]! l[par i]! = false)
theorem par_kids {k i : Nat} (h0 : 0 < k) (h : par k = i) : k = 2 * i + 1 ∨ k = 2 * i + 2 := by unfold par at h; omega
theorem DnI.stop {l : Array E} {n i : Nat} {mv : Bool} (h : DnI l n i mv) (hc : ∀ k, 0 < k → k < n → par k = i → ltE l[k]! l[i]! = false) : (mv = true → Heap l n) ∧ (mv = false → UpI l n i) := by
  have all : ∀ k, 0 < k → k < n → (k = i ∧ mv = false) ∨ ltE l[k]! l[par k]! = false := fun k k0 kn => by
    by_cases e : par k = i
    · right; have := hc k k0 kn e; rw [← e] at this; exact this
    · exact h.1 k k0 kn e
  refine ⟨fun m k k0 kn => ?_, fun m => ⟨fun k k0 kn hk => ?_, h.2⟩⟩
  · rcases all k k0 kn with ⟨_, c⟩ | c
    · rw [m] at c; cases c
    · exact c
  · rcases all k k0 kn with ⟨c, _⟩ | c
    · exact absurd c hk
    · exact c
theorem DnI.step {l : Array E} {n i j : Nat} {mv : Bool} (h : DnI l n i mv) (hn : n ≤ l.size) (h0 : 0 < j) (hjn : j < n) (hp : par j = i) (hj : ltE l[j]! l[i]! = true) (hm : ∀ k, 0 < k → k < n → par k = i → ltE l[k]! l[j]! = false) : DnI (sw l i j) n j true := by
  have hpl := par_lt h0
  constructor
  · intro k k0 kn kp
    right
    have kp' := par_lt k0
    rw [sw_get l _ _ k (by omega), sw_get l _ _ (par k) (by omega)]
    rw [if_neg kp]
    by_cases a : k = j
    · subst a
      rw [if_pos rfl, if_pos hp]
      exact ltE_asymm hj
    · rw [if_neg a]
      by_cases b : k = i
      · subst b
        rw [if_pos rfl, if_neg (by omega)]
        exact h.2 j h0 hjn hp k0
      · rw [if_neg b]
        by_cases c : par k = i
        · rw [if_pos c]
          exact hm k k0 kn c
        · rw [if_neg c]
          rcases h.1 k k0 kn c with ⟨d, _⟩ | d
          · exact absurd d b
          · exact d
  · intro k k0 kn kp _
    have kp' := par_lt k0
    rw [sw_get l _ _ k (by omega), sw_get l _ _ (par j) (by omega), hp, if_neg (show k ≠ j by omega), if_neg (show k ≠ i by omega), if_neg (show i ≠ j by omega), if_pos rfl]
    rcases h.1 k k0 kn (by omega) with ⟨d, _⟩ | d
    · omega
    · rw [kp] at d; exact d

theorem UpI.of_push {l : Array E} {x : E} (h : Heap l l.size) : UpI (l.push x) (l.size + 1) l.size := by
  refine ⟨fun k k0 kn hk => ?_, fun k k0 kn hp _ => ?_⟩
  · have := par_lt k0
    rw [getElem!_pos _ k (by simp; omega), getElem!_pos _ (par k) (by simp; omega), Array.getElem_push_lt (by omega), Array.getElem_push_lt (by omega)]
    have := h k k0 (by omega)
    rwa [getElem!_pos _ k (by omega), getElem!_pos _ (par k) (by omega)] at this
  · have := par_lt k0; omega
theorem DnI.of {l l' : Array E} {n i : Nat} (h : Heap l n) (hk : ∀ k, k < n → k ≠ i → l'[k]! = l[k]!) : DnI l' n i false := by
  refine ⟨fun k k0 kn hp => ?_, fun k k0 kn hp h0 => ?_⟩
  · by_cases e : k = i
    · exact .inl ⟨e, rfl⟩
    · right
      have := par_lt k0
      rw [hk k kn e, hk (par k) (by omega) hp]
      exact h k k0 kn
  · have := par_lt k0
    have p2 := par_lt h0
    rw [hk k kn (by omega), hk (par i) (by omega) (by omega)]
    have a := h k k0 kn
    rw [hp] at a
    exact geE_trans a (h i h0 (by omega))
theorem Heap.less {l : Array E} {n m : Nat} (h : Heap l n) (hm : m ≤ n) : Heap l m := fun k k0 km => h k k0 (by omega)
theorem Heap.pop {l : Array E} (h : Heap l (l.size - 1)) : Heap l.pop l.pop.size := fun k k0 hk => by
  rw [Array.size_pop] at hk
  have := par_lt k0
  have a := h k k0 hk
  rw [getElem!_pos _ k (by omega), getElem!_pos _ (par k) (by omega)] at a
  rw [getElem!_pos _ k (by simpa using hk), getElem!_pos _ (par k) (by simp; omega), Array.getElem_pop, Array.getElem_pop]
  exact a
theorem pop_perm {l : Array E} (h : 0 < l.size) : l.toList.Perm (l[l.size - 1]! :: l.pop.toList) := by
  have : l.toList = l.pop.toList ++ [l[l.size - 1]!] := by
    have e : l = l.pop.push l[l.size - 1]! := by
      apply Array.ext
      · simp; omega
      · intro k h1 h2
        by_cases hk : k < l.size - 1
        · rw [Array.getElem_push_lt (by simpa using hk), Array.getElem_pop]
        · have : k = l.size - 1 := by omega
          subst this
          rw [Array.getElem_push, dif_neg (by simp), getElem!_pos l _ (by omega)]
    conv => lhs; rw [e]
    simp
  rw [this]
  exact List.perm_append_comm
end Go.Proofs.Ythcbhehdilaejaa.ckmath
