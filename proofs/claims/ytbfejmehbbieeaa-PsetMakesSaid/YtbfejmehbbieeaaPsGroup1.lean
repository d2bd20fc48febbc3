import Derived.Test.YtbfejmehbbieeaaPsPlaces
import Derived.OneCell
import Derived.Maps.OwnSet
import Derived.Maps.Views
/- Package pset: groups of prefixes: the mathematics, and how they lie in memory. -/
set_option linter.unusedVariables false
set_option linter.unusedSimpArgs false
namespace Go.Proofs.Ytbfejmehbbieeaa.psgroup
open Go.RowKit Go.Shelf Go.Lib Go.Sort Go.Proofs.Ytbfejmehbbieeaa.math1 Go.Proofs.Ytbfejmehbbieeaa.pscmp Go.Proofs.Ytbfejmehbbieeaa.psfind Go.Proofs.Ytbfejmehbbieeaa.pssort Go.Proofs.Ytbfejmehbbieeaa.psuniq Go.Proofs.Ytbfejmehbbieeaa.pscompact Go.Proofs.Ytbfejmehbbieeaa.psof Go.Proofs.Ytbfejmehbbieeaa.psask Go.Proofs.Ytbfejmehbbieeaa.psmarks Go.Proofs.Ytbfejmehbbieeaa.psplaces

/-- groups: each one's marks, its prefixes -/
abbrev Gs := List (List Bool × Array P2)
def addG (gs : Gs) (m : List Bool) (x : P2) : Gs :=
  if gs.findIdx (fun g => g.1 == m) < gs.length then gs.set (gs.findIdx fun g => g.1 == m) (m, (gs.getD (gs.findIdx fun g => g.1 == m) default).2.push x) else gs ++ [(m, #[x])]
def marks (ds : Nat → Array P2) (n : Nat) (x : P2) : List Bool := (List.range n).map (inB ds x)
def groupTo (ds : Nat → Array P2) (n : Nat) (d : Array P2) : Nat → Gs
  | 0 => []
  | k + 1 => addG (groupTo ds n d k) (marks ds n d[k]!) d[k]!
/-- the text of marks -/
def kb (m : List Bool) : List UInt8 := (keyOfMarks (fun i => m.getD i false) m.length).data.toList
theorem kb_marks (ds : Nat → Array P2) (n : Nat) (x : P2) : (keyOfMarks (inB ds x) n).data.toList = kb (marks ds n x) := by
  unfold kb
  have hl : (marks ds n x).length = n := by simp [marks]
  rw [hl]
  congr 2
  apply key_ext
  intro k hk
  simp [marks, List.getD, hk]
theorem kb_inj {m m' : List Bool} (hl : m.length = m'.length) (h : kb m = kb m') : m = m' := by
  unfold kb at h
  rw [← hl] at h
  apply List.ext_getElem hl
  intro i h1 h2
  have := key_inj h i h1
  simpa [List.getD, h1, h2] using this

/-- all marks are as long, and no two groups have the same -/
structure Tidy (n : Nat) (gs : Gs) : Prop where
  len : ∀ i, i < gs.length → (gs.getD i default).1.length = n
  par : ∀ i j, i < gs.length → j < gs.length → (gs.getD i default).1 = (gs.getD j default).1 → i = j
  pos : ∀ i, i < gs.length → 0 < (gs.getD i default).2.size
theorem find_key {gs : Gs} {m : List Bool} (h : gs.findIdx (fun g => g.1 == m) < gs.length) : (gs.getD (gs.findIdx fun g => g.1 == m) default).1 = m := by
  have := List.findIdx_getElem (p := fun g : List Bool × Array P2 => g.1 == m) (xs := gs) (w := h)
  rw [List.getD_eq_getElem?_getD, List.getElem?_eq_getElem h]
  simpa using this
theorem find_none {gs : Gs} {m : List Bool} (h : ¬ gs.findIdx (fun g => g.1 == m) < gs.length) : ∀ i, i < gs.length → (gs.getD i default).1 ≠ m := by
  intro i hi e
  apply h
  rw [List.findIdx_lt_length]
  refine ⟨gs[i], List.getElem_mem _, ?_⟩
  rw [List.getD_eq_getElem?_getD, List.getElem?_eq_getElem hi] at e
  simpa using e
theorem getD_set {gs : Gs} {j : Nat} (hj : j < gs.length) (g : List Bool × Array P2) (i : Nat) : (gs.set j g).getD i default = if i = j then g else gs.getD i default := by
  rw [List.getD_eq_getElem?_getD, List.getD_eq_getElem?_getD, List.getElem?_set]
  by_cases e : j = i
  · rw [if_pos e, if_pos e.symm, if_pos (by omega)]; rfl
  · rw [if_neg e, if_neg (fun h => e h.symm)]
theorem getD_snoc (gs : Gs) (g : List Bool × Array P2) (i : Nat) : (gs ++ [g]).getD i default = if i = gs.length then g else gs.getD i default := by
  rw [List.getD_eq_getElem?_getD, List.getD_eq_getElem?_getD]
  by_cases e : i = gs.length
  · rw [if_pos e, e]; simp
  · rw [if_neg e]
    by_cases h : i < gs.length
    · rw [List.getElem?_append_left h]
    · rw [List.getElem?_eq_none (by simp; omega), List.getElem?_eq_none (by omega)]
theorem tidy_set {n : Nat} {gs : Gs} (h : Tidy n gs) {j : Nat} (hj : j < gs.length) {m : List Bool} (hm : (gs.getD j default).1 = m) (x : P2) : Tidy n (gs.set j (m, (gs.getD j default).2.push x)) := by
  have hk : ∀ i, i < gs.length → ((gs.set j (m, (gs.getD j default).2.push x)).getD i default).1 = (gs.getD i default).1 := by
    intro i hi
    rw [getD_set hj]
    by_cases e : i = j
    · rw [if_pos e, e, hm]
    · rw [if_neg e]
  have hl : (gs.set j (m, (gs.getD j default).2.push x)).length = gs.length := by simp
  constructor
  · intro i hi; rw [hl] at hi; rw [hk i hi]; exact h.len i hi
  · intro i k hi hk2 e
    rw [hl] at hi hk2
    rw [hk i hi, hk k hk2] at e
    exact h.par i k hi hk2 e
  · intro i hi
    rw [hl] at hi
    rw [getD_set hj]
    by_cases e : i = j
    · rw [if_pos e]; simp
    · rw [if_neg e]; exact h.pos i hi
theorem tidy_snoc {n : Nat} {gs : Gs} (h : Tidy n gs) {m : List Bool} (hm : m.length = n) (hne : ∀ i, i < gs.length → (gs.getD i default).1 ≠ m) (x : P2) : Tidy n (gs ++ [(m, #[x])]) := by
  constructor
  · intro i hi
    rw [getD_snoc]
    by_cases e : i = gs.length
    · rw [if_pos e]; exact hm
    · rw [if_neg e]; exact h.len i (by simp at hi; omega)
  · intro i k hi hk e
    rw [getD_snoc, getD_snoc] at e
    simp at hi hk
    by_cases e1 : i = gs.length
    · by_cases e2 : k = gs.length
      · omega
      · rw [if_pos e1, if_neg e2] at e
        exact absurd e.symm (hne k (by omega))
    · by_cases e2 : k = gs.length
      · rw [if_neg e1, if_pos e2] at e
        exact absurd e (hne i (by omega))
      · rw [if_neg e1, if_neg e2] at e
        exact h.par i k (by omega) (by omega) e
  · intro i hi
    rw [getD_snoc]
    by_cases e : i = gs.length
    · rw [if_pos e]; simp
    · rw [if_neg e]; exact h.pos i (by simp at hi; omega)
theorem tidy_to (ds : Nat → Array P2) (n : Nat) (d : Array P2) : ∀ k, Tidy n (groupTo ds n d k)
  | 0 => ⟨fun i hi => by simp [groupTo] at hi, fun i j hi => by simp [groupTo] at hi, fun i hi => by simp [groupTo] at hi⟩
  | k + 1 => by
    rw [groupTo, addG]
    by_cases h : (groupTo ds n d k).findIdx (fun g => g.1 == marks ds n d[k]!) < (groupTo ds n d k).length
    · rw [if_pos h]; exact tidy_set (tidy_to ds n d k) h (find_key h) _
    · rw [if_neg h]; exact tidy_snoc (tidy_to ds n d k) (by simp [marks]) (find_none h) _
theorem len_to (ds : Nat → Array P2) (n : Nat) (d : Array P2) : ∀ k, (groupTo ds n d k).length ≤ k
  | 0 => by simp [groupTo]
  | k + 1 => by
    have := len_to ds n d k
    rw [groupTo, addG]
    split <;> simp <;> omega

theorem size_to (ds : Nat → Array P2) (n : Nat) (d : Array P2) : ∀ k i, ((groupTo ds n d k).getD i default).2.size ≤ k
  | 0, i => Nat.le_refl 0
  | k + 1, i => by
    rw [groupTo, addG]
    have h := size_to ds n d k
    by_cases hf : (groupTo ds n d k).findIdx (fun g => g.1 == marks ds n d[k]!) < (groupTo ds n d k).length
    · rw [if_pos hf, getD_set hf]
      by_cases e : i = (groupTo ds n d k).findIdx (fun g => g.1 == marks ds n d[k]!)
      · rw [if_pos e]
        have := h ((groupTo ds n d k).findIdx (fun g => g.1 == marks ds n d[k]!))
        dsimp only
        rw [Array.size_push]; omega
      · rw [if_neg e]
        have := h i
        omega
    · rw [if_neg hf, getD_snoc]
      by_cases e : i = (groupTo ds n d k).length
      · rw [if_pos e]; simp
      · rw [if_neg e]
        have := h i
        omega
theorem fl_push (d : Array P2) (x : P2) : fl (d.push x) = fl d ++ enc x := by
  apply List.ext_getElem?
  intro j
  by_cases h : j < d.size * 2
  · rw [fl_get _ j (by simp; omega), List.getElem?_append_left (by rw [fl_len]; exact h), fl_get _ j h]
    have : j / 2 < d.size := by omega
    rw [show (d.push x)[j / 2]! = d[j / 2]! by
      rw [getElem!_pos (d.push x) (j / 2) (by simp; omega), getElem!_pos d (j / 2) this, Array.getElem_push_lt this]]
  · rw [List.getElem?_append_right (by rw [fl_len]; omega), fl_len]
    by_cases h2 : j < d.size * 2 + 2
    · rw [fl_get _ j (by simp; omega)]
      have e1 : j / 2 = d.size := by omega
      have e2 : j - d.size * 2 = j % 2 := by omega
      rw [e1, e2, show (d.push x)[d.size]! = x by rw [getElem!_pos (d.push x) d.size (by simp)]; simp]
      have : j % 2 = 0 ∨ j % 2 = 1 := by omega
      rcases this with e | e <;> rw [e] <;> rfl
    · rw [List.getElem?_eq_none (by rw [fl_len]; simp; omega), List.getElem?_eq_none (by simp [enc]; omega)]

/-- the map of the groups' texts -/
structure MapOk {H : Type} (n : Nat) (D : DataW H) (gs : Gs) : Prop where
  map : Maps.IsMap D
  has : ∀ m : List Bool, m.length = n → (Maps.has D (.string (kb m)) = true ↔ ∃ i, i < gs.length ∧ (gs.getD i default).1 = m)
  key : ∀ i, i < gs.length → ∀ z, D.atKey (.string (kb (gs.getD i default).1)) z = .lit (.int .i64 i)
theorem mapOk_nil {H : Type} (n : Nat) : MapOk n (.map [] : DataW H) [] :=
  ⟨⟨[], rfl⟩, fun m hm => by simp [Maps.has], fun i hi => by simp at hi⟩
theorem mapOk_set {H : Type} {n : Nat} {D : DataW H} {gs : Gs} (h : MapOk n D gs) {j : Nat} (hj : j < gs.length) {m : List Bool} (hm : (gs.getD j default).1 = m) (y : Array P2) : MapOk n D (gs.set j (m, y)) := by
  have hk : ∀ i, ((gs.set j (m, y)).getD i default).1 = (gs.getD i default).1 := by
    intro i
    rw [getD_set hj]
    by_cases e : i = j
    · rw [if_pos e, e, hm]
    · rw [if_neg e]
  have hl : (gs.set j (m, y)).length = gs.length := by simp
  refine ⟨h.map, fun m' hm' => ?_, fun i hi z => ?_⟩
  · rw [h.has m' hm', hl]
    constructor
    · rintro ⟨i, h1, h2⟩; exact ⟨i, h1, by rw [hk, h2]⟩
    · rintro ⟨i, h1, h2⟩; exact ⟨i, h1, by rw [← h2, hk]⟩
  · rw [hk]
    exact h.key i (by rwa [hl] at hi) z
theorem mapOk_put {H : Type} {n : Nat} {D : DataW H} {gs : Gs} (h : MapOk n D gs) (ht : Tidy n gs) {m : List Bool} (hm : m.length = n) (hne : ∀ i, i < gs.length → (gs.getD i default).1 ≠ m) (x : P2) :
    MapOk n (D.put (.string (kb m)) (.lit (.int .i64 gs.length))) (gs ++ [(m, #[x])]) := by
  have hne2 : ∀ m' : List Bool, m'.length = n → m' ≠ m → (Lit.string (kb m')) ≠ Lit.string (kb m) := fun m' hl hn e => by
    simp only [Lit.string.injEq] at e
    exact hn (kb_inj (by omega) e)
  refine ⟨h.map.put _ _, fun m' hm' => ?_, fun i hi z => ?_⟩
  · by_cases e : m' = m
    · subst e
      rw [Maps.has_put_same h.map (by unfold WideAt.IsKeyLit; trivial)]
      simp only [true_iff]
      exact ⟨gs.length, by simp, by rw [getD_snoc, if_pos rfl]⟩
    · rw [Maps.has_put_other (hne2 m' hm' e), h.has m' hm']
      constructor
      · rintro ⟨i, h1, h2⟩
        exact ⟨i, by simp; omega, by rw [getD_snoc, if_neg (by omega), h2]⟩
      · rintro ⟨i, h1, h2⟩
        rw [getD_snoc] at h2
        by_cases ei : i = gs.length
        · rw [if_pos ei] at h2; exact absurd h2.symm e
        · rw [if_neg ei] at h2
          exact ⟨i, by simp at h1; omega, h2⟩
  · rw [getD_snoc]
    by_cases ei : i = gs.length
    · rw [if_pos ei, ei]
      exact Maps.atKey_put_same h.map (by unfold WideAt.IsKeyLit; trivial) _ _
    · rw [if_neg ei]
      have hi2 : i < gs.length := by simp at hi; omega
      rw [Maps.atKey_put_other (hne2 _ (ht.len i hi2) (hne i hi2))]
      exact h.key i hi2 z

/-- HOW THE GROUPS LIE: a row of their own of slices, each of which has a row of its own; none shares a block -/
structure Mem (w : World) (base mb : Nat) (ov : Value) (ss : List Value) (gs : Gs) : Prop where
  outer : w.ownsRow base 29 1 ov gs.length ss
  omb : ov.ownBlock ≠ some mb
  inner : ∀ i, i < gs.length → w.ownsRow base 26 2 (ss.getD i undef) (gs.getD i default).2.size (fl (gs.getD i default).2)
  ino : ∀ i, i < gs.length → (ss.getD i undef).ownBlock ≠ ov.ownBlock ∧ (ss.getD i undef).ownBlock ≠ some mb
  inj : ∀ i j, i < gs.length → j < gs.length → i ≠ j → (ss.getD i undef).ownBlock ≠ (ss.getD j undef).ownBlock
theorem own_below {w w' : World} {base : Nat} {e : TypeId} {size n : Nat} {v : Value} {xs : List Value} (h : w.ownsRow base e size v n xs) (hb : Below w.heap.size w w') : w'.ownsRow base e size v n xs := by
  have hlt := h.lt
  obtain ⟨h1, h2⟩ := h
  refine ⟨h1, ?_⟩
  rcases h2 with h2 | ⟨g, cap, cur, hv, hg, hh, r⟩
  · exact .inl h2
  · exact .inr ⟨g, cap, cur, hv, hg, (hb.block g (Array.getElem?_eq_some_iff.1 hh).1).trans hh, r⟩
theorem Mem.below {w w' : World} {base mb : Nat} {ov : Value} {ss : List Value} {gs : Gs} (h : Mem w base mb ov ss gs) (hb : Below w.heap.size w w') : Mem w' base mb ov ss gs :=
  ⟨own_below h.outer hb, h.omb, fun i hi => own_below (h.inner i hi) hb, h.ino, h.inj⟩
theorem map_below {H : Type} {w w' : World} {P : Program} {k : TypeId} {R : Value → Option (DataW H × List MemPlace)} {b n : Nat} {D : DataW H} (h : w.ownsMap P k R b n D) (hb : Below w.heap.size w w') : w'.ownsMap P k R b n D := by
  have hlt := h.lt
  obtain ⟨es, clock, hh, F, hs, hD⟩ := h
  exact ⟨es, clock, (hb.block b hlt).trans hh, F, hs, hD⟩
/-- behind a growth of another block -/
theorem Mem.kept {w w' : World} {base mb : Nat} {ov : Value} {ss : List Value} {gs : Gs} (h : Mem w base mb ov ss gs) (hg : w.grownBy w' (some mb)) : Mem w' base mb ov ss gs := by
  refine ⟨h.outer.kept hg (.inr h.omb), h.omb, fun i hi => (h.inner i hi).kept hg (.inr (h.ino i hi).2), h.ino, h.inj⟩

theorem own_block_lt {w : World} {base : Nat} {e : TypeId} {size n : Nat} {v : Value} {xs : List Value} (h : w.ownsRow base e size v n xs) {b : Nat} (hb : v.ownBlock = some b) : b < w.heap.size := (h.lt b hb).2
/-- one cell of a row of one's own, written anew -/
theorem own_set {w : World} {base : Nat} {e : TypeId} {ob n cap : Nat} {xs : List Value} (h : w.ownsRow base e 1 (.slice (some ⟨ob, 0, none⟩) n cap) n xs) {j : Nat} (hj : j < n) (v : Value) :
    (w.setCell ⟨ob, j, none⟩ v).ownsRow base e 1 (.slice (some ⟨ob, 0, none⟩) n cap) n (xs.set j v) := by
  obtain ⟨h1, h2⟩ := h
  refine ⟨by simpa using h1, ?_⟩
  rcases h2 with ⟨e, _⟩ | ⟨g, c, cur, hv, hg, hh, hc, hm, hs, ht⟩
  · cases e
  · cases hv
    refine .inr ⟨ob, cap, cur.setIfInBounds j v, rfl, hg, ?_, hc, hm, by simpa using hs, ?_⟩
    · rw [Sort.setCell_eq]
      unfold Sort.mapBlock
      simp only [Array.getElem?_modify, if_true, hh, Option.map_some, Sort.onCells]
    · rw [Array.toList_setIfInBounds, List.take_set, ht]
theorem getD_set_v {ss : List Value} {j : Nat} (hj : j < ss.length) (v : Value) (i : Nat) : (ss.set j v).getD i undef = if i = j then v else ss.getD i undef := by
  rw [List.getD_eq_getElem?_getD, List.getD_eq_getElem?_getD, List.getElem?_set]
  by_cases e : j = i
  · rw [if_pos e, if_pos e.symm, if_pos (by omega)]; rfl
  · rw [if_neg e, if_neg (fun h => e h.symm)]
theorem getD_snoc_v (ss : List Value) (v : Value) (i : Nat) : (ss ++ [v]).getD i undef = if i = ss.length then v else ss.getD i undef := by
  rw [List.getD_eq_getElem?_getD, List.getD_eq_getElem?_getD]
  by_cases e : i = ss.length
  · rw [if_pos e, e]; simp
  · rw [if_neg e]
    by_cases h : i < ss.length
    · rw [List.getElem?_append_left h]
    · rw [List.getElem?_eq_none (by simp; omega), List.getElem?_eq_none (by omega)]
theorem Mem.len {w : World} {base mb : Nat} {ov : Value} {ss : List Value} {gs : Gs} (h : Mem w base mb ov ss gs) : ss.length = gs.length := by
  have := h.outer.1
  omega
/-- a group has one more -/
theorem mem_push {w2 w3 : World} {base mb ob capo g cap j : Nat} {ss : List Value} {gs : Gs} {m : List Bool} {x : P2} (h : Mem w2 base mb (.slice (some ⟨ob, 0, none⟩) gs.length capo) ss gs) (hj : j < gs.length) (hmb : mb < w2.heap.size)
    (hown : w3.ownsRow base 26 2 (.slice (some ⟨g, 0, none⟩) ((gs.getD j default).2.size + 1) cap) ((gs.getD j default).2.size + 1) (fl (gs.getD j default).2 ++ enc x))
    (hgrow : w2.grownBy w3 (ss.getD j undef).ownBlock) (hat : (ss.getD j undef).ownBlock = some g ∨ g = w2.heap.size) :
    Mem (w3.setCell ⟨ob, j, none⟩ (.slice (some ⟨g, 0, none⟩) ((gs.getD j default).2.size + 1) cap)) base mb (.slice (some ⟨ob, 0, none⟩) gs.length capo) (ss.set j (.slice (some ⟨g, 0, none⟩) ((gs.getD j default).2.size + 1) cap)) (gs.set j (m, (gs.getD j default).2.push x)) := by
  have hl := h.len
  have hob := own_block_lt h.outer (b := ob) rfl
  have hgo : g ≠ ob := by
    rcases hat with e | e
    · intro e2
      exact (h.ino j hj).1 (by rw [e, e2]; rfl)
    · omega
  have hgm : g ≠ mb := by
    rcases hat with e | e
    · intro e2
      exact (h.ino j hj).2 (by rw [e, e2])
    · omega
  have hgi : ∀ i, i < gs.length → i ≠ j → (ss.getD i undef).ownBlock ≠ some g := by
    intro i hi hij e2
    rcases hat with e | e
    · exact h.inj i j hi hj hij (by rw [e2, e])
    · have := own_block_lt (h.inner i hi) e2
      omega
  have hsl : (gs.set j (m, (gs.getD j default).2.push x)).length = gs.length := by simp
  constructor
  · rw [hsl]
    exact own_set (h.outer.kept hgrow (.inr (fun e => (h.ino j hj).1 e.symm))) hj _
  · exact h.omb
  · intro i hi
    rw [hsl] at hi
    rw [getD_set_v (by omega), getD_set hj]
    by_cases e : i = j
    · rw [if_pos e, if_pos e]
      refine ownsRow_setCell_other ?_ (by simpa [Value.ownBlock] using hgo) _
      rw [show (m, (gs.getD j default).2.push x).2.size = (gs.getD j default).2.size + 1 by simp, fl_push]
      exact hown
    · rw [if_neg e, if_neg e]
      refine ownsRow_setCell_other ((h.inner i hi).kept hgrow (.inr (h.inj i j hi hj e))) ?_ _
      exact fun e2 => (h.ino i hi).1 e2
  · intro i hi
    rw [hsl] at hi
    rw [getD_set_v (by omega)]
    by_cases e : i = j
    · rw [if_pos e]
      refine ⟨by simpa [Value.ownBlock] using hgo, by simpa [Value.ownBlock] using hgm⟩
    · rw [if_neg e]; exact h.ino i hi
  · intro i k hi hk hik
    rw [hsl] at hi hk
    rw [getD_set_v (by omega), getD_set_v (by omega)]
    by_cases e : i = j
    · rw [if_pos e, if_neg (by omega)]
      exact fun e2 => hgi k hk (by omega) e2.symm
    · rw [if_neg e]
      by_cases e3 : k = j
      · rw [if_pos e3]
        exact fun e2 => hgi i hi e e2
      · rw [if_neg e3]; exact h.inj i k hi hk hik
/-- a new group, of none yet -/
theorem mem_new {w2 w3 : World} {base mb g cap : Nat} {ov : Value} {ss : List Value} {gs : Gs} {m : List Bool} (h : Mem w2 base mb ov ss gs) (hpos : ∀ i, i < gs.length → 0 < (gs.getD i default).2.size) (hmb : mb < w2.heap.size)
    (hown : w3.ownsRow base 29 1 (.slice (some ⟨g, 0, none⟩) (gs.length + 1) cap) (gs.length + 1) (ss ++ [.slice none 0 0]))
    (hgrow : w2.grownBy w3 ov.ownBlock) (hat : ov.ownBlock = some g ∨ g = w2.heap.size) :
    Mem w3 base mb (.slice (some ⟨g, 0, none⟩) (gs.length + 1) cap) (ss ++ [.slice none 0 0]) (gs ++ [(m, #[])]) := by
  have hl := h.len
  have hsome : ∀ i, i < gs.length → ∃ b, (ss.getD i undef).ownBlock = some b ∧ b < w2.heap.size := by
    intro i hi
    obtain ⟨g', c', e, _, hlt⟩ := (h.inner i hi).form (hpos i hi)
    exact ⟨g', by rw [e]; rfl, hlt⟩
  have hsl : (gs ++ [(m, (#[] : Array P2))]).length = gs.length + 1 := by simp
  constructor
  · rw [hsl]; exact hown
  · rcases hat with e | e
    · intro e2
      exact h.omb (by rw [e, ← e2]; rfl)
    · intro e2
      simp only [Value.ownBlock, Option.some.injEq] at e2
      omega
  · intro i hi
    rw [hsl] at hi
    rw [getD_snoc_v, getD_snoc, hl]
    by_cases e : i = gs.length
    · rw [if_pos e, if_pos e]
      rw [show fl (m, (#[] : Array P2)).2 = [] from List.eq_nil_of_length_eq_zero (by rw [fl_len]; rfl)]
      exact World.ownsRow_nil _ _ _ _
    · rw [if_neg e, if_neg e]
      exact (h.inner i (by omega)).kept hgrow (.inr (h.ino i (by omega)).1)
  · intro i hi
    rw [hsl] at hi
    rw [getD_snoc_v, hl]
    by_cases e : i = gs.length
    · rw [if_pos e]; exact ⟨by simp [Value.ownBlock], by simp [Value.ownBlock]⟩
    · rw [if_neg e]
      obtain ⟨b, hb, hlt⟩ := hsome i (by omega)
      refine ⟨fun e2 => ?_, (h.ino i (by omega)).2⟩
      rw [hb] at e2
      simp only [Value.ownBlock, Option.some.injEq] at e2
      rcases hat with e3 | e3
      · exact (h.ino i (by omega)).1 (by rw [hb, e3, e2])
      · omega
  · intro i k hi hk hik
    rw [hsl] at hi hk
    rw [getD_snoc_v, getD_snoc_v, hl]
    by_cases e : i = gs.length
    · rw [if_pos e, if_neg (by omega)]
      obtain ⟨b, hb, _⟩ := hsome k (by omega)
      rw [hb]; simp [Value.ownBlock]
    · rw [if_neg e]
      by_cases e3 : k = gs.length
      · rw [if_pos e3]
        obtain ⟨b, hb, _⟩ := hsome i (by omega)
        rw [hb]; simp [Value.ownBlock]
      · rw [if_neg e3]; exact h.inj i k (by omega) (by omega) hik

theorem map_setCell {H : Type} {w : World} {P : Program} {k : TypeId} {R : Value → Option (DataW H × List MemPlace)} {b n : Nat} {D : DataW H} (h : w.ownsMap P k R b n D) {ob : Nat} (hne : ob ≠ b) (j : Nat) (v : Value) : (w.setCell ⟨ob, j, none⟩ v).ownsMap P k R b n D := by
  obtain ⟨es, clock, hh, F, hs, hD⟩ := h
  refine ⟨es, clock, ?_, F, hs, hD⟩
  rw [Sort.setCell_eq]
  unfold Sort.mapBlock
  simp only [Array.getElem?_modify]
  rw [if_neg hne]
  exact hh
/-- ALL THAT HOLDS BEHIND 'groups[j].ps = append(groups[j].ps, p)' -/
theorem push_all {w w1 w3 : World} {mb ob capo g cap j n : Nat} {P : Program} {kt : TypeId} {R : Value → Option (DataW Unit × List MemPlace)} {D : DataW Unit} {sl : List Value} {gs : Gs} {m : List Bool} {x : P2} (o : Obj) (hM : Mem w1 w.heap.size mb (.slice (some ⟨ob, 0, none⟩) gs.length capo) sl gs) (hj : j < gs.length)
    (hmb : mb < w1.heap.size) (hB : Below w.heap.size w w1) (hO : w1.ownsMap P kt R mb n D)
    (hown : w3.ownsRow w.heap.size 26 2 (.slice (some ⟨g, 0, none⟩) ((gs.getD j default).2.size + 1) cap) ((gs.getD j default).2.size + 1) (fl (gs.getD j default).2 ++ enc x))
    (hgrow : (w1.alloc o).drew.grownBy w3 (sl.getD j undef).ownBlock) (hat : (sl.getD j undef).ownBlock = some g ∨ g = (w1.alloc o).drew.heap.size) :
    Mem (w3.setCell ⟨ob, j, none⟩ (.slice (some ⟨g, 0, none⟩) ((gs.getD j default).2.size + 1) cap)) w.heap.size mb (.slice (some ⟨ob, 0, none⟩) gs.length capo) (sl.set j (.slice (some ⟨g, 0, none⟩) ((gs.getD j default).2.size + 1) cap)) (gs.set j (m, (gs.getD j default).2.push x)) ∧
      (w3.setCell ⟨ob, j, none⟩ (.slice (some ⟨g, 0, none⟩) ((gs.getD j default).2.size + 1) cap)).ownsMap P kt R mb n D ∧ mb < (w3.setCell ⟨ob, j, none⟩ (.slice (some ⟨g, 0, none⟩) ((gs.getD j default).2.size + 1) cap)).heap.size ∧
      Below w.heap.size w (w3.setCell ⟨ob, j, none⟩ (.slice (some ⟨g, 0, none⟩) ((gs.getD j default).2.size + 1) cap)) := by
  have hb1 : Below w1.heap.size w1 (w1.alloc o).drew := ((Below.refl _ _).alloc (Nat.le_refl _) o).drew
  have hM2 := hM.below hb1
  have hobl : w.heap.size ≤ ob := (hM.outer.lt ob rfl).1
  have hmb2 : mb < (w1.alloc o).drew.heap.size := Nat.lt_of_lt_of_le hmb hb1.size
  refine ⟨mem_push hM2 hj hmb2 hown hgrow hat, ?_, ?_, ?_⟩
  · refine map_setCell ((map_below hO hb1).kept hgrow ?_) ?_ _ _
    · exact fun e => (hM.ino j hj).2 e.symm
    · intro e
      exact hM.omb (by rw [e]; rfl)
  · have := hgrow.size
    simp only [World.size_setCell]
    omega
  · refine Below.setCell ?_ hobl _
    refine (hB.trans (hb1.mono hB.size)).grown hgrow (Nat.le_trans hB.size hb1.size) ?_
    intro k hk
    exact (hM2.inner j hj).lt k hk |>.1

theorem set_snoc (gs : Gs) (g g' : List Bool × Array P2) : (gs ++ [g]).set gs.length g' = gs ++ [g'] := by
  rw [List.set_append_right _ _ (Nat.le_refl _)]
  simp
/-- .. AT A NEW GROUP -/
theorem push_new {w w1 w3 : World} {mb ob capo g cap n : Nat} {P : Program} {kt : TypeId} {R : Value → Option (DataW Unit × List MemPlace)} {D : DataW Unit} {sl : List Value} {gs : Gs} {m : List Bool} {x : P2} (o : Obj) (hM : Mem w1 w.heap.size mb (.slice (some ⟨ob, 0, none⟩) (gs.length + 1) capo) (sl ++ [.slice none 0 0]) (gs ++ [(m, #[])])) (hl : sl.length = gs.length)
    (hmb : mb < w1.heap.size) (hB : Below w.heap.size w w1) (hO : w1.ownsMap P kt R mb n D)
    (hown : w3.ownsRow w.heap.size 26 2 (.slice (some ⟨g, 0, none⟩) 1 cap) 1 (enc x))
    (hgrow : (w1.alloc o).drew.grownBy w3 none) (hat : g = (w1.alloc o).drew.heap.size) :
    Mem (w3.setCell ⟨ob, gs.length, none⟩ (.slice (some ⟨g, 0, none⟩) 1 cap)) w.heap.size mb (.slice (some ⟨ob, 0, none⟩) (gs.length + 1) capo) (sl ++ [.slice (some ⟨g, 0, none⟩) 1 cap]) (gs ++ [(m, #[x])]) ∧
      (w3.setCell ⟨ob, gs.length, none⟩ (.slice (some ⟨g, 0, none⟩) 1 cap)).ownsMap P kt R mb n D ∧ mb < (w3.setCell ⟨ob, gs.length, none⟩ (.slice (some ⟨g, 0, none⟩) 1 cap)).heap.size ∧
      Below w.heap.size w (w3.setCell ⟨ob, gs.length, none⟩ (.slice (some ⟨g, 0, none⟩) 1 cap)) := by
  have e1 : (gs ++ [(m, (#[] : Array P2))]).length = gs.length + 1 := by simp
  have e2 : ((gs ++ [(m, (#[] : Array P2))]).getD gs.length default).2 = #[] := by rw [getD_snoc, if_pos rfl]
  have e3 : (sl ++ [Value.slice none 0 0]).getD gs.length undef = .slice none 0 0 := by rw [getD_snoc_v, if_pos hl.symm]
  have e4 : fl (#[] : Array P2) = [] := List.eq_nil_of_length_eq_zero (by rw [fl_len]; rfl)
  have h := push_all (w := w) (w1 := w1) (w3 := w3) (mb := mb) (ob := ob) (capo := capo) (g := g) (cap := cap) (j := gs.length) (n := n) (P := P) (kt := kt) (R := R) (D := D) (m := m) (x := x) o (by rw [e1]; exact hM) (by omega) hmb hB hO (by rw [e2, e4]; exact hown) (by rw [e3]; exact hgrow) (by rw [e3]; exact .inr hat)
  rw [e1, e2, set_snoc] at h
  have e5 : (sl ++ [Value.slice none 0 0]).set gs.length (.slice (some ⟨g, 0, none⟩) 1 cap) = sl ++ [.slice (some ⟨g, 0, none⟩) 1 cap] := by
    rw [← hl, List.set_append_right _ _ (Nat.le_refl _)]
    simp
  have e6 : (#[] : Array P2).size + 1 = 1 := rfl
  rw [e6, e5] at h
  exact h
end Go.Proofs.Ytbfejmehbbieeaa.psgroup
