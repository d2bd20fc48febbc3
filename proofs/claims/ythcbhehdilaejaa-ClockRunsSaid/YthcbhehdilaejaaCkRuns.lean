import Derived.Test.YthcbhehdilaejaaCkAll
import Derived.Deep.CutBlock
import Derived.Deep.CutRange
import Derived.Deep.DeepCutAuto
import Derived.Deep.Onto
/- The state of a round of ClockRuns, and what its steps leave. -/
set_option linter.unusedVariables false
set_option linter.unusedSimpArgs false
namespace Go.Proofs.Ythcbhehdilaejaa.lawClockRuns
open Go.ChangeShapes Go.WideShapes Go.ChangeAt Go.RowKit Go.Lib Go.Shelf Go.Proofs.Ythcbhehdilaejaa.frame Go.Proofs.Ythcbhehdilaejaa.ckmath Go.Proofs.Ythcbhehdilaejaa.ck Go.Proofs.Ythcbhehdilaejaa.ckopen Go.Proofs.Ythcbhehdilaejaa.lawClockLate Go.Proofs.Ythcbhehdilaejaa.ckall

/-- THE STATE at a round's head: the clock, the list, that they say the same -/
structure St (w : World) (cb : Nat) (now : Int) (al : List E) (g cap : Nat) (v : Value) (wr : World) : Prop where
  ck : Ck wr cb cb v now al
  own : wr.ownsRow w.heap.size 30 2 (.slice (some ⟨g, 0, none⟩) al.length cap) al.length (flS al)
  ng : ¬ mine cb v g
  bl : Below w.heap.size w wr
  hB : w.heap.size ≤ cb
theorem St.below {w wr wr' : World} {cb : Nat} {now : Int} {al : List E} {g cap : Nat} {v : Value} (h : St w cb now al g cap v wr) (hb : Below wr.heap.size wr wr') : St w cb now al g cap v wr' :=
  ⟨h.ck.below hb, ownS_same h.own (hb.block g (owns_cap h.own).2.1), h.ng, aid.kb hb h.bl, h.hB⟩
theorem St.base {w wr : World} {cb : Nat} {now : Int} {al : List E} {g cap : Nat} {v : Value} (h : St w cb now al g cap v wr) : cb ≤ wr.heap.size := by
  obtain ⟨l, h1, _⟩ := h.ck.ex
  have := h1.hp.lt
  omega
/-- behind a call of the clock's -/
theorem St.call {w wr w3 : World} {cb : Nat} {now now3 : Int} {al al3 : List E} {g cap : Nat} {v v3 : Value} (h : St w cb now al g cap v wr) (c3 : Ck w3 cb cb v3 now3 al3) (t : Tr wr cb v w3 v3) :
    Ck w3 cb cb v3 now3 al3 ∧ w3.ownsRow w.heap.size 30 2 (.slice (some ⟨g, 0, none⟩) al.length cap) al.length (flS al) ∧ ¬ mine cb v3 g ∧ Below w.heap.size w w3 :=
  ⟨c3, ownS_same h.own (t.kept.block g (owns_cap h.own).2.1 h.ng), fun hm => (t.fresh g hm).elim h.ng (fun x => by have := (owns_cap h.own).2.1; omega), h.bl.trans ((ck_below t h.ck h.base).mono h.hB)⟩

/-- where a name stands in the list, from the first i -/
def kOf (al : List E) (name : Int) (i : Nat) (k : Int) : Prop := (k = -1 ∧ ∀ j, j < i → al[j]!.2 ≠ name) ∨ ∃ j : Nat, k = j ∧ j < i ∧ al[j]!.2 = name
theorem nd_get {al : List E} (nd : (al.map (·.2)).Nodup) {i j : Nat} (hi : i < al.length) (hj : j < al.length) (e : al[i]!.2 = al[j]!.2) : i = j := by
  rw [getElem!_pos al i hi, getElem!_pos al j hj] at e
  have nd' := List.pairwise_iff_getElem.1 nd
  rcases Nat.lt_trichotomy i j with h | h | h
  · exact (nd' i j (by simpa using hi) (by simpa using hj) h (by simp only [List.getElem_map]; exact e)).elim
  · exact h
  · exact (nd' j i (by simpa using hj) (by simpa using hi) h (by simp only [List.getElem_map]; exact e.symm)).elim
theorem kOf_step {al : List E} {name : Int} {i : Nat} {k : Int} (h : kOf al name i k) (hi : i < al.length) : kOf al name (i + 1) (if al[i]!.2 = name then (i : Int) else k) := by
  by_cases e : al[i]!.2 = name
  · rw [if_pos e]; exact .inr ⟨i, rfl, by omega, e⟩
  · rw [if_neg e]
    rcases h with ⟨h1, h2⟩ | ⟨j, h1, h2, h3⟩
    · refine .inl ⟨h1, fun j hj => ?_⟩
      by_cases ej : j = i
      · rw [ej]; exact e
      · exact h2 j (by omega)
    · exact .inr ⟨j, h1, by omega, h3⟩

theorem kOf_cases {al : List E} {name k : Int} (h : kOf al name al.length k) : (k = -1 ∧ ∀ x ∈ al, x.2 ≠ name) ∨ ∃ (j : Nat) (a : Int), k = j ∧ j < al.length ∧ al[j]! = (a, name) ∧ al.Perm ((a, name) :: al.eraseIdx j) := by
  rcases h with ⟨h1, h2⟩ | ⟨j, h1, h2, h3⟩
  · refine .inl ⟨h1, fun x hx => ?_⟩
    obtain ⟨j, hj, e⟩ := List.mem_iff_getElem.1 hx
    have := h2 j hj
    rwa [getElem!_pos al j hj, e] at this
  · refine .inr ⟨j, al[j]!.1, h1, h2, by rw [← h3], ?_⟩
    have e := erase_p al j h2
    rw [← getElem!_pos al j h2] at e
    have : (al[j]!.1, name) = al[j]! := by rw [← h3]
    rw [this]
    exact e.symm
/-- a name's time is turned -/
theorem St.turn {w w3 : World} {cb : Nat} {now t a name : Int} {al : List E} {g cap j : Nat} {v : Value} (hB : w.heap.size ≤ cb) (hj : j < al.length) (hx : al[j]! = (a, name))
    (h : Ck w3 cb cb v now ((t, name) :: al.eraseIdx j) ∧ w3.ownsRow w.heap.size 30 2 (.slice (some ⟨g, 0, none⟩) al.length cap) al.length (flS al) ∧ ¬ mine cb v g ∧ Below w.heap.size w w3) :
    St w cb now (al.set j (t, name)) g cap v (w3.setCell ⟨g, j * 2 + 1, none⟩ (.int .i64 t)) := by
  obtain ⟨h1, h2, h3, h4⟩ := h
  have k : Kept (fun q => q = g) w3 (w3.setCell ⟨g, j * 2 + 1, none⟩ (.int .i64 t)) := (Kept.refl (fun q => q = g) w3).setCell (p := ⟨g, j * 2 + 1, none⟩) (.inl rfl) _
  have o := (h2.stored (j * 2 + 1) (.int .i64 t)).1
  rw [flS_set al j a t name hj hx] at o
  refine ⟨(h1.perm (set_p (t, name) al j hj).symm).kept k (fun q hq e => h3 (e ▸ hq)), by rw [List.length_set]; exact o, h3, h4.setCell (p := ⟨g, j * 2 + 1, none⟩) (owns_cap h2).2.2 _, hB⟩
/-- one is laid behind the others -/
theorem St.more {w w3 w4 : World} {cb : Nat} {now t name : Int} {al : List E} {g cap g2 cap2 : Nat} {v3 : Value} {ob : Obj} (hB : w.heap.size ≤ cb)
    (h : Ck w3 cb cb v3 now ((t, name) :: al) ∧ w3.ownsRow w.heap.size 30 2 (.slice (some ⟨g, 0, none⟩) al.length cap) al.length (flS al) ∧ ¬ mine cb v3 g ∧ Below w.heap.size w w3)
    (o4 : w4.ownsRow w.heap.size 30 2 (.slice (some ⟨g2, 0, none⟩) (al.length + 1) cap2) (al.length + 1) (flS al ++ encS (t, name))) (g4 : (w3.alloc ob).grownBy w4 (some g)) (a4 : some g = some g2 ∨ g2 = w3.heap.size + 1) :
    St w cb now (al ++ [(t, name)]) g2 cap2 v3 w4 := by
  obtain ⟨h1, h2, h3, h4⟩ := h
  have hbo := (owns_cap h2).2.2
  have BA : Below w3.heap.size w3 (w3.alloc ob) := (Below.refl _ _).alloc (Nat.le_refl _) _
  have c1 := (h1.below BA).kept (Kept.of_grown (m := fun q => q = g) g4 (fun q hq => (Option.some.inj hq).symm)) (fun q hq e => h3 (e ▸ hq))
  refine ⟨c1.perm (show ([(t, name)] ++ al).Perm (al ++ [(t, name)]) from List.perm_append_comm), by rw [List.length_append, flS_push]; exact o4, fun hm => ?_, (aid.kb BA h4).grown g4 (aid.kb BA h4).size (fun q hq => by have := Option.some.inj hq; omega), hB⟩
  rcases a4 with a4 | a4
  · exact h3 (Option.some.inj a4 ▸ hm)
  · obtain ⟨l, hh, _⟩ := h1.ex
    have := (hh.hp.ownLt hm).2
    omega
theorem RowS.grown {W w' : World} {g x : Nat} {l : List E} (h : RowS W g l) (hg : W.grownBy w' (some x)) (hb : g < W.heap.size) (hne : g ≠ x) : RowS w' g l := fun k hk => by
  obtain ⟨h0, h1⟩ := h k hk
  have n : some g ≠ some x := fun e => hne (Option.some.inj e)
  exact ⟨(hg.cell_far _ hb n).trans h0, (hg.cell_far _ hb n).trans h1⟩
/-- one is taken out -/
theorem St.drop {w w3 w5 : World} {cb : Nat} {now : Int} {al : List E} {g2 cap2 j m : Nat} {v3 : Value} (hB : w.heap.size ≤ cb) (hj : j < al.length) (c3 : Ck w3 cb cb v3 now (al.eraseIdx j)) (b3 : Below w.heap.size w w3)
    (o5 : w5.ownsRow w3.heap.size 30 2 (.slice (some ⟨g2, 0, none⟩) m cap2) m (([] ++ flS ((al.drop 0).take j)) ++ flS ((al.drop (j + 1)).take (al.length - (j + 1))))) (b5 : Below w3.heap.size w3 w5) :
    St w cb now (al.eraseIdx j) g2 cap2 v3 w5 ∧ m = (al.eraseIdx j).length := by
  have e : ([] ++ flS ((al.drop 0).take j)) ++ flS ((al.drop (j + 1)).take (al.length - (j + 1))) = flS (al.eraseIdx j) := by
    rw [List.nil_append, List.drop_zero, List.take_of_length_le (l := al.drop (j + 1)) (by rw [List.length_drop]; exact Nat.le_refl _), ← flS_app, List.eraseIdx_eq_take_drop_succ]
  rw [e] at o5
  have hm : m = (al.eraseIdx j).length := (ownS_row o5).1.symm
  rw [hm] at o5
  refine ⟨⟨c3.below b5, o5.mono b3.size, fun hq => ?_, aid.kb b5 b3, hB⟩, hm⟩
  obtain ⟨l, hh, _⟩ := c3.ex
  have := (hh.hp.ownLt hq).2
  have := (owns_cap o5).2.2
  omega
/-- what is first of those that are due at U -/
def fOf (al : List E) (U : Int) (i : Nat) (f : Int) : Prop := (f = -1 ∧ ∀ q, q < i → U < al[q]!.1) ∨ ∃ m : Nat, f = m ∧ m < i ∧ al[m]!.1 ≤ U ∧ ∀ q, q < i → al[q]!.1 ≤ U → ltE al[q]! al[m]! = false
theorem fOf_skip {al : List E} {U : Int} {i : Nat} {f : Int} (h : fOf al U i f) (hn : U < al[i]!.1) : fOf al U (i + 1) f := by
  rcases h with ⟨h1, h2⟩ | ⟨m, h1, h2, h3, h4⟩
  · refine .inl ⟨h1, fun q hq => ?_⟩
    by_cases e : q = i
    · rw [e]; exact hn
    · exact h2 q (by omega)
  · refine .inr ⟨m, h1, by omega, h3, fun q hq hu => ?_⟩
    by_cases e : q = i
    · rw [e] at hu; omega
    · exact h4 q (by omega) hu
theorem fOf_new {al : List E} {U : Int} {i : Nat} (h : fOf al U i (-1)) (hu : al[i]!.1 ≤ U) : fOf al U (i + 1) (i : Int) := by
  rcases h with ⟨_, h2⟩ | ⟨m, h1, _⟩
  · refine .inr ⟨i, rfl, by omega, hu, fun q hq hq2 => ?_⟩
    by_cases e : q = i
    · rw [e]; exact geE_refl _
    · have := h2 q (by omega); omega
  · omega
theorem fOf_less {al : List E} {U : Int} {i m : Nat} (h : fOf al U i (m : Int)) (hu : al[i]!.1 ≤ U) (hl : ltE al[i]! al[m]! = true) : fOf al U (i + 1) (i : Int) := by
  rcases h with ⟨h1, _⟩ | ⟨m', h1, h2, h3, h4⟩
  · omega
  · obtain rfl : m = m' := by omega
    refine .inr ⟨i, rfl, by omega, hu, fun q hq hq2 => ?_⟩
    by_cases e : q = i
    · rw [e]; exact geE_refl _
    · exact geE_trans (h4 q (by omega) hq2) (ltE_asymm hl)
theorem fOf_keep {al : List E} {U : Int} {i m : Nat} (h : fOf al U i (m : Int)) (hl : ltE al[i]! al[m]! = false) : fOf al U (i + 1) (m : Int) := by
  rcases h with ⟨h1, _⟩ | ⟨m', h1, h2, h3, h4⟩
  · omega
  · obtain rfl : m = m' := by omega
    refine .inr ⟨m, rfl, by omega, h3, fun q hq hq2 => ?_⟩
    by_cases e : q = i
    · rw [e]; exact hl
    · exact h4 q (by omega) hq2
theorem fOf_end {al : List E} {U f : Int} (h : fOf al U al.length f) : (f = -1 ∧ ∀ x ∈ al, U < x.1) ∨ ∃ (m : Nat) (a n : Int), f = m ∧ m < al.length ∧ al[m]! = (a, n) ∧ a ≤ U ∧ al.Perm ((a, n) :: al.eraseIdx m) ∧ ∀ y ∈ al.eraseIdx m, ltE y (a, n) = false := by
  have mem : ∀ x ∈ al, ∃ q, q < al.length ∧ x = al[q]! := fun x hx => by
    obtain ⟨j, hj, e⟩ := List.mem_iff_getElem.1 hx
    exact ⟨j, hj, by rw [getElem!_pos al j hj, e]⟩
  rcases h with ⟨h1, h2⟩ | ⟨m, h1, h2, h3, h4⟩
  · refine .inl ⟨h1, fun x hx => ?_⟩
    obtain ⟨q, hq, e⟩ := mem x hx
    rw [e]; exact h2 q hq
  · obtain ⟨⟨a, n⟩, hx⟩ : ∃ x, x = al[m]! := ⟨_, rfl⟩
    rw [← hx] at h3 h4
    have e := erase_p al m h2
    rw [← getElem!_pos al m h2, ← hx] at e
    refine .inr ⟨m, a, n, h1, h2, hx.symm, h3, e.symm, fun y hy => ?_⟩
    obtain ⟨q, hq, ey⟩ := mem y (e.mem_iff.1 (List.mem_cons_of_mem _ hy))
    by_cases hu : y.1 ≤ U
    · rw [ey] at hu ⊢; exact h4 q hq hu
    · rw [geE_iff]; dsimp only at h3 ⊢; omega

end Go.Proofs.Ythcbhehdilaejaa.lawClockRuns
