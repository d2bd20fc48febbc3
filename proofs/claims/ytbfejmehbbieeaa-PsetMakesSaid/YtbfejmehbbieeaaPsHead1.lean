import Derived.Test.YtbfejmehbbieeaaPsSame
import Derived.Test.YtbfejmehbbieeaaPsGroup2
/- The example at the head of every law of sets: its numbers. -/
set_option linter.unusedVariables false
set_option linter.unusedSimpArgs false
namespace Go.Proofs.Ytbfejmehbbieeaa.pshead
open Go.RowKit Go.Shelf Go.Lib Go.Sort Go.Proofs.Ytbfejmehbbieeaa.math1 Go.Proofs.Ytbfejmehbbieeaa.pscmp Go.Proofs.Ytbfejmehbbieeaa.psfind Go.Proofs.Ytbfejmehbbieeaa.pssort Go.Proofs.Ytbfejmehbbieeaa.psuniq Go.Proofs.Ytbfejmehbbieeaa.pscompact Go.Proofs.Ytbfejmehbbieeaa.psof Go.Proofs.Ytbfejmehbbieeaa.psask Go.Proofs.Ytbfejmehbbieeaa.psplaces Go.Proofs.Ytbfejmehbbieeaa.psgroup

def q (k : Int) : P2 := (k * 16777216, 8)
theorem mk1 : mk #[q 3, q 1, q 2, q 1] = #[q 1, q 2, q 3] := strict_ext (mk_strict _) (strict_of_pairwise (by decide)) (fun x => by
  rw [mk_mem]
  simp only [List.mem_cons, List.not_mem_nil, or_false]
  constructor
  · rintro (h | h | h | h) <;> simp [h]
  · rintro (h | h | h) <;> simp [h])
theorem mk2 : mk #[q 1, q 2] = #[q 1, q 2] := mk_of_strict (strict_of_pairwise (by decide))
theorem mk3 : mk #[q 2] = #[q 2] := mk_of_strict (strict_of_pairwise (by decide))
theorem mk4 : mk #[q 1, q 3] = #[q 1, q 3] := mk_of_strict (strict_of_pairwise (by decide))
def dsA (i : Nat) : Array P2 := if i = 0 then #[q 1, q 2] else #[q 2]
def dsB (i : Nat) : Array P2 := #[q 1, q 3]
theorem groupsA : (groupTo dsA 2 #[q 1, q 2, q 3] 3).length = 3 := by decide +kernel
theorem groupsB : groupTo dsB 1 #[q 1, q 2, q 3] 3 = [([true], #[q 1, q 3]), ([false], #[q 2])] := by decide +kernel
theorem ok1 : AllOk #[q 3, q 1, q 2, q 1] ∧ AllU #[q 3, q 1, q 2, q 1] := by unfold AllOk AllU; decide +kernel
theorem ok2 : AllOk #[q 1, q 2] ∧ AllU #[q 1, q 2] := by unfold AllOk AllU; decide +kernel
theorem ok3 : AllOk #[q 2] ∧ AllU #[q 2] := by unfold AllOk AllU; decide +kernel
theorem ok4 : AllOk #[q 1, q 3] ∧ AllU #[q 1, q 3] := by unfold AllOk AllU; decide +kernel

theorem fl_nil : fl (#[] : Array P2) = [] := List.eq_nil_of_length_eq_zero (by rw [fl_len]; rfl)
theorem fl_of (l : List P2) : fl l.toArray = l.flatMap enc := by
  suffices h : ∀ (m : List P2) (d : Array P2), fl (d ++ m.toArray) = fl d ++ m.flatMap enc by
    have := h l #[]
    rw [fl_nil] at this
    simpa using this
  intro m
  induction m with
  | nil => intro d; simp
  | cons x r ih =>
    intro d
    have := ih (d.push x)
    rw [fl_push] at this
    rw [List.flatMap_cons, ← List.append_assoc, ← this]
    congr 1
    simp
theorem lit_row (W : World) (t : TypeId) (cs : Array Value) (d : Array P2) (h : cs.toList = fl d) : Row (W.alloc (.cells cs t)) W.heap.size 0 d := by
  intro k hk
  have hl : cs.toList.length = d.size * 2 := by rw [h, fl_len]
  have g : ∀ j, j < d.size * 2 → (W.alloc (.cells cs t)).cell? ⟨W.heap.size, j, none⟩ = some (enc d[j / 2]!)[j % 2]! := by
    intro j hj
    have e := fl_get d j hj
    rw [← h, Array.getElem?_toList] at e
    go_simp
  have h0 := g (k * 2) (by omega)
  have h1 := g (k * 2 + 1) (by omega)
  rw [show k * 2 / 2 = k by omega, show k * 2 % 2 = 0 by omega] at h0
  rw [show (k * 2 + 1) / 2 = k by omega, show (k * 2 + 1) % 2 = 1 by omega] at h1
  rw [Nat.zero_add]
  exact ⟨h0, h1⟩
/-- Of, as the example calls it: a row that is no empty one -/
theorem of_lit (d e : Array P2) (n m : Nat) (hn : n = d.size) (hm : m = e.size) (hpos : 0 < m) (he : mk d = e) (hd : d.size ≤ 4096) (ho : AllOk d ∧ AllU d) (W : World) (b c : Nat) (hb : b < W.heap.size) (hR : Row W b 0 d) :
    Calls Try.prog 10 #[.slice (some ⟨b, 0, none⟩) n c] W fun e1 w' => (∃ g o cap, e1 = .returned (.tuple #[.agg #[.slice (some ⟨g, o, none⟩) m cap], .int .i64 0]) ∧ Row w' g o e ∧ g < w'.heap.size) ∧ Below W.heap.size W w' := by
  subst hn hm he
  refine (of_set _ d W (.inr ⟨b, 0, c, rfl, hR, hb⟩) (by omega) ho.2 ho.1 (by have := mk_size d; omega)).mono ?_
  rintro e1 w' ⟨⟨s, rfl, hs⟩, hb'⟩
  rcases hs with ⟨_, h0⟩ | ⟨g, o, cap, rfl, r, l⟩
  · rw [h0] at hpos; simp at hpos
  · exact ⟨⟨g, o, cap, rfl, r, l⟩, hb'⟩
/-- a variable that holds a set -/
structure Var (W : World) (b g o m cap : Nat) (d : Array P2) : Prop where
  cell : W.cell? ⟨b, 0, none⟩ = some (.slice (some ⟨g, o, none⟩) m cap)
  row : Row W g o d
  lt : g < W.heap.size
theorem Var.below {W W' : World} {b g o m cap : Nat} {d : Array P2} (h : Var W b g o m cap d) (hb : Below W.heap.size W W') : Var W' b g o m cap d :=
  ⟨aid.kc hb h.cell, h.row.below hb, Nat.lt_of_lt_of_le h.lt hb.size⟩
theorem Var.new (W : World) {g o m cap : Nat} {d : Array P2} (t : TypeId) (hr : Row W g o d) (hl : g < W.heap.size) : Var (W.alloc (.cells #[.slice (some ⟨g, o, none⟩) m cap] t)) W.heap.size g o m cap d :=
  ⟨by go_simp, hr.below ((Below.refl _ _).alloc (Nat.le_refl _) _), by simp; omega⟩

/-- what a caller reads of groups -/
theorem mem_out {w : World} {base mb : Nat} {ov : Value} {sl : List Value} {gs : Gs} (h : Mem w base mb ov sl gs) (hp : ∀ i, i < gs.length → 0 < (gs.getD i default).2.size) (h0 : 0 < gs.length) :
    ∃ g cap, ov = .slice (some ⟨g, 0, none⟩) gs.length cap ∧ g < w.heap.size ∧ ∀ i, i < gs.length → w.cell? ⟨g, i, none⟩ = some (sl.getD i undef) ∧ IsRow w (sl.getD i undef) (gs.getD i default).2 := by
  obtain ⟨g, cap, rfl, _, hlt⟩ := h.outer.form h0
  refine ⟨g, cap, rfl, hlt, fun i hi => ⟨?_, ?_⟩⟩
  · rw [h.outer.cellAt i (by omega), List.getD_eq_getElem?_getD, List.getElem?_eq_getElem (by rw [h.len]; exact hi)]
    rfl
  · obtain ⟨g', c', e, _, _⟩ := (h.inner i hi).form (hp i hi)
    have hin := h.inner i hi
    rw [e] at hin
    obtain ⟨_, hH, _, hl, _⟩ := holds_of_own hin
    rw [e]
    exact .inr ⟨g', 0, c', rfl, row_of_holds hH, hl⟩
theorem sets_lit {W : World} {b n : Nat} {ss : Nat → Value} {ds : Nat → Array P2} (hc : ∀ i, i < n → W.cell? ⟨b, i, none⟩ = some (ss i)) (hr : ∀ i, i < n → IsRow W (ss i) (ds i)) : Sets W b 0 n ss ds :=
  ⟨fun i hi => by rw [Nat.zero_add]; exact hc i hi, hr⟩
theorem strictA : psplaces.Good 2 dsA := by
  intro i hi
  have : i = 0 ∨ i = 1 := by omega
  rcases this with rfl | rfl
  · exact ⟨strict_of_pairwise (by decide), by decide⟩
  · exact ⟨strict_of_pairwise (by decide), by decide⟩
theorem strictB : psplaces.Good 1 dsB := fun i hi => ⟨show Strict #[q 1, q 3] from strict_of_pairwise (by decide), show (#[q 1, q 3] : Array P2).size ≤ 4294967296 by decide⟩
theorem group_A (W : World) (g o cap b2 c2 : Nat) (s2 s3 : Value) (hR : Row W g o #[q 1, q 2, q 3]) (h0 : W.cell? ⟨b2, 0, none⟩ = some s2) (h1 : W.cell? ⟨b2, 1, none⟩ = some s3) (r2 : IsRow W s2 #[q 1, q 2]) (r3 : IsRow W s3 #[q 2]) :
    Calls Try.prog 27 #[.agg #[.slice (some ⟨g, o, none⟩) 3 cap], .slice (some ⟨b2, 0, none⟩) 2 c2] W fun e w' => (∃ gA cA, e = .returned (.slice (some ⟨gA, 0, none⟩) 3 cA)) ∧ Below W.heap.size W w' := by
  refine (group_some g o cap #[q 1, q 2, q 3] b2 0 2 c2 (fun i => if i = 0 then s2 else s3) dsA W hR (by decide) (sets_lit (fun i hi => ?_) (fun i hi => ?_)) strictA (by decide)).mono ?_
  · have : i = 0 ∨ i = 1 := by omega
    rcases this with rfl | rfl
    · exact h0
    · exact h1
  · have : i = 0 ∨ i = 1 := by omega
    rcases this with rfl | rfl
    · exact r2
    · exact r3
  · rintro e w' ⟨⟨ov, sl, rfl, hM⟩, hb⟩
    have hM' : Mem w' W.heap.size (W.heap.size + 1) ov sl (groupTo dsA 2 #[q 1, q 2, q 3] 3) := hM
    obtain ⟨gA, cA, rfl, _⟩ := mem_out hM' (tidy_to dsA 2 _ 3).pos (by rw [groupsA]; decide)
    rw [groupsA]
    exact ⟨⟨gA, cA, rfl⟩, hb⟩
theorem group_B (W : World) (g o cap b2 c2 : Nat) (s4 : Value) (hR : Row W g o #[q 1, q 2, q 3]) (h0 : W.cell? ⟨b2, 0, none⟩ = some s4) (r4 : IsRow W s4 #[q 1, q 3]) :
    Calls Try.prog 27 #[.agg #[.slice (some ⟨g, o, none⟩) 3 cap], .slice (some ⟨b2, 0, none⟩) 1 c2] W fun e w' => (∃ gB cB a0 c0 a1 c1, e = .returned (.slice (some ⟨gB, 0, none⟩) 2 cB) ∧ w'.cell? ⟨gB, 0, none⟩ = some (.slice a0 2 c0) ∧ w'.cell? ⟨gB, 1, none⟩ = some (.slice a1 1 c1) ∧
      IsRow w' (.slice a0 2 c0) #[q 1, q 3] ∧ IsRow w' (.slice a1 1 c1) #[q 2]) ∧ Below W.heap.size W w' := by
  refine (group_some g o cap #[q 1, q 2, q 3] b2 0 1 c2 (fun _ => s4) dsB W hR (by decide) (sets_lit (fun i hi => ?_) (fun i hi => r4)) strictB (by decide)).mono ?_
  · obtain rfl : i = 0 := by omega
    exact h0
  · rintro e w' ⟨⟨ov, sl, rfl, hM⟩, hb⟩
    have hM' : Mem w' W.heap.size (W.heap.size + 1) ov sl (groupTo dsB 1 #[q 1, q 2, q 3] 3) := hM
    have hp := (tidy_to dsB 1 #[q 1, q 2, q 3] 3).pos
    rw [groupsB] at hM' hp
    obtain ⟨gB, cB, rfl, _, hi⟩ := mem_out hM' hp (by decide)
    obtain ⟨k0, r0⟩ := hi 0 (by decide)
    obtain ⟨k1, r1⟩ := hi 1 (by decide)
    have r0' : IsRow w' (sl.getD 0 undef) #[q 1, q 3] := r0
    have r1' : IsRow w' (sl.getD 1 undef) #[q 2] := r1
    obtain ⟨a0, c0, e0⟩ := pssame.IsRow.shape r0'
    obtain ⟨a1, c1, e1⟩ := pssame.IsRow.shape r1'
    rw [e0] at k0 r0'
    rw [e1] at k1 r1'
    exact ⟨⟨gB, cB, a0, c0, a1, c1, rfl, k0, k1, r0', r1'⟩, hb⟩
end Go.Proofs.Ytbfejmehbbieeaa.pshead
