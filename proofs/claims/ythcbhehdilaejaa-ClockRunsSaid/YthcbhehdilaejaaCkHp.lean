import Derived.Test.YthcbhehdilaejaaCkLess
/- A clock in memory: its time, its entries in a row of its own; the methods of its entries. -/
set_option linter.unusedVariables false
set_option linter.unusedSimpArgs false
namespace Go.Proofs.Ythcbhehdilaejaa.ck
open Go.RowKit Go.Lib Go.Proofs.Ythcbhehdilaejaa.ckmath

def enc2 (x : E) : List Value := [.int .i64 x.1, .int .i64 x.2]
def fl2 (l : Array E) : List Value := l.toList.flatMap enc2
theorem flat2_len : ∀ l : List E, (l.flatMap enc2).length = l.length * 2
  | [] => rfl
  | x :: l => by rw [List.flatMap_cons, List.length_append, flat2_len l, List.length_cons]; simp [enc2]; omega
theorem fl2_len (l : Array E) : (fl2 l).length = l.size * 2 := by rw [fl2, flat2_len, Array.length_toList]
theorem fl2_push (l : Array E) (x : E) : fl2 (l.push x) = fl2 l ++ enc2 x := by simp [fl2]
theorem flat2_get : ∀ (l : List E) (k c : Nat), k < l.length → c < 2 → (l.flatMap enc2)[k * 2 + c]? = (enc2 (l[k]!))[c]?
  | x :: l, 0, c, _, hc => by
    rw [List.flatMap_cons, Nat.zero_mul, Nat.zero_add, List.getElem?_append_left (by simp [enc2]; omega)]; rfl
  | x :: l, k + 1, c, hk, hc => by
    rw [List.flatMap_cons, List.getElem?_append_right (by simp [enc2]; omega)]
    have : (k + 1) * 2 + c - (enc2 x).length = k * 2 + c := by simp [enc2]; omega
    rw [this, flat2_get l k c (by simpa using hk) hc]
    simp
theorem fl2_get (l : Array E) (k c : Nat) (hk : k < l.size) (hc : c < 2) : (fl2 l)[k * 2 + c]? = (enc2 l[k]!)[c]? := by
  rw [fl2, flat2_get _ _ _ (by simpa using hk) hc]
  rw [getElem!_pos l k hk, getElem!_pos l.toList k (by simpa using hk)]
  simp
theorem fl2_ext {l : Array E} {xs : List Value} (hlen : xs.length = l.size * 2) (h : ∀ k, k < l.size → xs[k * 2]? = some (.int .i64 l[k]!.1) ∧ xs[k * 2 + 1]? = some (.int .i64 l[k]!.2)) : xs = fl2 l := by
  apply List.ext_getElem?
  intro j
  by_cases hj : j < l.size * 2
  · have hk : j / 2 < l.size := by omega
    obtain ⟨h0, h1⟩ := h _ hk
    have g0 := fl2_get l _ 0 hk (by omega)
    have g1 := fl2_get l _ 1 hk (by omega)
    rw [Nat.add_zero] at g0
    rcases (show j = j / 2 * 2 ∨ j = j / 2 * 2 + 1 by omega) with e | e
    · rw [e, h0, g0]; rfl
    · rw [e, h1, g1]; rfl
  · rw [List.getElem?_eq_none (by omega), List.getElem?_eq_none (by rw [fl2_len]; omega)]
theorem fl2_set (l : Array E) (i : Nat) (x : E) (hi : i < l.size) : ((fl2 l).set (i * 2) (.int .i64 x.1)).set (i * 2 + 1) (.int .i64 x.2) = fl2 (l.setIfInBounds i x) := by
  apply fl2_ext
  · simp [fl2_len]
  · intro k hk
    have hk' : k < l.size := by simpa using hk
    have g0 := fl2_get l k 0 hk' (by omega)
    have g1 := fl2_get l k 1 hk' (by omega)
    rw [Nat.add_zero] at g0
    have L := fl2_len l
    rw [set_get l i k x hk']
    by_cases e : k = i
    · subst e
      rw [if_pos rfl]
      constructor
      · rw [List.getElem?_set_ne (by omega), List.getElem?_set_self (by omega)]
      · rw [List.getElem?_set_self (by simp; omega)]
    · rw [if_neg e]
      constructor
      · rw [List.getElem?_set_ne (by omega), List.getElem?_set_ne (by omega), g0]; rfl
      · rw [List.getElem?_set_ne (by omega), List.getElem?_set_ne (by omega), g1]; rfl
theorem own2_row {w : World} {B g n cap : Nat} {l : Array E} (h : w.ownsRow B 48 2 (.slice (some ⟨g, 0, none⟩) n cap) n (fl2 l)) : l.size = n ∧ Row2 w g l := by
  have hl : l.size = n := by
    have := h.1
    rw [fl2_len] at this
    omega
  refine ⟨hl, fun k hk => ?_⟩
  have g0 := fl2_get l k 0 hk (by omega)
  have g1 := fl2_get l k 1 hk (by omega)
  rw [Nat.add_zero] at g0
  exact ⟨(h.cellAt (k * 2) (by omega)).trans g0, (h.cellAt (k * 2 + 1) (by omega)).trans g1⟩

structure Hp (w : World) (B c : Nat) (v : Value) (now : Int) (l : Array E) : Prop where
  c0 : w.cell? ⟨c, 0, none⟩ = some (.int .i64 now)
  c1 : w.cell? ⟨c, 1, none⟩ = some v
  f0 : w.frozen? ⟨c, 0, none⟩ = false
  f1 : w.frozen? ⟨c, 1, none⟩ = false
  own : w.ownsRow B 48 2 v l.size (fl2 l)
  nb : v.ownBlock ≠ some c
  hB : B ≤ c
theorem Hp.lt {w : World} {B c : Nat} {v : Value} {now : Int} {l : Array E} (h : Hp w B c v now l) : c < w.heap.size := World.block_lt_of_cell? _ _ h.c0

set_option maxRecDepth 100000 in
set_option maxHeartbeats 2000000 in
theorem swap_any (B g n cap : Nat) (l : Array E) (i j : Nat) (w : World) (own : w.ownsRow B 48 2 (.slice (some ⟨g, 0, none⟩) n cap) n (fl2 l)) (hi : i < n) (hj : j < n) (hm : n ≤ 1000) :
    Calls Try.prog 42 #[.slice (some ⟨g, 0, none⟩) n cap, .int .i64 i, .int .i64 j] w fun e w' => e = .returned (.tuple #[]) ∧ w'.ownsRow B 48 2 (.slice (some ⟨g, 0, none⟩) n cap) n (fl2 (sw l i j)) ∧ w.grownBy w' (some g) := by
  obtain ⟨hN, R⟩ := own2_row own
  obtain ⟨a0, a1⟩ := R i (hN ▸ hi)
  obtain ⟨b0, b1⟩ := R j (hN ▸ hj)
  have HF : Hid (((((fl2 l).set (i * 2) (.int .i64 l[j]!.1)).set (i * 2 + 1) (.int .i64 l[j]!.2)).set (j * 2) (.int .i64 l[i]!.1)).set (j * 2 + 1) (.int .i64 l[i]!.2) = fl2 (sw l i j)) := by
    refine Lib.hid ?_
    rw [fl2_set l i l[j]! (by omega), fl2_set _ j l[i]! (by simp; omega)]; rfl
  obtain ⟨⟨x1, x2⟩, hx⟩ : ∃ x, x = l[i]! := ⟨_, rfl⟩
  obtain ⟨⟨y1, y2⟩, hy⟩ : ∃ y, y = l[j]! := ⟨_, rfl⟩
  rw [← hx] at a0 a1 HF
  rw [← hy] at b0 b1 HF
  dsimp only at a0 a1 b0 b1 HF
  obtain ⟨o1, G1⟩ := own.stored (i * 2) (.int .i64 y1)
  obtain ⟨o2, G2⟩ := o1.stored (i * 2 + 1) (.int .i64 y2)
  obtain ⟨o3, G3⟩ := o2.stored (j * 2) (.int .i64 x1)
  obtain ⟨o4, G4⟩ := o3.stored (j * 2 + 1) (.int .i64 x2)
  have z0 := own.frozenAt (i * 2)
  have z1 := o1.frozenAt (i * 2 + 1)
  have z2 := o2.frozenAt (j * 2)
  have z3 := o3.frozenAt (j * 2 + 1)
  have L := fl2_len l
  obtain ⟨u1, t1⟩ : ∃ u, (w.setCell ⟨g, i * 2, none⟩ (.int .i64 y1)).cell? ⟨g, i * 2 + 1, none⟩ = some u := ⟨_, (o1.cellAt (i * 2 + 1) (by omega)).trans (List.getElem?_eq_getElem (by simp; omega))⟩
  obtain ⟨u2, t2⟩ : ∃ u, ((w.setCell ⟨g, i * 2, none⟩ (.int .i64 y1)).setCell ⟨g, i * 2 + 1, none⟩ (.int .i64 y2)).cell? ⟨g, j * 2, none⟩ = some u := ⟨_, (o2.cellAt (j * 2) (by omega)).trans (List.getElem?_eq_getElem (by simp; omega))⟩
  obtain ⟨u3, t3⟩ : ∃ u, (((w.setCell ⟨g, i * 2, none⟩ (.int .i64 y1)).setCell ⟨g, i * 2 + 1, none⟩ (.int .i64 y2)).setCell ⟨g, j * 2, none⟩ (.int .i64 x1)).cell? ⟨g, j * 2 + 1, none⟩ = some u := ⟨_, (o3.cellAt (j * 2 + 1) (by omega)).trans (List.getElem?_eq_getElem (by simp; omega))⟩
  have O4 := Lib.hid o4
  have GG : Hid (w.grownBy (((((w.setCell ⟨g, i * 2, none⟩ (.int .i64 y1)).setCell ⟨g, i * 2 + 1, none⟩ (.int .i64 y2)).setCell ⟨g, j * 2, none⟩ (.int .i64 x1)).setCell ⟨g, j * 2 + 1, none⟩ (.int .i64 x2))) (some g)) :=
    Lib.hid ((G1.trans G2).trans (G3.trans G4))
  have i1 : (0 : Int) ≤ (i : Int) := by omega
  have i2 : (i : Int) < (n : Int) := by omega
  have j1 : (0 : Int) ≤ (j : Int) := by omega
  have j2 : (j : Int) < (n : Int) := by omega
  clear own o1 o2 o3 o4 G1 G2 G3 G4 R hx hy hN L
  go_enter Try.func42, Try.ntmps42
  go_region
  all_goals go_wp2_with fail
  all_goals go_end0
  all_goals exact ⟨rfl, by rw [← HF.out]; exact O4.out.drew, ⟨GG.out.os, GG.out.tape, GG.out.output, GG.out.size, GG.out.block⟩⟩
end Go.Proofs.Ythcbhehdilaejaa.ck
