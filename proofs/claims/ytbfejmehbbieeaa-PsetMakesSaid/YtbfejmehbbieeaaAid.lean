import Derived.Below
import Derived.WalkKit
import Derived.Calls
import Derived.Lib.Hide
import Derived.Deep.Draws
import Derived.Deep.QuietTactic
import Derived.BigQuiet
/- Small aids of my own. -/
namespace Go.Proofs.Ytbfejmehbbieeaa.aid
open Go.RowKit

/-- behind a call that turns nothing below: old cells and old marks read as they did -/
theorem bcell {W w1 : World} (hb : Below W.heap.size W w1) : (∀ b o, b < W.heap.size → w1.cell? ⟨b, o, none⟩ = W.cell? ⟨b, o, none⟩) ∧ (∀ b o, b < W.heap.size → w1.frozen? ⟨b, o, none⟩ = W.frozen? ⟨b, o, none⟩) ∧ W.heap.size ≤ w1.heap.size :=
  ⟨fun b o h => hb.cell (p := ⟨b, o, none⟩) h, fun b o h => hb.frozen (p := ⟨b, o, none⟩) h, hb.size⟩

/-- two calls, one behind the other -/
theorem bnext {B : Nat} {w w1 w2 : World} (h : Below B w w1) (k : Below w1.heap.size w1 w2) (hB : B ≤ w1.heap.size) : Below B w w2 := h.trans (k.mono hB)
theorem bdrawn {B : Nat} {w w1 : World} (h : Below B w w1) (n : Nat) : Below B w (w1.drewN n) := ⟨h.os, h.tape, h.output, h.size, h.block⟩

/-- a cell that is there stays as it is behind a call that turns nothing below -/
theorem kc {W w1 : World} (hb : Below W.heap.size W w1) {p : Addr} {v : Value} (h : W.cell? p = some v) : w1.cell? p = some v :=
  (hb.cell (World.block_lt_of_cell? W p h)).trans h
theorem kb {w W w1 : World} (hb : Below W.heap.size W w1) (h : Below w.heap.size w W) : Below w.heap.size w w1 := bnext h hb h.size

/-- what a drawn region holds on to: two, four, six cells, and that nothing below has turned -/
theorem keep2 {w W w1 : World} (hb : Below W.heap.size W w1) {p0 p1 : Addr} {v0 v1 : Value} (h : W.cell? p0 = some v0 ∧ W.cell? p1 = some v1 ∧ Below w.heap.size w W) :
    w1.cell? p0 = some v0 ∧ w1.cell? p1 = some v1 ∧ Below w.heap.size w w1 := ⟨kc hb h.1, kc hb h.2.1, kb hb h.2.2⟩
theorem keep4 {w W w1 : World} (hb : Below W.heap.size W w1) {p0 p1 p2 p3 : Addr} {v0 v1 v2 v3 : Value} (h : W.cell? p0 = some v0 ∧ W.cell? p1 = some v1 ∧ W.cell? p2 = some v2 ∧ W.cell? p3 = some v3 ∧ Below w.heap.size w W) :
    w1.cell? p0 = some v0 ∧ w1.cell? p1 = some v1 ∧ w1.cell? p2 = some v2 ∧ w1.cell? p3 = some v3 ∧ Below w.heap.size w w1 := ⟨kc hb h.1, kc hb h.2.1, kc hb h.2.2.1, kc hb h.2.2.2.1, kb hb h.2.2.2.2⟩
theorem keep6 {w W w1 : World} (hb : Below W.heap.size W w1) {p0 p1 p2 p3 p4 p5 : Addr} {v0 v1 v2 v3 v4 v5 : Value}
    (h : W.cell? p0 = some v0 ∧ W.cell? p1 = some v1 ∧ W.cell? p2 = some v2 ∧ W.cell? p3 = some v3 ∧ W.cell? p4 = some v4 ∧ W.cell? p5 = some v5 ∧ Below w.heap.size w W) :
    w1.cell? p0 = some v0 ∧ w1.cell? p1 = some v1 ∧ w1.cell? p2 = some v2 ∧ w1.cell? p3 = some v3 ∧ w1.cell? p4 = some v4 ∧ w1.cell? p5 = some v5 ∧ Below w.heap.size w w1 :=
  ⟨kc hb h.1, kc hb h.2.1, kc hb h.2.2.1, kc hb h.2.2.2.1, kc hb h.2.2.2.2.1, kc hb h.2.2.2.2.2.1, kb hb h.2.2.2.2.2.2⟩

/-- A WORLD IN WHICH NOTHING BELOW w0's HEAP HAS TURNED. A region that draws its order, whose operations read old cells and call functions that turn nothing below, is one walk in the order of the text over the class of these worlds. -/
structure Keep (w0 : World) where
  world : World
  below : Below w0.heap.size w0 world

instance keepNonempty (w0 : World) : Nonempty (Keep w0) := ⟨⟨w0, Below.refl _ _⟩⟩

theorem keep_cell {w0 : World} {p : Addr} {v : Value} (e : w0.cell? p = some v) (s : Keep w0) : s.world.cell? p = some v := kc s.below e

theorem wp_region_keep {P : Program} {id : Nat} {Q : Exit → Act → World → Prop} {a : Act} {w : World} {l : List Oper} (hm : P.follows .mixedOrders = true) (hB : Region.lexB .any l.toArray = true)
    (h : wpQuiet P l.toArray (fun w' => ∃ s : Keep w, w' = s.world) (fun a' => ∀ w', (∃ s : Keep w, w' = s.world) → Q .normal a' w') l a) : (Code.region id l.toArray true).wp P Q a w :=
  wp_region_quiet (C := fun w' => ∃ s : Keep w, w' = s.world) hm hB ⟨⟨w.drew, (Below.refl _ _).drew⟩, rfl⟩ (by simpa using h)

/-- a callee's contract within that class -/
theorem keep_call {P : Program} {f : FuncId} {args : Array Value} {w0 : World} {s : Keep w0} {v : Value}
    (h : Calls P f args s.world fun e w' => e = .returned v ∧ Below s.world.heap.size s.world w') : Calls P f args s.world fun e w'' => e = .returned v ∧ ∃ s' : Keep w0, w'' = s'.world :=
  h.mono fun _ w'' ⟨he, hb⟩ => ⟨he, ⟨w'', kb hb s.below⟩, rfl⟩
theorem keep_first {P : Program} {f : FuncId} {args : Array Value} {w0 : World} {v : Value}
    (h : Calls P f args w0 fun e w' => e = .returned v ∧ Below w0.heap.size w0 w') : Calls P f args w0 fun e w'' => e = .returned v ∧ ∃ s' : Keep w0, w'' = s'.world :=
  h.mono fun _ w'' ⟨he, hb⟩ => ⟨he, ⟨w'', hb⟩, rfl⟩
theorem keep_same {P : Program} {f : FuncId} {args : Array Value} {w0 : World} {s : Keep w0} {v : Value}
    (h : Calls P f args s.world fun e w' => e = .returned v ∧ s.world = w') : Calls P f args s.world fun e w'' => e = .returned v ∧ ∃ s' : Keep w0, w'' = s'.world :=
  h.mono fun _ _ ⟨he, hb⟩ => ⟨he, s, hb.symm⟩

/-- an old cell over a new block -/
theorem ca {W : World} {p : Addr} {v : Value} (o : Obj) (h : W.cell? p = some v) : (W.alloc o).cell? p = some v :=
  kc ((Below.refl _ _).alloc (Nat.le_refl _) o) h
/-- the two cells of a new block of two -/
theorem new2a (W : World) (x y : Value) (t : TypeId) : (W.alloc (.cells #[x, y] t)).cell? ⟨W.heap.size, 0, none⟩ = some x := by go_simp
theorem new2b (W : World) (x y : Value) (t : TypeId) : (W.alloc (.cells #[x, y] t)).cell? ⟨W.heap.size, 1, none⟩ = some y := by go_simp
theorem lt_of_cell {W : World} {p : Addr} {v : Value} (h : W.cell? p = some v) : p.block < W.heap.size := World.block_lt_of_cell? W p h
/-- below the call's own beginning nothing has turned, at whatever stage -/
theorem kbk {w W : World} (h : Below w.heap.size w W) (s : Keep W) : Below w.heap.size w s.world := kb s.below h
theorem kba {w W : World} (h : Below w.heap.size w W) (o : Obj) : Below w.heap.size w (W.alloc o) := h.alloc h.size o
end Go.Proofs.Ytbfejmehbbieeaa.aid
