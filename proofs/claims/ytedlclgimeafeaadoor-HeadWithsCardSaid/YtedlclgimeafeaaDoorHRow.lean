import Derived.Test.YtedlclgimeafeaaDoorHead1
import Derived.Deep.MidRow
/- A header by value, out of and into a block: its nineteen cells as a whole. -/
set_option linter.unusedVariables false
set_option linter.unusedSimpArgs false
namespace Go.Proofs.YtedlclgimeafeaaDoor.hrow
open Go.RowKit Go.Proofs.YtedlclgimeafeaaDoor.hmath Go.Proofs.YtedlclgimeafeaaDoor.frame Go.Proofs.YtedlclgimeafeaaDoor.head1

theorem infoHdr : (Tryd.prog.info? 33).map (·.size) = some 19 := by kernel_rfl
theorem infoNine : (Tryd.prog.info? 36).map (·.size) = some 9 := by kernel_rfl
theorem alloc_row (w : World) (cs : Array Value) (t : TypeId) : (w.alloc (.cells cs t)).rangeAt w.heap.size 0 cs.toList := by
  intro j v hj
  go_simp
  simpa using hj
theorem alloc_there (w : World) (cs : Array Value) (t : TypeId) : (w.alloc (.cells cs t)).there w.heap.size 0 cs.size := by
  intro j hj
  constructor
  · have := alloc_row w cs t j _ (by rw [Array.getElem?_toList, Array.getElem?_eq_getElem hj])
    rw [this]; rfl
  · go_simp
theorem below_setCells {B : Nat} {a : World} {b : Nat} (hB : B ≤ b) : ∀ (vs : List Value) (o : Nat) (w : World), Below B a w → Below B a (w.setCells b o vs)
  | [], _, _, h => h
  | v :: r, o, w, h => below_setCells hB r (o + 1) _ (h.setCell (p := ⟨b, o, none⟩) hB v)
theorem size_setCells {b : Nat} : ∀ (vs : List Value) (o : Nat) (w : World), (w.setCells b o vs).heap.size = w.heap.size
  | [], _, _ => rfl
  | v :: r, o, w => by rw [World.setCells, size_setCells r]; simp
theorem row_below {W W' : World} (hb : Below W.heap.size W W') {b o : Nat} {cs : List Value} (h : W.rangeAt b o cs) : W'.rangeAt b o cs := fun j v hv => aid.kc hb (h j v hv)
theorem there_below {W W' : World} (hb : Below W.heap.size W W') {b o n : Nat} (h : W.there b o n) : W'.there b o n := fun j hj => by
  obtain ⟨u, hu⟩ := Option.isSome_iff_exists.1 (h j hj).1
  have hlt := World.block_lt_of_cell? W _ hu
  exact ⟨by rw [aid.kc hb hu]; rfl, (hb.frozen hlt).trans (h j hj).2⟩
theorem one_hdr (h : Hd) : h.cells.all (·.oneCell') = true := by
  simp [Hd.cells, Value.oneCell']
theorem size_hdr (h : Hd) : h.cells.size = 19 := rfl

section
variable {ops : Array Oper} {Q : Exit → Act → World → Prop} {a : Act} {w : World} {rest : List Oper} {op : Oper}
/-- a header is read -/
theorem wp_load_hdr (hw : Region.wanted op (yielded ops a.tmps) = true) (x : Operand) (ho : op.op = .load 33 x) (b : Nat) (hx : a.eval x = .pointer (some ⟨b, 0, none⟩)) (cs : Array Value) (hsz : cs.size = 19) (hc : w.rangeAt b 0 cs.toList)
    (h : wpList Tryd.prog ops Q rest (a.put op.dst (.agg cs)) w) : wpList Tryd.prog ops Q (op :: rest) a w :=
  wpList_step fun K hK => by
    rw [if_pos hw]
    exact wp_load_mid 33 x ho b 0 hx cs.toList _ hc Tryd.underlying33 rfl (by rw [infoHdr]; simp [hsz]) (by simpa using hK _ _ h)
/-- a header is written -/
theorem wp_store_hdr (hw : Region.wanted op (yielded ops a.tmps) = true) (x y : Operand) (ho : op.op = .store 33 x y) (b : Nat) (hx : a.eval x = .pointer (some ⟨b, 0, none⟩)) (cs : Array Value) (hy : a.eval y = .agg cs)
    (hsz : cs.size = 19) (h1 : cs.all (·.oneCell') = true) (ht : w.there b 0 19) (W2 : World) (hW2 : w.setCells b 0 cs.toList = W2) (h : wpList Tryd.prog ops Q rest (a.put op.dst undef) W2) : wpList Tryd.prog ops Q (op :: rest) a w :=
  wpList_step fun K hK => by
    rw [if_pos hw]
    subst hW2
    exact wp_store_mid 33 x y ho b 0 cs hx hy (by rw [hsz]; exact ht) (by rw [infoHdr, hsz]) h1 (hK _ _ h)
end
theorem build_zero (w : World) : (Instr.build 33 #[]).run Tryd.prog w = .ok (.agg zeroHd.cells) w := by kernel_rfl
section
variable {ops : Array Oper} {Q : Exit → Act → World → Prop} {a : Act} {w : World} {rest : List Oper} {op : Oper}
/-- the zero header -/
theorem wp_build_zero (hw : Region.wanted op (yielded ops a.tmps) = true) (ho : op.op = .build 33 #[])
    (h : wpList Tryd.prog ops Q rest (a.put op.dst (.agg zeroHd.cells)) w) : wpList Tryd.prog ops Q (op :: rest) a w :=
  wpList_step fun K hK => by
    rw [if_pos hw]
    unfold Oper.wp execOp
    simp only [ho, Sem.run_bind, Array.map_empty, List.map_toArray, List.map_nil, build_zero, Result.andThen_ok, Sem.run_pure]
    exact hK _ _ h
end

/-- a new variable of a header, in which one is written -/
theorem new_there (w : World) : (w.alloc (.cells zeroHd.cells 33)).there w.heap.size 0 19 := alloc_there w zeroHd.cells _
theorem new_hdr (w : World) (cs : Array Value) (hsz : cs.size = 19) : ∃ V, (w.alloc (.cells zeroHd.cells 33)).setCells w.heap.size 0 cs.toList = V ∧ V.rangeAt w.heap.size 0 cs.toList ∧ V.there w.heap.size 0 19 ∧ Below w.heap.size w V ∧ w.heap.size < V.heap.size :=
  ⟨_, rfl, World.rangeAt_setCells_same _ _ _ _ (by rw [Array.length_toList, hsz]; exact new_there w), World.there_setCells (new_there w) _ _ _, below_setCells (Nat.le_refl _) _ _ _ ((Below.refl _ _).alloc (Nat.le_refl _) _), by rw [size_setCells]; simp⟩
/-- an old variable of a header, written anew -/
theorem set_hdr (w : World) (b : Nat) (cs : Array Value) (hsz : cs.size = 19) (ht : w.there b 0 19) : ∃ V, w.setCells b 0 cs.toList = V ∧ V.rangeAt b 0 cs.toList ∧ V.heap.size = w.heap.size ∧ (∀ B a, B ≤ b → Below B a w → Below B a V) ∧
    (∀ b' cs', b' ≠ b → w.rangeAt b' 0 cs' → V.rangeAt b' 0 cs') ∧ (∀ b' n, w.there b' 0 n → V.there b' 0 n) :=
  ⟨_, rfl, World.rangeAt_setCells_same _ _ _ _ (by rw [Array.length_toList, hsz]; exact ht), size_setCells _ _ _, fun B a hB h => below_setCells hB _ _ _ h, fun b' cs' hne h => World.rangeAt_setCells_apart h _ _ _ (.inl hne), fun b' n h => World.there_setCells h _ _ _⟩
theorem row_cell {w : World} {b : Nat} {cs : List Value} (h : w.rangeAt b 0 cs) (j : Nat) (v : Value) (hv : cs[j]? = some v) : w.cell? ⟨b, j, none⟩ = some v := by
  have := h j v hv
  rwa [Nat.zero_add] at this

/-- the new block, in which a header has been written -/
theorem stored_row (w : World) (z cs : Array Value) (t : TypeId) (hz : z.size = cs.size) : ((w.alloc (.cells z t)).setCells w.heap.size 0 cs.toList).rangeAt w.heap.size 0 cs.toList :=
  World.rangeAt_setCells_same _ _ _ _ (by rw [Array.length_toList, ← hz]; exact alloc_there w z t)
theorem stored_below (w : World) (z cs : Array Value) (t : TypeId) : Below w.heap.size w ((w.alloc (.cells z t)).setCells w.heap.size 0 cs.toList) :=
  below_setCells (Nat.le_refl _) _ _ _ ((Below.refl _ _).alloc (Nat.le_refl _) _)
theorem stored_size (w : World) (z cs : Array Value) (t : TypeId) : ((w.alloc (.cells z t)).setCells w.heap.size 0 cs.toList).heap.size = w.heap.size + 1 := by
  rw [size_setCells]; simp
end Go.Proofs.YtedlclgimeafeaaDoor.hrow
