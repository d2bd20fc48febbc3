import Derived.Test.YtfealajbibofiaaTrMath
import Derived.Below
/- Tries in memory. -/
set_option linter.unusedVariables false
set_option linter.unusedSimpArgs false
namespace Go.Proofs.Ytfealajbibofiaa.trmem
open Go.RowKit Go.Proofs.Ytfealajbibofiaa.math1 Go.Proofs.Ytfealajbibofiaa.trmath

/-- but for some blocks, all that was there is as it was -/
structure Kept (may : Nat → Prop) (w w' : World) : Prop where
  os : w'.os = w.os
  tape : w'.tape = w.tape
  output : w'.output = w.output
  size : w.heap.size ≤ w'.heap.size
  block : ∀ k, k < w.heap.size → ¬ may k → w'.heap[k]? = w.heap[k]?

theorem Kept.of_below {may : Nat → Prop} {w w' : World} (h : Below w.heap.size w w') : Kept may w w' := ⟨h.os, h.tape, h.output, h.size, fun k hk _ => h.block k hk⟩
theorem Kept.refl (may : Nat → Prop) (w : World) : Kept may w w := ⟨rfl, rfl, rfl, Nat.le_refl _, fun _ _ _ => rfl⟩
theorem Kept.trans {m m' : Nat → Prop} {a b c : World} (h : Kept m a b) (k : Kept m' b c) (hm : ∀ x, x < a.heap.size → m' x → m x) : Kept m a c :=
  ⟨k.os.trans h.os, k.tape.trans h.tape, k.output.trans h.output, Nat.le_trans h.size k.size, fun i hi hn => (k.block i (Nat.lt_of_lt_of_le hi h.size) (fun hx => hn (hm i hi hx))).trans (h.block i hi hn)⟩
theorem Kept.then {m : Nat → Prop} {a b c : World} (h : Kept m a b) (k : Below b.heap.size b c) : Kept m a c := h.trans (Kept.of_below (may := fun _ => False) k) (fun _ _ h => h.elim)
theorem Kept.drew {m : Nat → Prop} {a b : World} (h : Kept m a b) : Kept m a b.drew := ⟨h.os, h.tape, h.output, h.size, h.block⟩
theorem Kept.setCell {m : Nat → Prop} {a b : World} (h : Kept m a b) {p : Addr} (hp : m p.block ∨ a.heap.size ≤ p.block) (v : Value) : Kept m a (b.setCell p v) :=
  ⟨h.os, h.tape, h.output, by have := h.size; simp [World.setCell]; exact this, fun k hk hn => (Below.heap_setCell _ _ _ _ (fun e => by
    rcases hp with hp | hp
    · exact hn (e ▸ hp)
    · omega)).trans (h.block k hk hn)⟩
theorem Kept.below {m : Nat → Prop} {B : Nat} {a b : World} (h : Kept m a b) (hB : B ≤ a.heap.size) (hm : ∀ x, x < B → ¬ m x) : Below B a b := ⟨h.os, h.tape, h.output, h.size, fun k hk => h.block k (by omega) (hm k hk)⟩
theorem Kept.cell {m : Nat → Prop} {a b : World} (h : Kept m a b) {p : Addr} {v : Value} (hc : a.cell? p = some v) (hp : ¬ m p.block) : b.cell? p = some v :=
  (World.cell?_of_block (h.block p.block (World.block_lt_of_cell? a p hc) hp)).trans hc
theorem Kept.imp {m m' : Nat → Prop} {a b : World} (h : Kept m a b) (hm : ∀ x, m x → m' x) : Kept m' a b := ⟨h.os, h.tape, h.output, h.size, fun k hk hn => h.block k hk (fun hx => hn (hm k hx))⟩

/-- the nodes of a trie lie in a world -/
def In (w : World) : Tr → Prop
  | .nil => True
  | .node b l r v h => w.cell? ⟨b, 0, none⟩ = some l.ptr ∧ w.cell? ⟨b, 1, none⟩ = some r.ptr ∧ w.cell? ⟨b, 2, none⟩ = some v ∧ w.cell? ⟨b, 3, none⟩ = some (.bool h) ∧ (∀ i, i < 4 → w.frozen? ⟨b, i, none⟩ = false) ∧ In w l ∧ In w r

theorem in_lt {w : World} : ∀ {T : Tr}, In w T → ∀ x, x ∈ T.blocks → x < w.heap.size
  | .nil, _, x, hx => by cases hx
  | .node b l r v h, hT, x, hx => by
    obtain ⟨c0, _, _, _, _, hl, hr⟩ := hT
    rcases List.mem_cons.1 hx with rfl | hx
    · exact World.block_lt_of_cell? _ _ c0
    · rcases List.mem_append.1 hx with hx | hx
      · exact in_lt hl x hx
      · exact in_lt hr x hx
theorem in_same {w w' : World} : ∀ {T : Tr}, In w T → (∀ x, x ∈ T.blocks → w'.heap[x]? = w.heap[x]?) → In w' T
  | .nil, _, _ => trivial
  | .node b l r v h, hT, hk => by
    obtain ⟨c0, c1, c2, c3, fz, hl, hr⟩ := hT
    have hb := hk b (List.mem_cons_self ..)
    have cc : ∀ i, w'.cell? ⟨b, i, none⟩ = w.cell? ⟨b, i, none⟩ := fun i => World.cell?_of_block (w := w) (a := ⟨b, i, none⟩) hb
    have ff : ∀ i, w'.frozen? ⟨b, i, none⟩ = w.frozen? ⟨b, i, none⟩ := fun i => World.frozen?_of_block (w := w) (a := ⟨b, i, none⟩) hb
    exact ⟨(cc 0).trans c0, (cc 1).trans c1, (cc 2).trans c2, (cc 3).trans c3, fun i hi => (ff i).trans (fz i hi),
      in_same hl (fun x hx => hk x (List.mem_cons_of_mem _ (List.mem_append_left _ hx))), in_same hr (fun x hx => hk x (List.mem_cons_of_mem _ (List.mem_append_right _ hx)))⟩
theorem in_kept {m : Nat → Prop} {w w' : World} {T : Tr} (h : In w T) (k : Kept m w w') (hn : ∀ x, x ∈ T.blocks → ¬ m x) : In w' T :=
  in_same h (fun x hx => k.block x (in_lt h x hx) (hn x hx))
theorem in_below {w w' : World} {T : Tr} (h : In w T) (k : Below w.heap.size w w') : In w' T := in_same h (fun x hx => k.block x (in_lt h x hx))
theorem in_kid {w : World} {T : Tr} (h : In w T) (c : Bool) : In w (T.kid c) := by
  match T with
  | .nil => exact h
  | .node b l r v hh => cases c; exact h.2.2.2.2.2.1; exact h.2.2.2.2.2.2
theorem in_sub {w : World} {T : Tr} (h : In w T) (π : List Bool) : In w (T.sub π) := by
  induction π generalizing T with
  | nil => exact h
  | cons c π ih => exact ih (in_kid h c)
theorem nodup_sub {T : Tr} (h : T.blocks.Nodup) (π : List Bool) : (T.sub π).blocks.Nodup := by
  induction π generalizing T with
  | nil => exact h
  | cons c π ih =>
    match T with
    | .nil => exact ih h
    | .node b l r v hh =>
      obtain ⟨_, _, n3, n4, _⟩ := Tr.nodup_kids h
      cases c
      · exact ih n3
      · exact ih n4
/-- another subtree, whose root lies where the old one's did -/
theorem rep_in {w w' : World} {T U : Tr} {π : List Bool} (hT : In w T) (hr : Tr.Reach T π) (hU : In w' U) (hp : U.ptr = (T.sub π).ptr) (hn : T.blocks.Nodup) (hk : ∀ x, x ∈ T.blocks → x ∉ (T.sub π).blocks → w'.heap[x]? = w.heap[x]?) : In w' (T.rep π U) := by
  induction π generalizing T with
  | nil => rw [Tr.rep_top]; exact hU
  | cons c π ih =>
    match T with
    | .nil => exact absurd rfl hr.1
    | .node b l r v hh =>
      obtain ⟨n1, n2, n3, n4, n5⟩ := Tr.nodup_kids hn
      obtain ⟨c0, c1, c2, c3, fz, hl, hrr⟩ := hT
      have hb : w'.heap[b]? = w.heap[b]? := hk b (List.mem_cons_self ..) (fun h => by
        cases c
        · exact n1 (Tr.sub_blocks (T := l) h)
        · exact n2 (Tr.sub_blocks (T := r) h))
      have cc : ∀ i, w'.cell? ⟨b, i, none⟩ = w.cell? ⟨b, i, none⟩ := fun i => World.cell?_of_block (w := w) (a := ⟨b, i, none⟩) hb
      have ff : ∀ i, w'.frozen? ⟨b, i, none⟩ = w.frozen? ⟨b, i, none⟩ := fun i => World.frozen?_of_block (w := w) (a := ⟨b, i, none⟩) hb
      cases c
      · refine ⟨?_, (cc 1).trans c1, (cc 2).trans c2, (cc 3).trans c3, fun i hi => (ff i).trans (fz i hi), ih (T := l) hl hr.2 hp n3 (fun x hx hs => hk x (List.mem_cons_of_mem _ (List.mem_append_left _ hx)) hs), in_same hrr (fun x hx => hk x (List.mem_cons_of_mem _ (List.mem_append_right _ hx)) (fun h => n5 x (Tr.sub_blocks (T := l) h) hx))⟩
        rw [cc 0, c0, Tr.rep_ptr (T := l) hr.2 hp]
      · refine ⟨(cc 0).trans c0, ?_, (cc 2).trans c2, (cc 3).trans c3, fun i hi => (ff i).trans (fz i hi), in_same hl (fun x hx => hk x (List.mem_cons_of_mem _ (List.mem_append_left _ hx)) (fun h => n5 x hx (Tr.sub_blocks (T := r) h))), ih (T := r) hrr hr.2 hp n4 (fun x hx hs => hk x (List.mem_cons_of_mem _ (List.mem_append_right _ hx)) hs)⟩
        rw [cc 1, c1, Tr.rep_ptr (T := r) hr.2 hp]

/-- a trie at t: its nodes, its room, its count -/
structure Tri (w : World) (t : Nat) (T : Tr) (most count : Int) : Prop where
  c0 : w.cell? ⟨t, 0, none⟩ = some T.ptr
  c1 : w.cell? ⟨t, 1, none⟩ = some (.int .i64 most)
  c2 : w.cell? ⟨t, 2, none⟩ = some (.int .i64 count)
  fz : ∀ i, i < 3 → w.frozen? ⟨t, i, none⟩ = false
  tin : In w T
  nd : T.blocks.Nodup
  nt : t ∉ T.blocks

/-- the blocks of a trie -/
def own (t : Nat) (T : Tr) (x : Nat) : Prop := x = t ∨ x ∈ T.blocks
theorem Tri.lt {w : World} {t : Nat} {T : Tr} {m c : Int} (h : Tri w t T m c) {x : Nat} (hx : own t T x) : x < w.heap.size := by
  rcases hx with rfl | hx
  · exact World.block_lt_of_cell? _ _ h.c0
  · exact in_lt h.tin x hx
theorem Tri.same {w w' : World} {t : Nat} {T : Tr} {m c : Int} (h : Tri w t T m c) (hk : ∀ x, own t T x → w'.heap[x]? = w.heap[x]?) : Tri w' t T m c := by
  have hb := hk t (.inl rfl)
  have cc : ∀ i, w'.cell? ⟨t, i, none⟩ = w.cell? ⟨t, i, none⟩ := fun i => World.cell?_of_block (w := w) (a := ⟨t, i, none⟩) hb
  have ff : ∀ i, w'.frozen? ⟨t, i, none⟩ = w.frozen? ⟨t, i, none⟩ := fun i => World.frozen?_of_block (w := w) (a := ⟨t, i, none⟩) hb
  exact ⟨(cc 0).trans h.c0, (cc 1).trans h.c1, (cc 2).trans h.c2, fun i hi => (ff i).trans (h.fz i hi), in_same h.tin (fun x hx => hk x (.inr hx)), h.nd, h.nt⟩
theorem Tri.kept {mm : Nat → Prop} {w w' : World} {t : Nat} {T : Tr} {m c : Int} (h : Tri w t T m c) (k : Kept mm w w') (hn : ∀ x, own t T x → ¬ mm x) : Tri w' t T m c :=
  h.same (fun x hx => k.block x (h.lt hx) (hn x hx))
theorem Tri.below {w w' : World} {t : Nat} {T : Tr} {m c : Int} (h : Tri w t T m c) (k : Below w.heap.size w w') : Tri w' t T m c := h.same (fun x hx => k.block x (h.lt hx))
end Go.Proofs.Ytfealajbibofiaa.trmem
