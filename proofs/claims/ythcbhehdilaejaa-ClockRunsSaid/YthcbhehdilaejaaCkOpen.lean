import Derived.Test.YthcbhehdilaejaaCkHead
import Derived.Test.YthcbhehdilaejaaFrame
import Derived.Deep.Slices
import Derived.Deep.MidRow
/- An argument opened: a slice of ints. -/
set_option linter.unusedVariables false
set_option linter.unusedSimpArgs false
namespace Go.Proofs.Ythcbhehdilaejaa.ckopen
open Go.ChangeShapes Go.WideShapes Go.ChangeAt Go.RowKit Go.Lib Go.Deep Go.Proofs.Ythcbhehdilaejaa.frame

def RowI (w : World) (v : Value) (d : Array Int) : Prop := (v = .slice none 0 0 ∧ d = #[]) ∨ ∃ b o cap, v = .slice (some ⟨b, o, none⟩) d.size cap ∧ (∀ k, k < d.size → w.cell? ⟨b, o + k, none⟩ = some (.int .i64 d[k]!)) ∧ b < w.heap.size
theorem RowI.shape {w : World} {v : Value} {d : Array Int} (h : RowI w v d) : ∃ a c, v = .slice a d.size c := by
  rcases h with ⟨rfl, rfl⟩ | ⟨b, o, c, rfl, _⟩ <;> exact ⟨_, _, rfl⟩
theorem RowI.below {w w' : World} {v : Value} {d : Array Int} (h : RowI w v d) (hb : Below w.heap.size w w') : RowI w' v d := by
  rcases h with h | ⟨b, o, c, e, r, hlt⟩
  · exact .inl h
  · exact .inr ⟨b, o, c, e, fun k hk => (hb.cell (p := ⟨b, o + k, none⟩) hlt).trans (r k hk), Nat.lt_of_lt_of_le hlt hb.size⟩
theorem RowI.at {w : World} {a : Option Addr} {n c : Nat} {d : Array Int} (h : RowI w (.slice a n c) d) {k : Nat} (hk : k < d.size) : ∃ b o, a = some ⟨b, o, none⟩ ∧ b < w.heap.size ∧ ∀ k, k < d.size → w.cell? ⟨b, o + k, none⟩ = some (.int .i64 d[k]!) := by
  rcases h with ⟨_, e⟩ | ⟨b, o, cp, e, r, hlt⟩
  · rw [e] at hk; exact absurd hk (Nat.not_lt_zero _)
  · simp only [Value.slice.injEq] at e
    exact ⟨b, o, e.1, hlt, r⟩
theorem cellsI : Try.prog.cellsOf 3 = 1 := by kernel_rfl
set_option maxRecDepth 100000 in
theorem open_ints1 {H : Type} {enc : TypeId × Value → H} {w : World} {base : Nat} {spare : Nat → Bool} {held : Bool} {r : Reach} {b0 : Nat} {v : Value} {x : DataW H} {ps : List MemPlace}
    (hval : Value.okWide Try.prog w r b0 38 v) (hd : DataW.Trod enc Try.prog w base spare held 38 v x ps) : ∃ d, RowI w v d ∧ ∀ j, j < d.size → I64 d[j]! := by
  simp only [Value.okWide, Try.underlying38, Cell.okWide] at hval
  obtain ⟨fuel, hf⟩ := hd
  rcases open_slice1 Try.underlying38 cellsI hf with ⟨hc, _⟩ | ⟨a, len, cap, m, n, V, D, Pl, hc, _, hl, hm, hmm, _, hall⟩
  · have hv : v = .slice none 0 0 := by
      cases v <;> simp [Value.cells, Cell.ok, Try.underlying38] at hc hval
      simpa using hc
    subst hv
    exact ⟨#[], .inl ⟨rfl, rfl⟩, fun j hj => absurd hj (Nat.not_lt_zero j)⟩
  · have hv : v = .slice (some a) len cap := by
      cases v <;> simp [Value.cells, Cell.ok, Try.underlying38] at hc hval
      simpa using hc
    subst hv
    simp only [Cell.ok, Try.underlying38] at hval
    obtain ⟨_, _, _, hspot, row, cells, hshape, _⟩ := hval
    obtain ⟨b, o, spot⟩ := a
    dsimp only at hspot
    subst hspot
    have hblk : b < w.heap.size := by
      rcases Nat.lt_or_ge b w.heap.size with h | h
      · exact h
      · simp [World.shape?, Array.getElem?_eq_none h] at hshape
    have hlm : len ≤ m := by rw [hmm]; split <;> omega
    have h0 : ∀ i, i < len → ∃ p : Int, V i = .int .i64 p ∧ I64 p := fun i hi => by
      obtain ⟨p, h1, _, h3⟩ := DataW.trod_int Try.underlying3 (hall i (by omega)).2
      simp only [List.cons.injEq, and_true] at h1
      exact ⟨p, h1, i64_of h3⟩
    let d : Array Int := ((List.range len).map fun i => intOf (V i)).toArray
    have hds : d.size = len := by simp [d]
    have hdg : ∀ i, i < len → d[i]! = intOf (V i) := fun i hi => by
      rw [getElem!_pos d i (by omega)]
      simp [d]
    refine ⟨d, .inr ⟨b, o, cap, by rw [hds], fun k hk => ?_, hblk⟩, fun j hj => ?_⟩
    · have hk' : k < len := by omega
      obtain ⟨p, e0, _⟩ := h0 k hk'
      have g := (hall k (by omega)).1
      rw [hdg k hk', e0]
      rw [Addr.add_mid, e0] at g
      exact g
    · have hj' : j < len := by omega
      obtain ⟨p, e0, u0⟩ := h0 j hj'
      rw [hdg j hj', e0]
      exact u0
end Go.Proofs.Ythcbhehdilaejaa.ckopen
