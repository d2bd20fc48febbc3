import Derived.Test.YtbfejmehbbieeaaFrame
import Derived.Test.YtbfejmehbbieeaaPsOf1
import Derived.Deep.SlicePairs
/- A slice of prefixes that comes in, opened. -/
set_option linter.unusedVariables false
set_option linter.unusedSimpArgs false
namespace Go.Proofs.Ytbfejmehbbieeaa.psopen
open Go.ChangeShapes Go.WideShapes Go.ChangeAt Go.RowKit Go.Joins Go.Deep Go.Proofs.Ytbfejmehbbieeaa.frame Go.Proofs.Ytbfejmehbbieeaa.psof Go.Proofs.Ytbfejmehbbieeaa.psfind Go.Proofs.Ytbfejmehbbieeaa.psuniq

def RowOk (w : World) (v : Value) (d : Array P2) : Prop := IsRow w v d ∧ d.size ≤ maxLen ∧ ∀ j, j < d.size → U32 d[j]!.1 ∧ I64 d[j]!.2
theorem cells2 : Try.prog.cellsOf 26 = 2 := by kernel_rfl
theorem cellsA : Try.prog.cellsOf 24 = 1 := by kernel_rfl
theorem cellsI : Try.prog.cellsOf 3 = 1 := by kernel_rfl
set_option maxRecDepth 100000 in
theorem open_row {H : Type} {enc : TypeId × Value → H} {w : World} {base : Nat} {spare : Nat → Bool} {held : Bool} {r : Reach} {b0 : Nat} {v : Value} {x : DataW H} {ps : List MemPlace}
    (hval : Value.okWide Try.prog w r b0 22 v) (hd : DataW.Trod enc Try.prog w base spare held 22 v x ps) : ∃ d, RowOk w v d := by
  simp only [Value.okWide, Try.underlying22, Cell.okWide] at hval
  obtain ⟨fuel, hf⟩ := hd
  rcases open_slice_pairs Try.underlying22 Try.underlying26 cells2 rfl rfl cellsA cellsI hf with ⟨hc, _⟩ | ⟨a, len, cap, m, n, V0, V1, D0, D1, P0, P1, hc, _, hl, hm, hmm, _, hall⟩
  · have hv : v = .slice none 0 0 := by
      cases v <;> simp [Value.cells, Cell.ok, Try.underlying22] at hc hval
      simpa using hc
    subst hv
    exact ⟨#[], .inl ⟨rfl, rfl⟩, by simp, fun j hj => absurd hj (Nat.not_lt_zero j)⟩
  · have hv : v = .slice (some a) len cap := by
      cases v <;> simp [Value.cells, Cell.ok, Try.underlying22] at hc hval
      simpa using hc
    subst hv
    simp only [Cell.ok, Try.underlying22] at hval
    obtain ⟨_, _, _, hspot, row, cells, hshape, _⟩ := hval
    obtain ⟨b, o, spot⟩ := a
    dsimp only at hspot
    subst hspot
    have hblk : b < w.heap.size := by
      rcases Nat.lt_or_ge b w.heap.size with h | h
      · exact h
      · simp [World.shape?, Array.getElem?_eq_none h] at hshape
    have hlm : len ≤ m := by rw [hmm]; split <;> omega
    have h0 : ∀ i, i < len → ∃ p : Int, V0 i = .int .u32 p ∧ U32 p := fun i hi => by
      obtain ⟨p, h1, _, h3⟩ := DataW.trod_int Try.underlying24 (hall i (by omega)).2.2.1
      simp only [List.cons.injEq, and_true] at h1
      exact ⟨p, h1, u32_of h3⟩
    have h1 : ∀ i, i < len → ∃ p : Int, V1 i = .int .i64 p ∧ I64 p := fun i hi => by
      obtain ⟨p, h1, _, h3⟩ := DataW.trod_int Try.underlying3 (hall i (by omega)).2.2.2
      simp only [List.cons.injEq, and_true] at h1
      exact ⟨p, h1, i64_of h3⟩
    let d : Array P2 := ((List.range len).map fun i => (intOf (V0 i), intOf (V1 i))).toArray
    have hds : d.size = len := by simp [d]
    have hdg : ∀ i, i < len → d[i]! = (intOf (V0 i), intOf (V1 i)) := fun i hi => by
      rw [getElem!_pos d i (by omega)]
      simp [d]
    refine ⟨d, .inr ⟨b, o, cap, by rw [hds], fun k hk => ?_, hblk⟩, by omega, fun j hj => ?_⟩
    · have hk' : k < len := by omega
      obtain ⟨p, e0, _⟩ := h0 k hk'
      obtain ⟨q, e1, _⟩ := h1 k hk'
      have g := hall k (by omega)
      rw [hdg k hk', e0, e1]
      have g0 := g.1
      have g1 := g.2.1
      rw [Addr.add_mid, e0] at g0
      rw [Addr.add_mid, e1] at g1
      exact ⟨g0, by rw [Nat.add_assoc]; exact g1⟩
    · have hj' : j < len := by omega
      obtain ⟨p, e0, u0⟩ := h0 j hj'
      obtain ⟨q, e1, u1⟩ := h1 j hj'
      rw [hdg j hj', e0, e1]
      exact ⟨u0, u1⟩
end Go.Proofs.Ytbfejmehbbieeaa.psopen
