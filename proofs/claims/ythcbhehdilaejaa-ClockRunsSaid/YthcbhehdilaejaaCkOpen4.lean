import Derived.Test.YthcbhehdilaejaaCkOpen
import Derived.Lib.SmallJoins
/- An argument opened: a slice of four ints each. -/
set_option linter.unusedVariables false
set_option linter.unusedSimpArgs false
namespace Go.Proofs.Ythcbhehdilaejaa.ckopen
open Go.ChangeShapes Go.WideShapes Go.ChangeAt Go.RowKit Go.Lib Go.Joins Go.Deep Go.Proofs.Ythcbhehdilaejaa.frame

abbrev I4 := Int × Int × Int × Int
def RowO (w : World) (v : Value) (d : Array I4) : Prop := (v = .slice none 0 0 ∧ d = #[]) ∨ ∃ b o cap, v = .slice (some ⟨b, o, none⟩) d.size cap ∧ (∀ k, k < d.size → w.cell? ⟨b, o + k * 4, none⟩ = some (.int .i64 d[k]!.1) ∧ w.cell? ⟨b, o + k * 4 + 1, none⟩ = some (.int .i64 d[k]!.2.1) ∧ w.cell? ⟨b, o + k * 4 + 2, none⟩ = some (.int .i64 d[k]!.2.2.1) ∧ w.cell? ⟨b, o + k * 4 + 3, none⟩ = some (.int .i64 d[k]!.2.2.2)) ∧ b < w.heap.size
theorem RowO.shape {w : World} {v : Value} {d : Array I4} (h : RowO w v d) : ∃ a c, v = .slice a d.size c := by
  rcases h with ⟨rfl, rfl⟩ | ⟨b, o, c, rfl, _⟩ <;> exact ⟨_, _, rfl⟩
theorem RowO.at {w : World} {a : Option Addr} {n c : Nat} {d : Array I4} (h : RowO w (.slice a n c) d) {k : Nat} (hk : k < d.size) : ∃ b o, a = some ⟨b, o, none⟩ ∧ b < w.heap.size ∧ w.cell? ⟨b, o + k * 4, none⟩ = some (.int .i64 d[k]!.1) ∧ w.cell? ⟨b, o + k * 4 + 1, none⟩ = some (.int .i64 d[k]!.2.1) ∧ w.cell? ⟨b, o + k * 4 + 2, none⟩ = some (.int .i64 d[k]!.2.2.1) ∧ w.cell? ⟨b, o + k * 4 + 3, none⟩ = some (.int .i64 d[k]!.2.2.2) := by
  rcases h with ⟨_, e⟩ | ⟨b, o, cp, e, r, hlt⟩
  · rw [e] at hk; exact absurd hk (Nat.not_lt_zero _)
  · simp only [Value.slice.injEq] at e
    exact ⟨b, o, e.1, hlt, r k hk⟩
theorem cellsO : Try.prog.cellsOf 28 = 4 := by kernel_rfl
theorem fieldsO : ∃ f0 f1 f2 f3, Try.prog.underlying 28 = some (.struct #[f0, f1, f2, f3]) ∧ (f0.type = 3 ∧ f1.type = 3 ∧ f2.type = 3 ∧ f3.type = 3) ∧ f0.offset = 0 ∧ f1.offset = 1 ∧ f2.offset = 2 ∧ f3.offset = 3 :=
  ⟨_, _, _, _, Try.underlying28, ⟨rfl, rfl, rfl, rfl⟩, rfl, rfl, rfl, rfl⟩
set_option maxRecDepth 100000 in
theorem open_ops {H : Type} {enc : TypeId × Value → H} {w : World} {base : Nat} {spare : Nat → Bool} {held : Bool} {r : Reach} {b0 : Nat} {v : Value} {x : DataW H} {ps : List MemPlace}
    (hval : Value.okWide Try.prog w r b0 22 v) (hd : DataW.Trod enc Try.prog w base spare held 22 v x ps) : ∃ d, RowO w v d ∧ ∀ j, j < d.size → I64 d[j]!.1 ∧ I64 d[j]!.2.1 ∧ I64 d[j]!.2.2.1 ∧ I64 d[j]!.2.2.2 := by
  simp only [Value.okWide, Try.underlying22, Cell.okWide] at hval
  obtain ⟨fuel, hf⟩ := hd
  rcases open_slice Try.underlying22 hf with ⟨hc, _⟩ | ⟨a, len, cap, m, n, D, Pl, hc, _, hl, hm, hmm, _, hall⟩
  · have hv : v = .slice none 0 0 := by
      cases v <;> simp [Value.cells, Cell.ok, Try.underlying22] at hc hval
      simpa using hc
    subst hv
    exact ⟨#[], .inl ⟨rfl, rfl⟩, fun j hj => absurd hj (Nat.not_lt_zero j)⟩
  · have hv : v = .slice (some a) len cap := by
      cases v <;> simp [Value.cells, Cell.ok, Try.underlying22] at hc hval
      simpa using hc
    subst hv
    simp only [Cell.ok, Try.underlying22] at hval
    obtain ⟨_, _, _, hspot, row, cells, hshape, _⟩ := hval
    obtain ⟨b, o, spot⟩ := a
    dsimp only at hspot
    subst hspot
    have hblk : b < w.heap.size := by
      rcases Nat.lt_or_ge b w.heap.size with h | h
      · exact h
      · simp [World.shape?, Array.getElem?_eq_none h] at hshape
    have hlm : len ≤ m := by rw [hmm]; split <;> omega
    obtain ⟨f0, f1, f2, f3, hs, ⟨t0, t1, t2, t3⟩, o0, o1, o2, o3⟩ := fieldsO
    have each : ∀ i, i < len → ∃ q : I4, (w.cell? ⟨b, o + i * 4, none⟩ = some (.int .i64 q.1) ∧ w.cell? ⟨b, o + i * 4 + 1, none⟩ = some (.int .i64 q.2.1) ∧ w.cell? ⟨b, o + i * 4 + 2, none⟩ = some (.int .i64 q.2.2.1) ∧ w.cell? ⟨b, o + i * 4 + 3, none⟩ = some (.int .i64 q.2.2.2)) ∧ I64 q.1 ∧ I64 q.2.1 ∧ I64 q.2.2.1 ∧ I64 q.2.2.2 := fun i hi => by
      obtain ⟨cs', h1, h2⟩ := hall i (by omega)
      rw [cellsO] at h1
      obtain ⟨_, hlen, hcell⟩ := World.cells?_some h1
      obtain ⟨y0, y1, y2, y3, k, _, _, g0, g1, g2, g3⟩ := trod_struct4 hs h2
      match cs', hlen with
      | [v0, v1, v2, v3], _ =>
        rw [t0, o0, cellsI] at g0
        rw [t1, o1, cellsI] at g1
        rw [t2, o2, cellsI] at g2
        rw [t3, o3, cellsI] at g3
        obtain ⟨p0, e0, _, q0⟩ := DataW.trod_int Try.underlying3 g0
        obtain ⟨p1, e1, _, q1⟩ := DataW.trod_int Try.underlying3 g1
        obtain ⟨p2, e2, _, q2⟩ := DataW.trod_int Try.underlying3 g2
        obtain ⟨p3, e3, _, q3⟩ := DataW.trod_int Try.underlying3 g3
        simp at e0 e1 e2 e3
        subst e0 e1 e2 e3
        have c0 := hcell 0 (by omega)
        have c1 := hcell 1 (by omega)
        have c2 := hcell 2 (by omega)
        have c3 := hcell 3 (by omega)
        rw [Addr.add_mid, Addr.add_mid] at c0 c1 c2 c3
        exact ⟨(p0, p1, p2, p3), ⟨by simpa using c0, by simpa using c1, by simpa using c2, by simpa using c3⟩, i64_of q0, i64_of q1, i64_of q2, i64_of q3⟩
    obtain ⟨q, hq⟩ := choose_lt each
    let d : Array I4 := ((List.range len).map q).toArray
    have hds : d.size = len := by simp [d]
    have hdg : ∀ i, i < len → d[i]! = q i := fun i hi => by
      rw [getElem!_pos d i (by omega)]
      simp [d]
    refine ⟨d, .inr ⟨b, o, cap, by rw [hds], fun k hk => ?_, hblk⟩, fun j hj => ?_⟩
    · rw [hdg k (by omega)]; exact (hq k (by omega)).1
    · rw [hdg j (by omega)]; exact (hq j (by omega)).2
end Go.Proofs.Ythcbhehdilaejaa.ckopen
