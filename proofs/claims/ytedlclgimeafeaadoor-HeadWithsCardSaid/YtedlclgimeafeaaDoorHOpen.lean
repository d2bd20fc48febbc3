import Derived.Test.YtedlclgimeafeaaDoorFrame
import Derived.Test.YtedlclgimeafeaaDoorHMath
/- What comes in, opened: numbers, addresses of frames. -/
set_option linter.unusedVariables false
set_option linter.unusedSimpArgs false
namespace Go.Proofs.YtedlclgimeafeaaDoor.hopen
open Go.ChangeShapes Go.WideShapes Go.ChangeAt Go.RowKit Go.Joins Go.Deep Go.Proofs.YtedlclgimeafeaaDoor.hmath Go.Proofs.YtedlclgimeafeaaDoor.frame

theorem u64_of {a : Int} (h : (Lit.int .u64 a).wf = true) : hmath.U64 a := by
  have := bounds_u64 h
  unfold hmath.U64; omega
theorem u8_of {a : Int} (h : (Lit.int .u8 a).wf = true) : hmath.U8 a := by
  have := bounds_u8 h
  unfold hmath.U8; omega

section
variable {H : Type} {enc : TypeId × Value → H} {P : Program} {w : World} {base : Nat} {spare : Nat → Bool} {held : Bool} {r : Reach} {b0 : Nat} {v : Value} {d : DataW H} {ps : List MemPlace}
theorem open_u64 {t : TypeId} (ht : P.underlying t = some (.int .u64)) (hval : Value.okWide P w r b0 t v) (hd : DataW.Trod enc P w base spare held t v d ps) : ∃ a, v = .int .u64 a ∧ hmath.U64 a := by
  obtain ⟨a, e, _, _, wa⟩ := open_int ht hval hd
  exact ⟨a, e, u64_of wa⟩

theorem trod_u8s {t e : TypeId} {fuel : Nat} {c0 c1 c2 c3 c4 c5 : Value} {x : DataW H × List MemPlace} (ht : P.underlying t = some (.array 6 e)) (hce : P.cellsOf e = 1) (he : P.underlying e = some (.int .u8))
    (h : DataW.trod enc P w base spare held fuel t [c0, c1, c2, c3, c4, c5] = some x) :
    ∃ m : Mac, c0 = .int .u8 m.a0 ∧ c1 = .int .u8 m.a1 ∧ c2 = .int .u8 m.a2 ∧ c3 = .int .u8 m.a3 ∧ c4 = .int .u8 m.a4 ∧ c5 = .int .u8 m.a5 ∧ m.ok := by
  obtain ⟨xs, m, _, _, _, hlen, hi⟩ := DataW.trod_array ht h
  rw [hce] at hi
  match xs, hlen with
  | [y0, y1, y2, y3, y4, y5], _ =>
    have g : ∀ i, i < 6 → ∀ c, [c0, c1, c2, c3, c4, c5][i]? = some c → ∃ a, c = .int .u8 a ∧ U8 a := by
      intro i hi6 c hc
      have h1 := hi i hi6
      have h2 : ([c0, c1, c2, c3, c4, c5].drop (i * 1)).take 1 = [c] := by
        match i, hc with
        | 0, hc => simpa using hc
        | 1, hc => simpa using hc
        | 2, hc => simpa using hc
        | 3, hc => simpa using hc
        | 4, hc => simpa using hc
        | 5, hc => simpa using hc
        | i + 6, hc => simp at hc
      rw [h2] at h1
      have hx : i < [y0, y1, y2, y3, y4, y5].length := hi6
      rw [List.getElem?_eq_getElem hx] at h1
      obtain ⟨a, e, _, wa⟩ := DataW.trod_int he h1
      simp at e
      exact ⟨a, e, u8_of wa⟩
    obtain ⟨a0, e0, k0⟩ := g 0 (by decide) c0 rfl
    obtain ⟨a1, e1, k1⟩ := g 1 (by decide) c1 rfl
    obtain ⟨a2, e2, k2⟩ := g 2 (by decide) c2 rfl
    obtain ⟨a3, e3, k3⟩ := g 3 (by decide) c3 rfl
    obtain ⟨a4, e4, k4⟩ := g 4 (by decide) c4 rfl
    obtain ⟨a5, e5, k5⟩ := g 5 (by decide) c5 rfl
    exact ⟨⟨a0, a1, a2, a3, a4, a5⟩, e0, e1, e2, e3, e4, e5, ⟨k0, k1, k2, k3, k4, k5⟩⟩
end


theorem cellsMac0 : Tryd.prog.cellsOf 29 = 6 := by kernel_rfl
set_option maxRecDepth 100000 in
theorem open_mac {H : Type} {enc : TypeId × Value → H} {w : World} {base : Nat} {spare : Nat → Bool} {held : Bool} {r : Reach} {b0 : Nat} {v : Value} {d : DataW H} {ps : List MemPlace}
    (hval : Value.okWide Tryd.prog w r b0 29 v) (hd : DataW.Trod enc Tryd.prog w base spare held 29 v d ps) : ∃ m : Mac, v = m.val ∧ m.ok := by
  obtain ⟨cs, rfl, hsz⟩ : ∃ cs, v = .agg cs ∧ cs.size = Tryd.prog.cellsOf 29 := by
    simp only [Value.okWide, Tryd.underlying29] at hval
    obtain ⟨cs, h1, h2, _⟩ := hval
    exact ⟨cs, h1, h2⟩
  obtain ⟨l⟩ := cs
  match l, hsz.trans cellsMac0 with
  | [c0, c1, c2, c3, c4, c5], _ =>
    obtain ⟨fuel, hf⟩ := hd
    obtain ⟨m, e0, e1, e2, e3, e4, e5, hm⟩ := trod_u8s Tryd.underlying29 (by kernel_rfl) Tryd.underlying5 hf
    subst e0 e1 e2 e3 e4 e5
    exact ⟨m, rfl, hm⟩
end Go.Proofs.YtedlclgimeafeaaDoor.hopen
