import Derived.Test.YtedlclgimeafeaaDoorFrame
import Derived.Test.YtedlclgimeafeaaDoorHOpen
import Derived.Test.YtedlclgimeafeaaDoorTie
import Derived.LaidMore
/- The frame of a law of the door's seat: the widths lie as the text lays them; a header that comes in, opened. -/
set_option linter.unusedVariables false
set_option linter.unusedSimpArgs false
namespace Go.Proofs.YtedlclgimeafeaaDoor.frame
open Go.ChangeShapes Go.WideShapes Go.ChangeAt Go.RowKit Go.Joins Go.Deep Go.Proofs.YtedlclgimeafeaaDoor.hmath Go.Proofs.YtedlclgimeafeaaDoor.hopen

theorem cellsHdr : Tryd.prog.cellsOf 33 = 19 := by kernel_rfl
theorem cellsMac : Tryd.prog.cellsOf 29 = 6 := by kernel_rfl
theorem cellsInt : Tryd.prog.cellsOf 3 = 1 := by kernel_rfl
theorem cellsAddr : Tryd.prog.cellsOf 31 = 1 := by kernel_rfl
set_option maxRecDepth 100000 in
theorem open_hdr {H : Type} {enc : TypeId × Value → H} {w : World} {base : Nat} {spare : Nat → Bool} {held : Bool} {r : Reach} {b0 : Nat} {v : Value} {d : DataW H} {ps : List MemPlace}
    (hval : Value.okWide Tryd.prog w r b0 33 v) (hd : DataW.Trod enc Tryd.prog w base spare held 33 v d ps) : ∃ h : Hd, v = h.val ∧ h.ok := by
  obtain ⟨cs, rfl, hsz⟩ := okWide_struct Tryd.underlying33 hval
  obtain ⟨l⟩ := cs
  match l, hsz.trans cellsHdr with
  | [c0, c1, c2, c3, c4, c5, c6, c7, c8, c9, c10, c11, c12, c13, c14, c15, c16, c17, c18], _ =>
    obtain ⟨fuel, hf⟩ := hd
    obtain ⟨xs, n, _, hx, _, hlen, hg⟩ := DataW.trod_struct Tryd.underlying33 hf
    match xs, hlen with
    | [y0, y1, y2, y3, y4, y5, y6, y7, y8], _ =>
      have g0 : DataW.trod enc Tryd.prog w base spare held n 3 [c0] = some y0 := by
        have h : DataW.trod enc Tryd.prog w base spare held n 3 (([c0, c1, c2, c3, c4, c5, c6, c7, c8, c9, c10, c11, c12, c13, c14, c15, c16, c17, c18].drop 0).take (Tryd.prog.cellsOf 3)) = some y0 := hg 0 _ rfl
        rw [cellsInt] at h
        exact h
      have g1 : DataW.trod enc Tryd.prog w base spare held n 29 [c1, c2, c3, c4, c5, c6] = some y1 := by
        have h : DataW.trod enc Tryd.prog w base spare held n 29 (([c0, c1, c2, c3, c4, c5, c6, c7, c8, c9, c10, c11, c12, c13, c14, c15, c16, c17, c18].drop 1).take (Tryd.prog.cellsOf 29)) = some y1 := hg 1 _ rfl
        rw [cellsMac] at h
        exact h
      have g2 : DataW.trod enc Tryd.prog w base spare held n 29 [c7, c8, c9, c10, c11, c12] = some y2 := by
        have h : DataW.trod enc Tryd.prog w base spare held n 29 (([c0, c1, c2, c3, c4, c5, c6, c7, c8, c9, c10, c11, c12, c13, c14, c15, c16, c17, c18].drop 7).take (Tryd.prog.cellsOf 29)) = some y2 := hg 2 _ rfl
        rw [cellsMac] at h
        exact h
      have g3 : DataW.trod enc Tryd.prog w base spare held n 3 [c13] = some y3 := by
        have h : DataW.trod enc Tryd.prog w base spare held n 3 (([c0, c1, c2, c3, c4, c5, c6, c7, c8, c9, c10, c11, c12, c13, c14, c15, c16, c17, c18].drop 13).take (Tryd.prog.cellsOf 3)) = some y3 := hg 3 _ rfl
        rw [cellsInt] at h
        exact h
      have g4 : DataW.trod enc Tryd.prog w base spare held n 31 [c14] = some y4 := by
        have h : DataW.trod enc Tryd.prog w base spare held n 31 (([c0, c1, c2, c3, c4, c5, c6, c7, c8, c9, c10, c11, c12, c13, c14, c15, c16, c17, c18].drop 14).take (Tryd.prog.cellsOf 31)) = some y4 := hg 4 _ rfl
        rw [cellsAddr] at h
        exact h
      have g5 : DataW.trod enc Tryd.prog w base spare held n 31 [c15] = some y5 := by
        have h : DataW.trod enc Tryd.prog w base spare held n 31 (([c0, c1, c2, c3, c4, c5, c6, c7, c8, c9, c10, c11, c12, c13, c14, c15, c16, c17, c18].drop 15).take (Tryd.prog.cellsOf 31)) = some y5 := hg 5 _ rfl
        rw [cellsAddr] at h
        exact h
      have g6 : DataW.trod enc Tryd.prog w base spare held n 3 [c16] = some y6 := by
        have h : DataW.trod enc Tryd.prog w base spare held n 3 (([c0, c1, c2, c3, c4, c5, c6, c7, c8, c9, c10, c11, c12, c13, c14, c15, c16, c17, c18].drop 16).take (Tryd.prog.cellsOf 3)) = some y6 := hg 6 _ rfl
        rw [cellsInt] at h
        exact h
      have g7 : DataW.trod enc Tryd.prog w base spare held n 3 [c17] = some y7 := by
        have h : DataW.trod enc Tryd.prog w base spare held n 3 (([c0, c1, c2, c3, c4, c5, c6, c7, c8, c9, c10, c11, c12, c13, c14, c15, c16, c17, c18].drop 17).take (Tryd.prog.cellsOf 3)) = some y7 := hg 7 _ rfl
        rw [cellsInt] at h
        exact h
      have g8 : DataW.trod enc Tryd.prog w base spare held n 3 [c18] = some y8 := by
        have h : DataW.trod enc Tryd.prog w base spare held n 3 (([c0, c1, c2, c3, c4, c5, c6, c7, c8, c9, c10, c11, c12, c13, c14, c15, c16, c17, c18].drop 18).take (Tryd.prog.cellsOf 3)) = some y8 := hg 8 _ rfl
        rw [cellsInt] at h
        exact h
      obtain ⟨p, e0, _, w0⟩ := DataW.trod_int Tryd.underlying3 g0
      obtain ⟨s, e1, e2, e3, e4, e5, e6, w1⟩ := trod_u8s Tryd.underlying29 (by kernel_rfl) Tryd.underlying5 g1
      obtain ⟨d, e7, e8, e9, e10, e11, e12, w2⟩ := trod_u8s Tryd.underlying29 (by kernel_rfl) Tryd.underlying5 g2
      obtain ⟨t, e13, _, w3⟩ := DataW.trod_int Tryd.underlying3 g3
      obtain ⟨si, e14, _, w4⟩ := DataW.trod_int Tryd.underlying31 g4
      obtain ⟨di, e15, _, w5⟩ := DataW.trod_int Tryd.underlying31 g5
      obtain ⟨pr, e16, _, w6⟩ := DataW.trod_int Tryd.underlying3 g6
      obtain ⟨sp, e17, _, w7⟩ := DataW.trod_int Tryd.underlying3 g7
      obtain ⟨dp, e18, _, w8⟩ := DataW.trod_int Tryd.underlying3 g8
      simp at e0 e13 e14 e15 e16 e17 e18
      subst e0 e1 e2 e3 e4 e5 e6 e7 e8 e9 e10 e11 e12 e13 e14 e15 e16 e17 e18
      exact ⟨⟨p, s, d, t, si, di, pr, sp, dp⟩, rfl, ⟨i64_of w0, w1, w2, i64_of w3, u32_of w4, u32_of w5, i64_of w6, i64_of w7, i64_of w8⟩⟩

/-- what the row lists -/
abbrev laid : List (String × DataW Unit) := [("carrefour/head.widths", Rows.laid_carrefour_head_widths)]
theorem gW : Tryd.prog.globalNamed "carrefour/head.widths" = some 0 := by kernel_rfl
theorem tW : (Tryd.prog.globals[0]?).map (·.type) = some 45 := by kernel_rfl
/-- The door's own heap meets the condition. -/
theorem door_met (os : Os) (args : Array Value) : laidMetH Tryd.prog laid ((World.doorLaid Tryd.prog 400 os).forCall (fun _ _ => 0) ⟨#[], args, []⟩).memory :=
  laidMetH_of_parts3 (fuel := 8) (laidMet_of_run' 8 (by kernel_rfl) (by kernel_rfl)) (by kernel_rfl) (by kernel_rfl)

/-- the widths lie in their cells -/
def Laid (w : World) : Prop := ∀ i : Nat, i < 9 → w.cell? ⟨0, i, none⟩ = some (.int .i64 (widthI i))
theorem of_laid {W : World} (h : laidMetH Tryd.prog laid W) : Laid W := by
  rw [MakeChecks.laidMetH_plain _ _ _ (by kernel_rfl)] at h
  obtain ⟨ps, ⟨g0, t0, cs0, f0, p0, q0, hg0, ht0, hv0, hd0, _⟩, _, _⟩ := h
  obtain rfl := Option.some.inj (gW.symm.trans hg0)
  obtain rfl := Option.some.inj (tW.symm.trans ht0)
  obtain ⟨xs, m1, _, hx1, hlen, hn, hel⟩ := DataW.trod_array Tryd.underlying45 hd0
  have c9 : Tryd.prog.cellsOf 45 = 9 := by kernel_rfl
  simp only [Prod.mk.injEq] at hx1
  intro i hi
  have h0 := hel i hi
  have hxi : i < xs.length := by rw [hn]; exact hi
  rw [List.getElem?_eq_getElem hxi, cellsInt] at h0
  obtain ⟨k, e1, e2, _⟩ := DataW.trod_int Tryd.underlying3 h0
  have hl : cs0.toList.length = 9 := by rw [← c9]; exact hlen
  have hil : i < cs0.toList.length := by omega
  rw [Nat.mul_one, List.drop_eq_getElem_cons hil] at e1
  simp only [List.take_succ_cons, List.take_zero, List.cons.injEq, and_true] at e1
  have hc := World.var?_cell hg0 hv0 i
  have hlit : k = widthI i := by
    have h1 := hx1.1
    unfold Rows.laid_carrefour_head_widths at h1
    have h2 := congrArg (fun d => match d with | DataW.agg l => l[i]? | _ => none) h1
    simp only [List.getElem?_map, List.getElem?_eq_getElem hxi, Option.map_some, e2] at h2
    have : i = 0 ∨ i = 1 ∨ i = 2 ∨ i = 3 ∨ i = 4 ∨ i = 5 ∨ i = 6 ∨ i = 7 ∨ i = 8 := by omega
    rcases this with rfl | rfl | rfl | rfl | rfl | rfl | rfl | rfl | rfl <;> simp at h2 <;> subst h2 <;> rfl
  rw [hc, ← Array.getElem?_toList, List.getElem?_eq_getElem hil, e1, hlit]
end Go.Proofs.YtedlclgimeafeaaDoor.frame
