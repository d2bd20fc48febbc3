import Derived.Test.YtpnbbaocdbopiaaAid
import Derived.Test.YtpnbbaocdbopiaaProg
import Derived.Deep.RegionHeld3
/- Loads taken first in a region that draws its order: a set, a prefix. -/
set_option linter.unusedVariables false
set_option linter.unusedSimpArgs false
namespace Go.Proofs.Ytpnbbaocdbopiaa.psheld
open Go.RowKit

theorem yields_set {ops : Array Oper} {S : World → Prop} {op : Oper} {a : Act} (hw : Region.wanted op (yielded ops a.tmps) = true) (x : Operand) (ho : op.op = .load 29 x) (b o : Nat) (hx : a.eval x = .pointer (some ⟨b, o, none⟩)) (v : Value) (hS : ∀ w, S w → w.cell? ⟨b, o, none⟩ = some v) : YieldsIf Try.prog ops S op (.agg #[v]) a :=
  yieldsIf_load_mid hw 29 x ho b o hx [v] _ (fun w h j u hu => by
    have : j = 0 := by
      have := (List.getElem?_eq_some_iff.1 hu).1
      simpa using this
    subst this
    simp only [List.getElem?_cons_zero, Option.some.injEq] at hu
    rw [← hu]
    exact hS w h) Try.underlying29 rfl (by kernel_rfl)
theorem yields_pfx {ops : Array Oper} {S : World → Prop} {op : Oper} {a : Act} (hw : Region.wanted op (yielded ops a.tmps) = true) (x : Operand) (ho : op.op = .load 26 x) (b o : Nat) (hx : a.eval x = .pointer (some ⟨b, o, none⟩)) (v u : Value) (hS : ∀ w, S w → w.cell? ⟨b, o, none⟩ = some v) (hT : ∀ w, S w → w.cell? ⟨b, o + 1, none⟩ = some u) : YieldsIf Try.prog ops S op (.agg #[v, u]) a :=
  yieldsIf_load_mid hw 26 x ho b o hx [v, u] _ (fun w h j z hz => by
    have hj := (List.getElem?_eq_some_iff.1 hz).1
    have : j = 0 ∨ j = 1 := by simp at hj; omega
    rcases this with rfl | rfl
    · simp only [List.getElem?_cons_zero, Option.some.injEq] at hz
      rw [← hz]
      exact hS w h
    · simp only [List.getElem?_cons_zero, List.getElem?_cons_succ, Option.some.injEq] at hz
      rw [← hz]
      exact hT w h) Try.underlying26 rfl (by kernel_rfl)
end Go.Proofs.Ytpnbbaocdbopiaa.psheld
