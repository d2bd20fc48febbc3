import Derived.Test.YtfealajbibofiaaAid
import Derived.Test.YtfealajbibofiaaMath1
/- Rows of prefixes in memory. -/
set_option linter.unusedVariables false
namespace Go.Proofs.Ytfealajbibofiaa.psof
open Go.RowKit

abbrev P2 := Int × Int
def Row (W : World) (b o : Nat) (d : Array P2) : Prop := ∀ k, k < d.size → W.cell? ⟨b, o + k * 2, none⟩ = some (.int .u32 d[k]!.1) ∧ W.cell? ⟨b, o + k * 2 + 1, none⟩ = some (.int .i64 d[k]!.2)
theorem Row.below {W W' : World} {b o : Nat} {d : Array P2} (h : Row W b o d) (hb : Below W.heap.size W W') : Row W' b o d := fun k hk => ⟨aid.kc hb (h k hk).1, aid.kc hb (h k hk).2⟩
def IsRow (w : World) (s : Value) (d : Array P2) : Prop := (s = .slice none 0 0 ∧ d = #[]) ∨ ∃ b o cap, s = .slice (some ⟨b, o, none⟩) d.size cap ∧ Row w b o d ∧ b < w.heap.size
theorem IsRow.below {w w' : World} {s : Value} {d : Array P2} (h : IsRow w s d) (hb : Below w.heap.size w w') : IsRow w' s d := by
  rcases h with h | ⟨b, o, cap, e, r, l⟩
  · exact .inl h
  · exact .inr ⟨b, o, cap, e, r.below hb, Nat.lt_of_lt_of_le l hb.size⟩
theorem IsRow.shape {w : World} {s : Value} {d : Array P2} (h : IsRow w s d) : ∃ a c, s = .slice a d.size c := by
  rcases h with ⟨rfl, rfl⟩ | ⟨b, o, cap, rfl, _⟩ <;> exact ⟨_, _, rfl⟩
/-- the cells of a row's prefix -/
theorem IsRow.at {w : World} {a : Option Addr} {n c : Nat} {d : Array P2} (h : IsRow w (.slice a n c) d) {k : Nat} (hk : k < d.size) : ∃ b o, a = some ⟨b, o, none⟩ ∧ w.cell? ⟨b, o + k * 2, none⟩ = some (.int .u32 d[k]!.1) ∧ w.cell? ⟨b, o + k * 2 + 1, none⟩ = some (.int .i64 d[k]!.2) := by
  rcases h with ⟨_, e⟩ | ⟨b, o, cp, e, r, _⟩
  · rw [e] at hk; exact absurd hk (Nat.not_lt_zero _)
  · simp only [Value.slice.injEq] at e
    exact ⟨b, o, e.1, r k hk⟩
end Go.Proofs.Ytfealajbibofiaa.psof
