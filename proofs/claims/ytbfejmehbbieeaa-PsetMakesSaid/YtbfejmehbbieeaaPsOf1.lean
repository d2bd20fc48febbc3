import Derived.Test.YtbfejmehbbieeaaPsCompact
import Derived.Test.YtbfejmehbbieeaaPsIp
/- Package pset: Len, bounded; sorting, and leaving out, nothing. -/
set_option linter.unusedVariables false
set_option linter.unusedSimpArgs false
namespace Go.Proofs.Ytbfejmehbbieeaa.psof
open Go.RowKit Go.Shelf Go.Lib Go.Sort Go.Proofs.Ytbfejmehbbieeaa.pscmp Go.Proofs.Ytbfejmehbbieeaa.psfind Go.Proofs.Ytbfejmehbbieeaa.pssort Go.Proofs.Ytbfejmehbbieeaa.psuniq Go.Proofs.Ytbfejmehbbieeaa.pscompact

/-- a slice value whose prefixes are d: nil, or a row in a block -/
def IsRow (w : World) (s : Value) (d : Array P2) : Prop := (s = .slice none 0 0 ∧ d = #[]) ∨ ∃ b o cap, s = .slice (some ⟨b, o, none⟩) d.size cap ∧ Row w b o d ∧ b < w.heap.size
theorem IsRow.below {w w' : World} {s : Value} {d : Array P2} (h : IsRow w s d) (hb : Below w.heap.size w w') : IsRow w' s d := by
  rcases h with h | ⟨b, o, cap, e, r, l⟩
  · exact .inl h
  · exact .inr ⟨b, o, cap, e, r.below hb, Nat.lt_of_lt_of_le l hb.size⟩

theorem len_any (s : Value) (w : World) (n : Nat) (hs : (s = .slice none 0 0 ∧ n = 0) ∨ ∃ a cap, s = .slice (some a) n cap) :
    Calls Try.prog 14 #[.agg #[s]] w fun e w' => e = .returned (.int .i64 n) ∧ Below w.heap.size w w' := by
  rcases hs with ⟨rfl, rfl⟩ | ⟨a, cap, rfl⟩
  · go_enter Try.func14, Try.ntmps14
    go_wp2_with fail
    go_ret
    exact ⟨rfl, (Below.refl _ _).alloc (Nat.le_refl _) _⟩
  · go_enter Try.func14, Try.ntmps14
    go_wp2_with fail
    go_ret
    exact ⟨rfl, (Below.refl _ _).alloc (Nat.le_refl _) _⟩

theorem len64_zero (w : World) : Calls Try.prog 70 #[.int .u64 0] w fun e w' => e = .returned (.int .i64 0) ∧ w = w' := by
  go_enter Try.func70, Try.ntmps70
  go_wp2_with fail
  go_ret
  exact ⟨by
    show Ending.returned (.int .i64 (wrap64 (wrap64 (len8 0)))) = _
    rw [show wrap64 (wrap64 (len8 0)) = 0 by decide +kernel], rfl⟩
theorem len_zero (w : World) : Calls Try.prog 54 #[.int .u64 0] w fun e w' => e = .returned (.int .i64 0) ∧ w = w' := by
  go_enter Try.func54, Try.ntmps54
  go_wp2_with fail
  refine (len64_zero _).mono ?_
  rintro e w1 ⟨rfl, rfl⟩
  go_wp2_with fail
  go_ret
  exact ⟨rfl, rfl⟩
theorem insert_nil (w : World) : Calls Try.prog 61 #[.slice none 0 0, .int .i64 0, .int .i64 0, .func (.func 26) #[] #[]] w fun e w' => e = .returned (.tuple #[]) ∧ w = w' := by
  go_enter Try.func61, Try.ntmps61
  go_wp2_with fail
  go_rounds 1
  exact bodyPost_end (v := .tuple #[]) (by simp [results, Try.results61, go_sem]) rfl ⟨rfl, rfl⟩
set_option maxRecDepth 100000 in
theorem pdq_nil (w : World) : Calls Try.prog 53 #[.slice none 0 0, .int .i64 0, .int .i64 0, .int .i64 0, .func (.func 26) #[] #[]] w fun e w' => e = .returned (.tuple #[]) ∧ w = w' := by
  go_enter Try.func53, Try.ntmps53
  go_wp2_with fail
  go_loop [1, 2] (fun a b => a = .int .i64 0 ∧ b = .int .i64 0) (fun _ _ => 0)
  case atStart => exact ⟨rfl, rfl⟩
  case round =>
    obtain ⟨rfl, rfl⟩ := hrel
    go_wp2_with fail
    refine (insert_nil _).mono ?_
    rintro e w1 ⟨rfl, rfl⟩
    go_wp2_with fail
    exact bodyPost_ret (v := .tuple #[]) (by simp [results, Try.results53, go_sem]) rfl ⟨rfl, rfl⟩
theorem sort_nil (w : World) : Calls Try.prog 32 #[.slice none 0 0, .func (.func 26) #[] #[]] w fun e w' => e = .returned (.tuple #[]) ∧ w = w' := by
  go_enter Try.func32, Try.ntmps32
  go_wp2_with fail
  refine (len_zero _).mono ?_
  rintro e w1 ⟨rfl, rfl⟩
  go_wp2_with fail
  refine (pdq_nil _).mono ?_
  rintro e w1 ⟨rfl, rfl⟩
  go_wp2_with fail
  exact bodyPost_end (v := .tuple #[]) (by simp [results, Try.results32, go_sem]) rfl ⟨rfl, rfl⟩

theorem compact_nil (w : World) : Calls Try.prog 34 #[.slice none 0 0] w fun e w' => e = .returned (.slice none 0 0) ∧ w = w' := by
  go_enter Try.func34, Try.ntmps34
  go_wp2_with fail
  go_ret
  exact ⟨rfl, rfl⟩

theorem bounded_ok (s : Value) (w : World) (n : Nat) (hs : (s = .slice none 0 0 ∧ n = 0) ∨ ∃ a cap, s = .slice (some a) n cap) (h : n ≤ 4096) :
    Calls Try.prog 33 #[.agg #[s]] w fun e w' => e = .returned (.tuple #[.agg #[s], .int .i64 0]) ∧ Below w.heap.size w w' := by
  obtain ⟨hl, hz⟩ : (∃ a c m, s = .slice a m c) ∧ True := ⟨by rcases hs with ⟨rfl, _⟩ | ⟨a, cap, rfl⟩ <;> exact ⟨_, _, _, rfl⟩, trivial⟩
  have K := Lib.hid (fun W => len_any s W n hs)
  obtain ⟨a, c, m, rfl⟩ := hl
  clear hs hz
  go_enter Try.func33, Try.ntmps33
  go_wp2_with fail
  refine (K.out _).mono ?_
  rintro e w1 ⟨rfl, hb⟩
  have e0 : w1.cell? ⟨w.heap.size, 0, none⟩ = some (.slice a m c) := (hb.cell (p := ⟨w.heap.size, 0, none⟩) (by simp; omega)).trans (by go_simp)
  have e1 : w1.cell? ⟨w.heap.size + 1, 0, none⟩ = some (.slice none 0 0) := (hb.cell (p := ⟨w.heap.size + 1, 0, none⟩) (by simp)).trans (by go_simp)
  have e2 : w1.frozen? ⟨w.heap.size + 1, 0, none⟩ = false := (hb.frozen (p := ⟨w.heap.size + 1, 0, none⟩) (by simp)).trans (by go_simp)
  have hB := Lib.hid (aid.bnext (((Below.refl w.heap.size w).alloc (Nat.le_refl _) _).alloc (by simp) _) hb (by simp; omega))
  clear hb
  go_wp2_with fail
  refine bodyPost_ret (v := .tuple #[.agg #[.slice a m c], .int .i64 0]) (by simp [results, Try.results33, go_sem, e1]) rfl ⟨rfl, ?_⟩
  have hBo := hB.out
  repeat (refine Below.setCell ?_ (by simp) _)
  exact hBo
theorem bounded_many (s : Value) (w : World) (n : Nat) (hs : (s = .slice none 0 0 ∧ n = 0) ∨ ∃ a cap, s = .slice (some a) n cap) (h : 4096 < n) (h2 : n < 4611686018427387904) :
    Calls Try.prog 33 #[.agg #[s]] w fun e w' => e = .returned (.tuple #[.agg #[.slice none 0 0], .int .i64 3]) ∧ Below w.heap.size w w' := by
  obtain ⟨hl, hz⟩ : (∃ a c m, s = .slice a m c) ∧ True := ⟨by rcases hs with ⟨rfl, _⟩ | ⟨a, cap, rfl⟩ <;> exact ⟨_, _, _, rfl⟩, trivial⟩
  have K := Lib.hid (fun W => len_any s W n hs)
  obtain ⟨a, c, m, rfl⟩ := hl
  clear hs hz
  go_enter Try.func33, Try.ntmps33
  go_wp2_with fail
  refine (K.out _).mono ?_
  rintro e w1 ⟨rfl, hb⟩
  have e0 : w1.cell? ⟨w.heap.size, 0, none⟩ = some (.slice a m c) := (hb.cell (p := ⟨w.heap.size, 0, none⟩) (by simp; omega)).trans (by go_simp)
  have e1 : w1.cell? ⟨w.heap.size + 1, 0, none⟩ = some (.slice none 0 0) := (hb.cell (p := ⟨w.heap.size + 1, 0, none⟩) (by simp)).trans (by go_simp)
  have e2 : w1.frozen? ⟨w.heap.size + 1, 0, none⟩ = false := (hb.frozen (p := ⟨w.heap.size + 1, 0, none⟩) (by simp)).trans (by go_simp)
  have hB := Lib.hid (aid.bnext (((Below.refl w.heap.size w).alloc (Nat.le_refl _) _).alloc (by simp) _) hb (by simp; omega))
  clear hb
  go_wp2_with fail
  refine bodyPost_ret (v := .tuple #[.agg #[.slice none 0 0], .int .i64 3]) (by simp [results, Try.results33, go_sem, e1]) rfl ⟨rfl, ?_⟩
  have hBo := hB.out
  repeat (refine Below.setCell ?_ (by simp) _)
  exact hBo
end Go.Proofs.Ytbfejmehbbieeaa.psof
