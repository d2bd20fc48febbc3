import Derived.Test.YtbfejmehbbieeaaProg
import Derived.WalkKit
import Derived.Outline
import Derived.Handy
import Derived.WalkLawsBesides
import Derived.Below
import Derived.Deep.RegionHeld3
import Derived.Lib.Hide
import Derived.Shelf.SlSortCmp.NoneTotal
import Derived.Shelf.SlSortCmp.WholeK
/- The order of prefixes, as slices.SortFunc asks for it: what Cmp answers, and that it only lays blocks behind; that it is a strict weak order, and parts any two that are not one. -/
set_option linter.unusedVariables false
set_option linter.unusedSimpArgs false
namespace Go.Proofs.Ytbfejmehbbieeaa.pscmp
open Go.RowKit Go.Shelf Go.Lib Go.Sort

theorem compare_addr (a b : Int) (w : World) : Calls Try.prog 49 #[.int .u32 a, .int .u32 b] w fun e w' => e = .returned (.int .i64 (if a < b then -1 else if b < a then 1 else 0)) ∧ w = w' := by
  by_cases h1 : a < b
  · go_enter Try.func49, Try.ntmps49
    go_wp2
    go_ret
    exact ⟨rfl, rfl⟩
  · by_cases h2 : b < a
    · go_enter Try.func49, Try.ntmps49
      go_wp2
      go_ret
      exact ⟨rfl, rfl⟩
    · go_enter Try.func49, Try.ntmps49
      go_wp2
      go_ret
      exact ⟨rfl, rfl⟩

theorem compare_int (a b : Int) (w : World) : Calls Try.prog 50 #[.int .i64 a, .int .i64 b] w fun e w' => e = .returned (.int .i64 (if a < b then -1 else if b < a then 1 else 0)) ∧ w = w' := by
  by_cases h1 : a < b
  · go_enter Try.func50, Try.ntmps50
    go_wp2
    go_ret
    exact ⟨rfl, rfl⟩
  · by_cases h2 : b < a
    · go_enter Try.func50, Try.ntmps50
      go_wp2
      go_ret
      exact ⟨rfl, rfl⟩
    · go_enter Try.func50, Try.ntmps50
      go_wp2
      go_ret
      exact ⟨rfl, rfl⟩

/-- cmp.Or of two ints: the first that is not 0 -/
theorem or_two (x y : Int) (g cap : Nat) (w : World) (hx : w.cell? ⟨g, 0, none⟩ = some (.int .i64 x)) (hy : w.cell? ⟨g, 1, none⟩ = some (.int .i64 y)) : Calls Try.prog 48 #[.slice (some ⟨g, 0, none⟩) 2 cap] w fun e w' => e = .returned (.int .i64 (if x = 0 then y else x)) ∧ w = w' := by
  by_cases h1 : x = 0
  · subst h1
    by_cases h2 : y = 0
    · subst h2
      go_enter Try.func48, Try.ntmps48
      go_wp2_with fail
      go_rounds 3
      go_ret
      exact ⟨rfl, rfl⟩
    · have h2' : (y == 0) = false := by simpa using h2
      go_enter Try.func48, Try.ntmps48
      go_wp2_with fail
      go_rounds 3
      go_ret
      exact ⟨rfl, rfl⟩
  · have h1' : (x == 0) = false := by simpa using h1
    rw [if_neg h1]
    go_enter Try.func48, Try.ntmps48
    go_wp2_with fail
    go_rounds 3
    go_ret
    exact ⟨rfl, rfl⟩

def or2 (x y : Int) : Int := if x = 0 then y else x
def cmp3 (x y : Int) : Int := if x < y then -1 else if y < x then 1 else 0
def cmpP (a n b m : Int) : Int := or2 (cmp3 a b) (cmp3 n m)


/-- a prefix: its address and its length; its two cells -/
def enc (x : Int × Int) : List Value := [.int .u32 x.1, .int .i64 x.2]
def cf (x y : Int × Int) : Int := cmpP x.1 x.2 y.1 y.2

theorem three (w : World) (a b c : Obj) : (((w.alloc a).alloc b).alloc c).drew = grow (w.drewN 1) #[a, b, c] := by
  rw [alloc_eq_grow, alloc_eq_grow, alloc_eq_grow, grow_grow, grow_grow]
  rfl
/-- Cmp in whatever world: blocks are laid behind, one order is drawn, all else stays -/
theorem cmp_grow (x y : Int × Int) (w : World) : Calls Try.prog 26 #[.agg #[.int .u32 x.1, .int .i64 x.2], .agg #[.int .u32 y.1, .int .i64 y.2]] w fun e w' => e = .returned (.int .i64 (cf x y)) ∧ ∃ q os, w' = grow (w.drewN q) os := by
  obtain ⟨a, n⟩ := x
  obtain ⟨b, m⟩ := y
  unfold cf
  dsimp only
  have k1 := compare_addr a b
  have k2 := compare_int n m
  rw [show (if a < b then (-1 : Int) else if b < a then 1 else 0) = cmp3 a b from rfl] at k1
  rw [show (if n < m then (-1 : Int) else if m < n then 1 else 0) = cmp3 n m from rfl] at k2
  have k3 : ∀ (g cap : Nat) (w : World) (hx : w.cell? ⟨g, 0, none⟩ = some (.int .i64 (cmp3 a b))) (hy : w.cell? ⟨g, 1, none⟩ = some (.int .i64 (cmp3 n m))), Calls Try.prog 48 #[.slice (some ⟨g, 0, none⟩) 2 cap] w fun e w' => e = .returned (.int .i64 (cmpP a n b m)) ∧ w = w' := fun g cap w hx hy => or_two _ _ g cap w hx hy
  have K3 := Lib.hid k3
  have K1 := Lib.hid k1
  have K2 := Lib.hid k2
  clear k1 k2 k3
  go_enter Try.func26, Try.ntmps26
  go_wp2_with fail
  go_region_held3 (fun W => W.cell? ⟨w.heap.size, 0, none⟩ = some (.int .u32 a) ∧ W.cell? ⟨w.heap.size, 1, none⟩ = some (.int .i64 n) ∧ W.cell? ⟨w.heap.size + 1, 0, none⟩ = some (.int .u32 b) ∧ W.cell? ⟨w.heap.size + 1, 1, none⟩ = some (.int .i64 m)) (first | go_keep)
    (first | (go_at_call 49; refine (K1.out _).mono ?_; rintro e w1 ⟨rfl, rfl⟩) | (go_at_call 50; refine (K2.out _).mono ?_; rintro e w1 ⟨rfl, rfl⟩) | (go_at_call 48; refine (K3.out _ _ _ (by go_simp) (by go_simp)).mono ?_; rintro e w1 ⟨rfl, rfl⟩))
  go_wp2
  go_ret
  exact ⟨rfl, 1, _, three w _ _ _⟩

theorem lt_iff (x y : Int × Int) : ltOf cf x y = true ↔ (x.1 < y.1 ∨ (x.1 = y.1 ∧ x.2 < y.2)) := by
  unfold ltOf cf cmpP or2 cmp3
  simp only [decide_eq_true_eq]
  repeat' split
  all_goals omega
theorem swo : SWO (ltOf cf) where
  irrefl x := by
    cases h : ltOf cf x x
    · rfl
    · exact absurd ((lt_iff x x).1 h) (by omega)
  trans x y z h1 h2 := by
    rw [lt_iff] at *
    omega
  ntrans x y z h1 h2 := by
    have g1 : ¬ (x.1 < y.1 ∨ (x.1 = y.1 ∧ x.2 < y.2)) := fun h => by rw [(lt_iff x y).2 h] at h1; cases h1
    have g2 : ¬ (y.1 < z.1 ∨ (y.1 = z.1 ∧ y.2 < z.2)) := fun h => by rw [(lt_iff y z).2 h] at h2; cases h2
    cases h : ltOf cf x z
    · rfl
    · exact absurd ((lt_iff x z).1 h) (by omega)
theorem parts (x y : Int × Int) (h1 : ltOf cf x y = false) (h2 : ltOf cf y x = false) : x = y := by
  have g1 : ¬ (x.1 < y.1 ∨ (x.1 = y.1 ∧ x.2 < y.2)) := fun h => by rw [(lt_iff x y).2 h] at h1; cases h1
  have g2 : ¬ (y.1 < x.1 ∨ (y.1 = x.1 ∧ y.2 < x.2)) := fun h => by rw [(lt_iff y x).2 h] at h2; cases h2
  obtain ⟨a, n⟩ := x
  obtain ⟨b, m⟩ := y
  simp only [Prod.mk.injEq]
  dsimp only at g1 g2
  omega
theorem cmpLays (blk off size : Nat) (w : World) : CmpLays Try.prog 26 #[] enc 2 cf blk off size w :=
  fun _ _ _ _ x y => cmp_grow x y _
end Go.Proofs.Ytbfejmehbbieeaa.pscmp
