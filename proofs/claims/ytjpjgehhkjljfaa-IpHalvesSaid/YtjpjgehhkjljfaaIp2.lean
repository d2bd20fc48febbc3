import Derived.Test.YtjpjgehhkjljfaaIp1
import Derived.Test.YtjpjgehhkjljfaaMath2
import Derived.Test.YtjpjgehhkjljfaaAid
import Derived.RegionTactic
import Derived.ChangeAlike
/- Contracts of package ip: Covers, Meets, First, Last, Half, Cmp. -/
set_option linter.unusedVariables false
namespace Go.Proofs.Ytjpjgehhkjljfaa.ip1
open Go.RowKit Go.Proofs.Ytjpjgehhkjljfaa.math1

theorem covers_any (a n b m : Int) (w : World) (h0 : 0 ≤ a) (h1 : a < 4294967296) (h2 : 0 ≤ b) (h3 : b < 4294967296) : Calls Try.prog 23 #[.agg #[.int .u32 a, .int .i64 n], .agg #[.int .u32 b, .int .i64 m]] w fun e w' => e = .returned (.bool (coversB a n b m)) ∧ Below w.heap.size w w' := by
  cases hr : rightB b m
  · have hf : coversB a n b m = false := by simp [coversB, hr]
    rw [hf]
    go_enter Try.func23, Try.ntmps23
    go_wp2_with fail
    refine (check_any _ _ _ h2 h3).mono ?_
    rintro e w1 ⟨rfl, hb⟩
    rw [hr]
    simp only [Bool.false_eq_true, if_false]
    have hB := Lib.hid hb
    clear hb hr hf
    go_wp2_with fail
    go_ret
    refine ⟨rfl, aid.bnext (((Below.refl _ _).alloc (Nat.le_refl _) _).alloc (by simp) _) hB.out (by simp; omega)⟩
  · by_cases hnm : n ≤ m
    · have hf : coversB a n b m = hasB a n b := by simp [coversB, hr, hnm]
      rw [hf]
      go_enter Try.func23, Try.ntmps23
      go_wp2_with fail
      refine (check_any _ _ _ h2 h3).mono ?_
      rintro e w1 ⟨rfl, hb⟩
      rw [hr]
      simp only [if_true]
      obtain ⟨hc3, hf3, hs3⟩ := aid.bcell hb
      have hB := Lib.hid (aid.bnext (((Below.refl w.heap.size w).alloc (Nat.le_refl _) _).alloc (by simp) _) hb (by simp; omega))
      simp at hs3
      clear hb hr hf
      go_wp2_with fail
      refine (has_any _ _ _ _ h0 h1 h2 h3).mono ?_
      rintro e w2 ⟨rfl, hb2⟩
      have hB2 := Lib.hid (aid.bnext hB.out hb2 hB.out.size)
      clear hb2
      go_wp2_with fail
      go_ret
      exact ⟨rfl, hB2.out⟩
    · have hf : coversB a n b m = false := by
        have : decide (n ≤ m) = false := by simpa using hnm
        simp [coversB, this]
      rw [hf]
      have hm' : m < n := by omega
      go_enter Try.func23, Try.ntmps23
      go_wp2_with fail
      refine (check_any _ _ _ h2 h3).mono ?_
      rintro e w1 ⟨rfl, hb⟩
      rw [hr]
      simp only [if_true]
      obtain ⟨hc3, hf3, hs3⟩ := aid.bcell hb
      have hB := Lib.hid (aid.bnext (((Below.refl w.heap.size w).alloc (Nat.le_refl _) _).alloc (by simp) _) hb (by simp; omega))
      simp at hs3
      clear hb hr hf
      go_wp2_with fail
      go_ret
      exact ⟨rfl, hB.out⟩

def meetsB (a n b m : Int) : Bool := coversB a n b m || coversB b m a n

theorem meets_any (a n b m : Int) (w : World) (h0 : 0 ≤ a) (h1 : a < 4294967296) (h2 : 0 ≤ b) (h3 : b < 4294967296) : Calls Try.prog 25 #[.agg #[.int .u32 a, .int .i64 n], .agg #[.int .u32 b, .int .i64 m]] w fun e w' => e = .returned (.bool (meetsB a n b m)) ∧ Below w.heap.size w w' := by
  cases hr : coversB a n b m
  · have hf : meetsB a n b m = coversB b m a n := by simp [meetsB, hr]
    rw [hf]
    go_enter Try.func25, Try.ntmps25
    go_wp2_with fail
    refine (covers_any _ _ _ _ _ h0 h1 h2 h3).mono ?_
    rintro e w1 ⟨rfl, hb⟩
    rw [hr]
    obtain ⟨hc3, hf3, hs3⟩ := aid.bcell hb
    have hB := Lib.hid (aid.bnext (((Below.refl w.heap.size w).alloc (Nat.le_refl _) _).alloc (by simp) _) hb (by simp; omega))
    simp at hs3
    clear hb hr hf
    go_wp2_with fail
    refine (covers_any _ _ _ _ _ h2 h3 h0 h1).mono ?_
    rintro e w2 ⟨rfl, hb2⟩
    have hB2 := Lib.hid (aid.bnext hB.out hb2 hB.out.size)
    clear hb2
    go_wp2_with fail
    go_ret
    exact ⟨rfl, hB2.out⟩
  · have hf : meetsB a n b m = true := by simp [meetsB, hr]
    rw [hf]
    go_enter Try.func25, Try.ntmps25
    go_wp2_with fail
    refine (covers_any _ _ _ _ _ h0 h1 h2 h3).mono ?_
    rintro e w1 ⟨rfl, hb⟩
    rw [hr]
    have hB := Lib.hid (aid.bnext (((Below.refl w.heap.size w).alloc (Nat.le_refl _) _).alloc (by simp) _) hb (by simp; omega))
    clear hb hr hf
    go_wp2_with fail
    go_ret
    exact ⟨rfl, hB.out⟩

theorem first_any (a n : Int) (w : World) : Calls Try.prog 30 #[.agg #[.int .u32 a, .int .i64 n]] w fun e w' => e = .returned (.int .u32 a) ∧ Below w.heap.size w w' := by
  go_enter Try.func30, Try.ntmps30
  go_wp2_with fail
  go_ret
  exact ⟨rfl, (Below.refl _ _).alloc (Nat.le_refl _) _⟩

theorem last_any (a n : Int) (w : World) (h0 : 0 ≤ a) (h1 : a < 4294967296) : Calls Try.prog 28 #[.agg #[.int .u32 a, .int .i64 n]] w fun e w' => e = .returned (.int .u32 (lastI a n)) ∧ Below w.heap.size w w' := by
  have hm := maskI_bd n
  have hl := Lib.hid (last_bits a n h0 h1)
  go_enter Try.func28, Try.ntmps28
  go_wp2_with fail
  go_quiet ((go_at_call 16; exact Calls.quiet_of_same ((mask_any _ _).mono fun _ _ h => ⟨h.1, h.2.symm⟩)))
  go_wp2
  go_ret
  refine ⟨?_, aid.bdrawn ((Below.refl _ _).alloc (Nat.le_refl _) _) _⟩
  show Ending.returned (.int .u32 (bits .or .u32 a (bits .xor .u32 IntKind.u32.max (maskI n)))) = _
  rw [hl.out]

theorem compare_addr (a b : Int) (w : World) : Calls Try.prog 62 #[.int .u32 a, .int .u32 b] w fun e w' => e = .returned (.int .i64 (if a < b then -1 else if b < a then 1 else 0)) ∧ w = w' := by
  by_cases h1 : a < b
  · go_enter Try.func62, Try.ntmps62
    go_wp2
    go_ret
    exact ⟨rfl, rfl⟩
  · by_cases h2 : b < a
    · go_enter Try.func62, Try.ntmps62
      go_wp2
      go_ret
      exact ⟨rfl, rfl⟩
    · go_enter Try.func62, Try.ntmps62
      go_wp2
      go_ret
      exact ⟨rfl, rfl⟩

theorem compare_int (a b : Int) (w : World) : Calls Try.prog 63 #[.int .i64 a, .int .i64 b] w fun e w' => e = .returned (.int .i64 (if a < b then -1 else if b < a then 1 else 0)) ∧ w = w' := by
  by_cases h1 : a < b
  · go_enter Try.func63, Try.ntmps63
    go_wp2
    go_ret
    exact ⟨rfl, rfl⟩
  · by_cases h2 : b < a
    · go_enter Try.func63, Try.ntmps63
      go_wp2
      go_ret
      exact ⟨rfl, rfl⟩
    · go_enter Try.func63, Try.ntmps63
      go_wp2
      go_ret
      exact ⟨rfl, rfl⟩

/-- cmp.Or of two ints: the first that is not 0 -/
theorem or_two (x y : Int) (g cap : Nat) (w : World) (hx : w.cell? ⟨g, 0, none⟩ = some (.int .i64 x)) (hy : w.cell? ⟨g, 1, none⟩ = some (.int .i64 y)) : Calls Try.prog 61 #[.slice (some ⟨g, 0, none⟩) 2 cap] w fun e w' => e = .returned (.int .i64 (if x = 0 then y else x)) ∧ w = w' := by
  by_cases h1 : x = 0
  · subst h1
    by_cases h2 : y = 0
    · subst h2
      go_enter Try.func61, Try.ntmps61
      go_wp2_with fail
      go_rounds 3
      go_ret
      exact ⟨rfl, rfl⟩
    · have h2' : (y == 0) = false := by simpa using h2
      go_enter Try.func61, Try.ntmps61
      go_wp2_with fail
      go_rounds 3
      go_ret
      exact ⟨rfl, rfl⟩
  · have h1' : (x == 0) = false := by simpa using h1
    rw [if_neg h1]
    go_enter Try.func61, Try.ntmps61
    go_wp2_with fail
    go_rounds 3
    go_ret
    exact ⟨rfl, rfl⟩

def or2 (x y : Int) : Int := if x = 0 then y else x
def cmp3 (x y : Int) : Int := if x < y then -1 else if y < x then 1 else 0
def cmpP (a n b m : Int) : Int := or2 (cmp3 a b) (cmp3 n m)

theorem cmp_any (a n b m : Int) (w : World) : Calls Try.prog 31 #[.agg #[.int .u32 a, .int .i64 n], .agg #[.int .u32 b, .int .i64 m]] w fun e w' => e = .returned (.int .i64 (cmpP a n b m)) ∧ Below w.heap.size w w' := by
  have k1 := compare_addr a b
  have k2 := compare_int n m
  rw [show (if a < b then (-1 : Int) else if b < a then 1 else 0) = cmp3 a b from rfl] at k1
  rw [show (if n < m then (-1 : Int) else if m < n then 1 else 0) = cmp3 n m from rfl] at k2
  have k3 : ∀ (g cap : Nat) (w : World) (hx : w.cell? ⟨g, 0, none⟩ = some (.int .i64 (cmp3 a b))) (hy : w.cell? ⟨g, 1, none⟩ = some (.int .i64 (cmp3 n m))), Calls Try.prog 61 #[.slice (some ⟨g, 0, none⟩) 2 cap] w fun e w' => e = .returned (.int .i64 (cmpP a n b m)) ∧ w = w' := fun g cap w hx hy => or_two _ _ g cap w hx hy
  have K3 := Lib.hid k3
  have K1 := Lib.hid k1
  have K2 := Lib.hid k2
  clear k1 k2 k3
  go_enter Try.func31, Try.ntmps31
  go_wp2_with fail
  go_region_held3 (fun W => W.cell? ⟨w.heap.size, 0, none⟩ = some (.int .u32 a) ∧ W.cell? ⟨w.heap.size, 1, none⟩ = some (.int .i64 n) ∧ W.cell? ⟨w.heap.size + 1, 0, none⟩ = some (.int .u32 b) ∧ W.cell? ⟨w.heap.size + 1, 1, none⟩ = some (.int .i64 m)) (first | go_keep)
    (first | (go_at_call 62; refine (K1.out _).mono ?_; rintro e w1 ⟨rfl, rfl⟩) | (go_at_call 63; refine (K2.out _).mono ?_; rintro e w1 ⟨rfl, rfl⟩) | (go_at_call 61; refine (K3.out _ _ _ (by go_simp) (by go_simp)).mono ?_; rintro e w1 ⟨rfl, rfl⟩))
  go_wp2
  go_ret
  exact ⟨rfl, ((((Below.refl _ _).alloc (Nat.le_refl _) _).alloc (by simp) _).alloc (by simp; omega) _).drew⟩

theorem half_no (a n t : Int) (w : World) (h0 : 0 ≤ a) (h1 : a < 4294967296) (h : rightB a n = false ∨ n = 32) : Calls Try.prog 29 #[.agg #[.int .u32 a, .int .i64 n], .int .i64 t] w fun e w' => e = .returned (.tuple #[.agg #[.int .u32 0, .int .i64 0], .int .i64 1]) ∧ Below w.heap.size w w' := by
  cases hr : rightB a n
  · go_enter Try.func29, Try.ntmps29
    go_wp2_with fail
    refine (check_any _ _ _ h0 h1).mono ?_
    rintro e w1 ⟨rfl, hb⟩
    rw [hr]
    simp only [Bool.false_eq_true, if_false]
    have e0 : w1.cell? ⟨w.heap.size, 0, none⟩ = some (.int .u32 a) := (hb.cell (p := ⟨w.heap.size, 0, none⟩) (by simp; omega)).trans (by go_simp)
    have e1 : w1.cell? ⟨w.heap.size, 1, none⟩ = some (.int .i64 n) := (hb.cell (p := ⟨w.heap.size, 1, none⟩) (by simp; omega)).trans (by go_simp)
    have e2 : w1.cell? ⟨w.heap.size + 1, 0, none⟩ = some (.int .u32 0) := (hb.cell (p := ⟨w.heap.size + 1, 0, none⟩) (by simp)).trans (by go_simp)
    have e3 : w1.cell? ⟨w.heap.size + 1, 1, none⟩ = some (.int .i64 0) := (hb.cell (p := ⟨w.heap.size + 1, 1, none⟩) (by simp)).trans (by go_simp)
    have e4 : w1.frozen? ⟨w.heap.size + 1, 0, none⟩ = false := (hb.frozen (p := ⟨w.heap.size + 1, 0, none⟩) (by simp)).trans (by go_simp)
    have e5 : w1.frozen? ⟨w.heap.size + 1, 1, none⟩ = false := (hb.frozen (p := ⟨w.heap.size + 1, 1, none⟩) (by simp)).trans (by go_simp)
    have hs3 := hb.size
    have hB := Lib.hid (aid.bnext (((Below.refl w.heap.size w).alloc (Nat.le_refl _) _).alloc (by simp) _) hb (by simp; omega))
    simp at hs3
    clear hb
    have hR := Lib.hid hr
    clear hr h
    go_wp2_with fail
    refine bodyPost_ret (v := .tuple #[.agg #[.int .u32 0, .int .i64 0], .int .i64 1]) (by simp [results, Try.results29, go_sem, e2, e3]) rfl ⟨rfl, ?_⟩
    repeat (refine Below.setCell ?_ (by simp) _)
    exact hB.out
  · have e32 : n = 32 := by
      rcases h with h | h
      · rw [hr] at h; cases h
      · exact h
    subst e32
    go_enter Try.func29, Try.ntmps29
    go_wp2_with fail
    refine (check_any _ _ _ h0 h1).mono ?_
    rintro e w1 ⟨rfl, hb⟩
    rw [hr]
    simp only [if_true]
    have e0 : w1.cell? ⟨w.heap.size, 0, none⟩ = some (.int .u32 a) := (hb.cell (p := ⟨w.heap.size, 0, none⟩) (by simp; omega)).trans (by go_simp)
    have e1 : w1.cell? ⟨w.heap.size, 1, none⟩ = some (.int .i64 32) := (hb.cell (p := ⟨w.heap.size, 1, none⟩) (by simp; omega)).trans (by go_simp)
    have e2 : w1.cell? ⟨w.heap.size + 1, 0, none⟩ = some (.int .u32 0) := (hb.cell (p := ⟨w.heap.size + 1, 0, none⟩) (by simp)).trans (by go_simp)
    have e3 : w1.cell? ⟨w.heap.size + 1, 1, none⟩ = some (.int .i64 0) := (hb.cell (p := ⟨w.heap.size + 1, 1, none⟩) (by simp)).trans (by go_simp)
    have e4 : w1.frozen? ⟨w.heap.size + 1, 0, none⟩ = false := (hb.frozen (p := ⟨w.heap.size + 1, 0, none⟩) (by simp)).trans (by go_simp)
    have e5 : w1.frozen? ⟨w.heap.size + 1, 1, none⟩ = false := (hb.frozen (p := ⟨w.heap.size + 1, 1, none⟩) (by simp)).trans (by go_simp)
    have hs3 := hb.size
    have hB := Lib.hid (aid.bnext (((Below.refl w.heap.size w).alloc (Nat.le_refl _) _).alloc (by simp) _) hb (by simp; omega))
    simp at hs3
    clear hb
    have hR := Lib.hid hr
    clear hr h
    go_wp2_with fail
    refine bodyPost_ret (v := .tuple #[.agg #[.int .u32 0, .int .i64 0], .int .i64 1]) (by simp [results, Try.results29, go_sem, e2, e3]) rfl ⟨rfl, ?_⟩
    repeat (refine Below.setCell ?_ (by simp) _)
    exact hB.out

def halfI (a n t : Int) : Int := if t = 0 then a else a + sz (n + 1)

theorem half_yes (a n t : Int) (w : World) (h0 : 0 ≤ a) (h1 : a < 4294967296) (hr : rightB a n = true) (hn : n ≠ 32) : Calls Try.prog 29 #[.agg #[.int .u32 a, .int .i64 n], .int .i64 t] w fun e w' => e = .returned (.tuple #[.agg #[.int .u32 (halfI a n t), .int .i64 (n + 1)], .int .i64 0]) ∧ Below w.heap.size w w' := by
  obtain ⟨hn0, hn1, hz⟩ := rightB_iff.1 hr
  have hn2 : n < 32 := by omega
  have hn32 : (n == 32) = false := by simpa using hn
  have hhb := half_bits a n h0 h1 hn0 hn2 hz
  have hsh := Lib.hid (one_shift n hn0 hn2)
  have hhB := Lib.hid hhb
  have hne := Lib.hid hn
  clear hhb hz hn
  by_cases ht : t = 0
  · subst ht
    go_enter Try.func29, Try.ntmps29
    go_wp2_with fail
    refine (check_any _ _ _ h0 h1).mono ?_
    rintro e w1 ⟨rfl, hb⟩
    rw [hr]
    simp only [if_true]
    have e0 : w1.cell? ⟨w.heap.size, 0, none⟩ = some (.int .u32 a) := (hb.cell (p := ⟨w.heap.size, 0, none⟩) (by simp; omega)).trans (by go_simp)
    have e1 : w1.cell? ⟨w.heap.size, 1, none⟩ = some (.int .i64 n) := (hb.cell (p := ⟨w.heap.size, 1, none⟩) (by simp; omega)).trans (by go_simp)
    have e2 : w1.cell? ⟨w.heap.size + 1, 0, none⟩ = some (.int .u32 0) := (hb.cell (p := ⟨w.heap.size + 1, 0, none⟩) (by simp)).trans (by go_simp)
    have e3 : w1.cell? ⟨w.heap.size + 1, 1, none⟩ = some (.int .i64 0) := (hb.cell (p := ⟨w.heap.size + 1, 1, none⟩) (by simp)).trans (by go_simp)
    have e4 : w1.frozen? ⟨w.heap.size + 1, 0, none⟩ = false := (hb.frozen (p := ⟨w.heap.size + 1, 0, none⟩) (by simp)).trans (by go_simp)
    have e5 : w1.frozen? ⟨w.heap.size + 1, 1, none⟩ = false := (hb.frozen (p := ⟨w.heap.size + 1, 1, none⟩) (by simp)).trans (by go_simp)
    have hs3 := hb.size
    have hB := Lib.hid (aid.bnext (((Below.refl w.heap.size w).alloc (Nat.le_refl _) _).alloc (by simp) _) hb (by simp; omega))
    simp at hs3
    have hz0 : w.heap.size < w1.heap.size := by omega
    have hz1 : w.heap.size + 1 < w1.heap.size := by omega
    clear hb
    have hR := Lib.hid hr
    clear hr
    go_wp2_with fail
    refine bodyPost_ret (v := .tuple #[.agg #[.int .u32 a, .int .i64 (n + 1)], .int .i64 0]) (by simp [results, Try.results29, go_sem, e2, e3, hz1]) rfl ⟨rfl, ?_⟩
    have hBo := hB.out
    go_grown
  · have ht0 : (t == 0) = false := by simpa using ht
    have hT := Lib.hid ht
    clear ht
    go_enter Try.func29, Try.ntmps29
    go_wp2_with fail
    refine (check_any _ _ _ h0 h1).mono ?_
    rintro e w1 ⟨rfl, hb⟩
    rw [hr]
    simp only [if_true]
    have e0 : w1.cell? ⟨w.heap.size, 0, none⟩ = some (.int .u32 a) := (hb.cell (p := ⟨w.heap.size, 0, none⟩) (by simp; omega)).trans (by go_simp)
    have e1 : w1.cell? ⟨w.heap.size, 1, none⟩ = some (.int .i64 n) := (hb.cell (p := ⟨w.heap.size, 1, none⟩) (by simp; omega)).trans (by go_simp)
    have e2 : w1.cell? ⟨w.heap.size + 1, 0, none⟩ = some (.int .u32 0) := (hb.cell (p := ⟨w.heap.size + 1, 0, none⟩) (by simp)).trans (by go_simp)
    have e3 : w1.cell? ⟨w.heap.size + 1, 1, none⟩ = some (.int .i64 0) := (hb.cell (p := ⟨w.heap.size + 1, 1, none⟩) (by simp)).trans (by go_simp)
    have e4 : w1.frozen? ⟨w.heap.size + 1, 0, none⟩ = false := (hb.frozen (p := ⟨w.heap.size + 1, 0, none⟩) (by simp)).trans (by go_simp)
    have e5 : w1.frozen? ⟨w.heap.size + 1, 1, none⟩ = false := (hb.frozen (p := ⟨w.heap.size + 1, 1, none⟩) (by simp)).trans (by go_simp)
    have hs3 := hb.size
    have hB := Lib.hid (aid.bnext (((Below.refl w.heap.size w).alloc (Nat.le_refl _) _).alloc (by simp) _) hb (by simp; omega))
    simp at hs3
    have hz0 : w.heap.size < w1.heap.size := by omega
    have hz1 : w.heap.size + 1 < w1.heap.size := by omega
    clear hb
    have hR := Lib.hid hr
    clear hr
    go_wp2_with fail
    go_region
    rw [hsh.out, hhB.out.1]
    go_wp2_with fail
    refine bodyPost_ret (v := .tuple #[.agg #[.int .u32 (a + sz (n + 1)), .int .i64 (n + 1)], .int .i64 0]) (by simp [results, Try.results29, go_sem, e2, e3, hz1]) rfl ⟨?_, ?_⟩
    · unfold halfI; rw [if_neg hT.out]
    have hBo := hB.out
    go_grown
end Go.Proofs.Ytjpjgehhkjljfaa.ip1
