import Derived.Test.YtbfejmehbbieeaaPsAsk
import Derived.Test.YtbfejmehbbieeaaPsEqual
/- Package pset: Same. -/
set_option linter.unusedVariables false
set_option linter.unusedSimpArgs false
namespace Go.Proofs.Ytbfejmehbbieeaa.pssame
open Go.RowKit Go.Shelf Go.Lib Go.Sort Go.Proofs.Ytbfejmehbbieeaa.math1 Go.Proofs.Ytbfejmehbbieeaa.pscmp Go.Proofs.Ytbfejmehbbieeaa.psfind Go.Proofs.Ytbfejmehbbieeaa.pssort Go.Proofs.Ytbfejmehbbieeaa.psuniq Go.Proofs.Ytbfejmehbbieeaa.pscompact Go.Proofs.Ytbfejmehbbieeaa.psof Go.Proofs.Ytbfejmehbbieeaa.psask

theorem equal_ne (a a2 : Option Addr) (n m c c2 : Nat) (w : World) (h : n ≠ m) : Calls Try.prog 46 #[.slice a n c, .slice a2 m c2] w fun e1 w' => e1 = .returned (.bool false) ∧ Below w.heap.size w w' := by
  have hi : ((n : Int) != (m : Int)) = true := by simp; omega
  clear h
  go_enter Try.func46, Try.ntmps46
  go_wp2_with fail
  go_ret
  exact ⟨rfl, Below.refl _ _⟩
theorem equal_zero (a a2 : Option Addr) (c c2 : Nat) (w : World) : Calls Try.prog 46 #[.slice a 0 c, .slice a2 0 c2] w fun e1 w' => e1 = .returned (.bool true) ∧ Below w.heap.size w w' := by
  go_enter Try.func46, Try.ntmps46
  go_wp2_with fail
  go_loopw [5, 13] (fun iv jv wr => jv = .int .i64 0 ∧ Hid (Below w.heap.size w wr)) (fun _ _ _ => 0)
  case atStart => exact ⟨rfl, Below.refl _ _⟩
  case round =>
    obtain ⟨rfl, B⟩ := hrel
    go_wp2_with fail
    go_ret
    exact ⟨rfl, B.out⟩
theorem IsRow.shape {w : World} {s : Value} {d : Array P2} (h : IsRow w s d) : ∃ a c, s = .slice a d.size c := by
  rcases h with ⟨rfl, rfl⟩ | ⟨b, o, cap, rfl, _⟩ <;> exact ⟨_, _, rfl⟩
theorem equal_any (s1 s2 : Value) (d e : Array P2) (w : World) (h1 : IsRow w s1 d) (h2 : IsRow w s2 e) (hn : d.size ≤ 4294967296) :
    Calls Try.prog 46 #[s1, s2] w fun e1 w' => e1 = .returned (.bool (decide (d = e))) ∧ Below w.heap.size w w' := by
  by_cases hs : d.size = e.size
  · by_cases h0 : d.size = 0
    · have hd : d = #[] := Array.eq_empty_of_size_eq_zero h0
      have he : e = #[] := Array.eq_empty_of_size_eq_zero (by omega)
      obtain ⟨a, c, e1⟩ := IsRow.shape h1
      obtain ⟨a2, c2, e2⟩ := IsRow.shape h2
      rw [e1, e2, h0, ← hs, h0, decide_eq_true (hd.trans he.symm)]
      exact equal_zero a a2 c c2 w
    · rcases h1 with ⟨_, rfl⟩ | ⟨b, o, cap, rfl, r1, _⟩
      · exact absurd rfl h0
      · rcases h2 with ⟨_, rfl⟩ | ⟨b2, o2, cap2, rfl, r2, _⟩
        · exact absurd hs h0
        · exact pseq.equal_rows b o cap b2 o2 cap2 d e w r1 r2 hs (by omega)
  · obtain ⟨a, c, e1⟩ := IsRow.shape h1
    obtain ⟨a2, c2, e2⟩ := IsRow.shape h2
    rw [e1, e2, decide_eq_false (fun h => hs (by rw [h]))]
    exact equal_ne a a2 _ _ c c2 w hs
theorem same_set (s1 s2 : Value) (d e : Array P2) (w : World) (h1 : IsRow w s1 d) (h2 : IsRow w s2 e) (hn : d.size ≤ 4294967296) :
    Calls Try.prog 24 #[.agg #[s1], .agg #[s2]] w fun e1 w' => e1 = .returned (.bool (decide (d = e))) ∧ Below w.heap.size w w' := by
  have K := Lib.hid (fun W (hW : Below w.heap.size w W) => equal_any s1 s2 d e W (h1.below hW) (h2.below hW) hn)
  obtain ⟨a, c, hs1⟩ := IsRow.shape h1
  obtain ⟨a2, c2, hs2⟩ := IsRow.shape h2
  obtain ⟨n, hnn⟩ : ∃ n, n = d.size := ⟨_, rfl⟩
  obtain ⟨m, hmm⟩ : ∃ m, m = e.size := ⟨_, rfl⟩
  rw [← hnn] at hs1
  rw [← hmm] at hs2
  subst hs1 hs2
  obtain ⟨r, hr⟩ : ∃ r, r = decide (d = e) := ⟨_, rfl⟩
  rw [← hr] at K ⊢
  have BA := Lib.hid (((Below.refl w.heap.size w).alloc (Nat.le_refl _) (.cells #[.slice a n c] 29)).alloc (by simp) (.cells #[.slice a2 m c2] 29))
  clear h1 h2 hn hr hnn hmm
  go_enter Try.func24, Try.ntmps24
  go_wp2_with fail
  refine (K.out _ BA.out).mono ?_
  rintro e1 w1 ⟨rfl, hb⟩
  have B := Lib.hid (aid.kb hb BA.out)
  clear hb
  go_wp2_with fail
  go_ret
  exact ⟨rfl, B.out⟩
theorem at_any (k : Int) (h0 : 0 ≤ k) (h1 : k < 256) (w : World) : Calls Try.prog 30 #[.int .i64 k] w fun e w' => e = .returned (.agg #[.int .u32 (k * 16777216), .int .i64 8]) ∧ Below w.heap.size w w' := by
  go_enter Try.func30, Try.ntmps30
  go_wp2_with fail
  exact bodyPost_ret (v := .agg #[.int .u32 (k * 16777216), .int .i64 8]) (by simp [results, Try.results30, go_sem]) rfl ⟨rfl, (Below.refl _ _).alloc (Nat.le_refl _) _⟩
end Go.Proofs.Ytbfejmehbbieeaa.pssame
