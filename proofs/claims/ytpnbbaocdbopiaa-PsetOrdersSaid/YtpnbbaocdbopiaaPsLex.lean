import Derived.Test.YtpnbbaocdbopiaaPsCompare
import Derived.Test.YtpnbbaocdbopiaaPsAsk
import Derived.Test.YtpnbbaocdbopiaaPsSame
/- The order of sets (mathematics), and Cmp at any sets. -/
set_option linter.unusedVariables false
set_option linter.unusedSimpArgs false
namespace Go.Proofs.Ytpnbbaocdbopiaa.pslex
open Go.RowKit Go.Shelf Go.Lib Go.Sort Go.Proofs.Ytpnbbaocdbopiaa.math1 Go.Proofs.Ytpnbbaocdbopiaa.pscmp Go.Proofs.Ytpnbbaocdbopiaa.psfind Go.Proofs.Ytpnbbaocdbopiaa.pssort Go.Proofs.Ytpnbbaocdbopiaa.psuniq Go.Proofs.Ytpnbbaocdbopiaa.pscompact Go.Proofs.Ytpnbbaocdbopiaa.psof Go.Proofs.Ytpnbbaocdbopiaa.psask Go.Proofs.Ytpnbbaocdbopiaa.pscompare

theorem cf_anti (x y : P2) : cf y x = -cf x y := by
  unfold cf cmpP or2 cmp3
  repeat' split
  all_goals omega
theorem cf_val (x y : P2) : cf x y = -1 ∨ cf x y = 0 ∨ cf x y = 1 := by
  unfold cf cmpP or2 cmp3
  repeat' split
  all_goals omega
theorem cf_lt_trans {x y z : P2} (h1 : cf x y < 0) (h2 : cf y z < 0) : cf x z < 0 := by rw [cf_neg] at *; omega
theorem cf_self (x : P2) : cf x x = 0 := (cf_zero x x).2 rfl

/-- c is how d lies to e: by the first place where they are unlike, or by their lengths -/
def Lex (d e : Array P2) (c : Int) : Prop :=
  (∃ i, i < d.size ∧ i < e.size ∧ (∀ j, j < i → d[j]! = e[j]!) ∧ d[i]! ≠ e[i]! ∧ c = cf d[i]! e[i]!) ∨
  ((∀ j, j < d.size → j < e.size → d[j]! = e[j]!) ∧ ((d.size < e.size ∧ c = -1) ∨ (e.size < d.size ∧ c = 1) ∨ (d.size = e.size ∧ c = 0)))

theorem lex_rows (d e : Array P2) : ∀ f k, d.size + 1 ≤ f + k → k ≤ d.size → k ≤ e.size → (∀ j, j < k → d[j]! = e[j]!) → Lex d e (cmpRows d e f k)
  | 0, k, h1, h2, _, _ => by omega
  | f + 1, k, h1, h2, h3, h4 => by
    unfold cmpRows
    by_cases a : k < d.size
    · rw [if_pos a]
      by_cases b : e.size ≤ k
      · rw [if_pos b]
        exact .inr ⟨fun j _ hj => h4 j (by omega), .inr (.inl ⟨by omega, rfl⟩)⟩
      · rw [if_neg b]
        by_cases c : cf d[k]! e[k]! = 0
        · rw [if_pos c]
          refine lex_rows d e f (k + 1) (by omega) (by omega) (by omega) (fun j hj => ?_)
          by_cases hjk : j = k
          · rw [hjk]; exact (cf_zero _ _).1 c
          · exact h4 j (by omega)
        · rw [if_neg c]
          exact .inl ⟨k, a, by omega, h4, fun h => c ((cf_zero _ _).2 h), rfl⟩
    · rw [if_neg a]
      have hk : k = d.size := by omega
      by_cases b : d.size < e.size
      · rw [if_pos b]; exact .inr ⟨fun j hj _ => h4 j (by omega), .inl ⟨b, rfl⟩⟩
      · rw [if_neg b]; exact .inr ⟨fun j hj _ => h4 j (by omega), .inr (.inr ⟨by omega, rfl⟩)⟩
theorem lex_cmp (d e : Array P2) : Lex d e (cmpR d e) := lex_rows d e _ 0 (by omega) (by omega) (by omega) (fun j hj => by omega)
theorem lex_one {d e : Array P2} {c c' : Int} (h : Lex d e c) (h' : Lex d e c') : c = c' := by
  rcases h with ⟨i, a1, a2, a3, a4, a5⟩ | ⟨a1, a2⟩
  · rcases h' with ⟨i', b1, b2, b3, b4, b5⟩ | ⟨b1, b2⟩
    · rcases Nat.lt_trichotomy i i' with l | rfl | l
      · exact absurd (b3 i l) a4
      · rw [a5, b5]
      · exact absurd (a3 i' l) b4
    · exact absurd (b1 i a1 a2) a4
  · rcases h' with ⟨i', b1, b2, b3, b4, b5⟩ | ⟨b1, b2⟩
    · exact absurd (a1 i' b1 b2) b4
    · omega
theorem lex_back {d e : Array P2} {c : Int} (h : Lex d e c) : Lex e d (-c) := by
  rcases h with ⟨i, a1, a2, a3, a4, a5⟩ | ⟨a1, a2⟩
  · exact .inl ⟨i, a2, a1, fun j hj => (a3 j hj).symm, fun h => a4 h.symm, by rw [cf_anti d[i]! e[i]!, a5]⟩
  · exact .inr ⟨fun j h1 h2 => (a1 j h2 h1).symm, by omega⟩
theorem cmp_back (d e : Array P2) : cmpR e d = -cmpR d e := lex_one (lex_cmp e d) (lex_back (lex_cmp d e))
theorem cmp_val (d e : Array P2) : cmpR d e = -1 ∨ cmpR d e = 0 ∨ cmpR d e = 1 := by
  rcases lex_cmp d e with ⟨i, _, _, _, _, a5⟩ | ⟨_, a2⟩
  · rw [a5]; exact cf_val _ _
  · omega
theorem cmp_zero (d e : Array P2) : cmpR d e = 0 ↔ d = e := by
  constructor
  · intro h
    rcases lex_cmp d e with ⟨i, _, _, _, a4, a5⟩ | ⟨a1, a2⟩
    · exact absurd ((cf_zero _ _).1 (a5.symm.trans h)) a4
    · have hs : d.size = e.size := by omega
      refine Array.ext hs (fun i h1 h2 => ?_)
      have := a1 i h1 h2
      rwa [getElem!_pos d i h1, getElem!_pos e i h2] at this
  · rintro rfl
    rcases lex_cmp d d with ⟨i, _, _, _, a4, _⟩ | ⟨_, a2⟩
    · exact absurd rfl a4
    · omega
theorem lex_first {d e : Array P2} {i : Nat} (h1 : i < d.size) (h2 : i < e.size) (h3 : ∀ j, j < i → d[j]! = e[j]!) (h4 : d[i]! ≠ e[i]!) : cmpR d e = cf d[i]! e[i]! :=
  lex_one (lex_cmp d e) (.inl ⟨i, h1, h2, h3, h4, rfl⟩)
theorem lex_none {d e : Array P2} (h : ∀ j, j < d.size → j < e.size → d[j]! = e[j]!) : decide (cmpR d e < 0) = decide (d.size < e.size) := by
  apply decide_eq_decide.2
  rcases lex_cmp d e with ⟨i, a1, a2, _, a4, _⟩ | ⟨_, a2⟩
  · exact absurd (h i a1 a2) a4
  · omega
theorem cmp_trans {d e u : Array P2} (h1 : cmpR d e < 0) (h2 : cmpR e u < 0) : cmpR d u < 0 := by
  rcases lex_cmp d e with ⟨i, a1, a2, a3, a4, a5⟩ | ⟨a1, a2⟩
  · rcases lex_cmp e u with ⟨i', b1, b2, b3, b4, b5⟩ | ⟨b1, b2⟩
    · rcases Nat.lt_trichotomy i i' with l | rfl | l
      · rw [lex_first (i := i) a1 (by omega) (fun j hj => (a3 j hj).trans (b3 j (by omega))) (by rw [← b3 i l]; exact a4), ← b3 i l, ← a5]; exact h1
      · have t : cf d[i]! u[i]! < 0 := cf_lt_trans (by rw [← a5]; exact h1) (by rw [← b5]; exact h2)
        rw [lex_first (i := i) a1 b2 (fun j hj => (a3 j hj).trans (b3 j hj)) (fun h => by rw [h, cf_self] at t; omega)]; exact t
      · rw [lex_first (i := i') (by omega) b2 (fun j hj => (a3 j (by omega)).trans (b3 j hj)) (by rw [a3 i' l]; exact b4), a3 i' l, ← b5]; exact h2
    · have l : e.size < u.size := by omega
      rw [lex_first (i := i) a1 (by omega) (fun j hj => (a3 j hj).trans (b1 j (by omega) (by omega))) (by rw [← b1 i a2 (by omega)]; exact a4), ← b1 i a2 (by omega), ← a5]; exact h1
  · have l : d.size < e.size := by omega
    rcases lex_cmp e u with ⟨i', b1, b2, b3, b4, b5⟩ | ⟨b1, b2⟩
    · by_cases hi : i' < d.size
      · rw [lex_first (i := i') hi b2 (fun j hj => (a1 j (by omega) (by omega)).trans (b3 j hj)) (by rw [a1 i' hi b1]; exact b4), a1 i' hi b1, ← b5]; exact h2
      · rw [lex_one (lex_cmp d u) (.inr ⟨fun j h1 h2 => (a1 j h1 (by omega)).trans (b3 j (by omega)), .inl ⟨by omega, rfl⟩⟩)]; omega
    · rw [lex_one (lex_cmp d u) (.inr ⟨fun j h1 h2 => (a1 j h1 (by omega)).trans (b1 j (by omega) (by omega)), .inl ⟨by omega, rfl⟩⟩)]; omega

set_option maxRecDepth 100000 in
theorem compare_nil_l (a2 : Option Addr) (m c2 : Nat) (r : Int) (w : World) (hr : r = if 0 < m then -1 else 0) : Calls Try.prog 47 #[.slice none 0 0, .slice a2 m c2, .func (.func 26) #[] #[]] w fun e1 w' => e1 = .returned (.int .i64 r) ∧ Below w.heap.size w w' := by
  have HRR := Lib.hid hr
  clear hr
  go_enter Try.func47, Try.ntmps47
  go_wp2_with fail
  go_loopw [7, 8, 9, 10, 13] (fun _ _ _ _ jv wr => jv = .int .i64 0 ∧ Hid (Below w.heap.size w wr)) (fun _ _ _ _ j _ => 0)
  case atStart => exact ⟨rfl, Below.refl _ _⟩
  case round =>
    obtain ⟨rfl, B⟩ := hrel
    by_cases hs : 0 < m
    · have hs' : (0 : Int) < (m : Int) := by omega
      have hrr : r = -1 := by rw [HRR.out, if_pos hs]
      subst hrr
      go_wp2_with fail
      go_ret
      exact ⟨rfl, B.out⟩
    · have hs' : ¬ (0 : Int) < (m : Int) := by omega
      have hrr : r = 0 := by rw [HRR.out, if_neg hs]
      subst hrr
      go_wp2_with fail
      go_ret
      exact ⟨rfl, B.out⟩

set_option maxRecDepth 100000 in
theorem compare_nil_r (b o cap : Nat) (d : Array P2) (w : World) (hR : Row w b o d) (hm : d.size < 4611686018427387904) : Calls Try.prog 47 #[.slice (some ⟨b, o, none⟩) d.size cap, .slice none 0 0, .func (.func 26) #[] #[]] w fun e1 w' => e1 = .returned (.int .i64 (if 0 < d.size then 1 else 0)) ∧ Below w.heap.size w w' := by
  obtain ⟨n, hn⟩ : ∃ n, n = d.size := ⟨_, rfl⟩
  have k01 : 0 < n → w.cell? ⟨b, o, none⟩ = some (.int .u32 d[0]!.1) ∧ w.cell? ⟨b, o + 1, none⟩ = some (.int .i64 d[0]!.2) := fun h => by
    have := hR 0 (by rw [← hn]; exact h)
    simpa using this
  rw [← hn] at hm ⊢
  clear hR hn
  by_cases hs : 0 < n
  · obtain ⟨k0, k1⟩ := k01 hs
    rw [if_pos hs]
    have hs' : (0 : Int) < (n : Int) := by omega
    obtain ⟨⟨x1, x2⟩, hx⟩ : ∃ x, x = d[0]! := ⟨_, rfl⟩
    rw [← hx] at k0 k1
    dsimp only at k0 k1
    clear hx k01
    go_enter Try.func47, Try.ntmps47
    go_wp2_with fail
    go_loopw [7, 8, 9, 10, 13] (fun _ _ _ _ jv wr => jv = .int .i64 0 ∧ wr = w) (fun _ _ _ _ j _ => 0)
    case atStart => exact ⟨rfl, rfl⟩
    case round =>
      obtain ⟨rfl, rfl⟩ := hrel
      go_wp2_with fail
      go_ret
      exact ⟨rfl, (Below.refl _ _).alloc (Nat.le_refl _) _⟩
  · rw [if_neg hs]
    have h0 : n = 0 := by omega
    subst h0
    clear k01
    go_enter Try.func47, Try.ntmps47
    go_wp2_with fail
    go_loopw [7, 8, 9, 10, 13] (fun _ _ _ _ jv wr => jv = .int .i64 0 ∧ wr = w) (fun _ _ _ _ j _ => 0)
    case atStart => exact ⟨rfl, rfl⟩
    case round =>
      obtain ⟨rfl, rfl⟩ := hrel
      go_wp2_with fail
      go_ret
      exact ⟨rfl, Below.refl _ _⟩

theorem compare_any (s1 s2 : Value) (d e : Array P2) (w : World) (h1 : IsRow w s1 d) (h2 : IsRow w s2 e) (hn : d.size ≤ 4294967296) (hm : e.size ≤ 4294967296) :
    Calls Try.prog 47 #[s1, s2, .func (.func 26) #[] #[]] w fun e1 w' => e1 = .returned (.int .i64 (cmpR d e)) ∧ Below w.heap.size w w' := by
  rcases h1 with ⟨rfl, rfl⟩ | ⟨b, o, cap, rfl, r1, _⟩
  · obtain ⟨a2, c2, e2⟩ := pssame.IsRow.shape h2
    rw [e2]
    refine compare_nil_l a2 e.size c2 _ w ?_
    unfold cmpR cmpRows
    rw [if_neg (by simp)]
    simp
  · rcases h2 with ⟨rfl, rfl⟩ | ⟨b2, o2, cap2, rfl, r2, _⟩
    · have h : cmpR d #[] = if 0 < d.size then 1 else 0 := by
        unfold cmpR cmpRows
        by_cases h : 0 < d.size
        · rw [if_pos h, if_pos h, if_pos (by simp)]
        · rw [if_neg h, if_neg h, if_neg (by simp)]
      rw [h]
      exact compare_nil_r b o cap d w r1 (by omega)
    · exact compare_rows b o cap b2 o2 cap2 d e w r1 r2 (by omega) (by omega)

/-- Cmp -/
theorem cmp_set (s1 s2 : Value) (d e : Array P2) (w : World) (h1 : IsRow w s1 d) (h2 : IsRow w s2 e) (hn : d.size ≤ 4294967296) (hm : e.size ≤ 4294967296) :
    Calls Try.prog 25 #[.agg #[s1], .agg #[s2]] w fun e1 w' => e1 = .returned (.int .i64 (cmpR d e)) ∧ Below w.heap.size w w' := by
  have K := Lib.hid (fun W (hW : Below w.heap.size w W) => compare_any s1 s2 d e W (h1.below hW) (h2.below hW) hn hm)
  obtain ⟨a, c, hs1⟩ := pssame.IsRow.shape h1
  obtain ⟨a2, c2, hs2⟩ := pssame.IsRow.shape h2
  obtain ⟨n, hnn⟩ : ∃ n, n = d.size := ⟨_, rfl⟩
  obtain ⟨m, hmm⟩ : ∃ m, m = e.size := ⟨_, rfl⟩
  rw [← hnn] at hs1
  rw [← hmm] at hs2
  subst hs1 hs2
  obtain ⟨r, hr⟩ : ∃ r, r = cmpR d e := ⟨_, rfl⟩
  rw [← hr] at K ⊢
  have BA := Lib.hid (((Below.refl w.heap.size w).alloc (Nat.le_refl _) (.cells #[.slice a n c] 29)).alloc (by simp) (.cells #[.slice a2 m c2] 29))
  clear h1 h2 hn hm hr hnn hmm
  go_enter Try.func25, Try.ntmps25
  go_wp2_with fail
  refine (K.out _ BA.out).mono ?_
  rintro e1 w1 ⟨rfl, hb⟩
  have B := Lib.hid (aid.kb hb BA.out)
  clear hb
  go_wp2_with fail
  go_ret
  exact ⟨rfl, B.out⟩
end Go.Proofs.Ytpnbbaocdbopiaa.pslex
