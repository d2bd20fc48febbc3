import Derived.Test.YtpnbbaocdbopiaaPsSame
import Derived.Test.YtpnbbaocdbopiaaTail
/- Package pset: two sets gone through at once: the mathematics; which of two heads is the lesser. -/
set_option linter.unusedVariables false
set_option linter.unusedSimpArgs false
namespace Go.Proofs.Ytpnbbaocdbopiaa.psmerge
open Go.RowKit Go.Shelf Go.Lib Go.Sort Go.Proofs.Ytpnbbaocdbopiaa.math1 Go.Proofs.Ytpnbbaocdbopiaa.pscmp Go.Proofs.Ytpnbbaocdbopiaa.psfind Go.Proofs.Ytpnbbaocdbopiaa.pssort Go.Proofs.Ytpnbbaocdbopiaa.psuniq Go.Proofs.Ytpnbbaocdbopiaa.pscompact Go.Proofs.Ytpnbbaocdbopiaa.psof Go.Proofs.Ytpnbbaocdbopiaa.psask

def inD (d : Array P2) (x : P2) : Bool := decide (x ∈ d.toList)
/-- among the first i -/
def Fst (d : Array P2) (i : Nat) (x : P2) : Prop := ∃ a, a < i ∧ d[a]! = x
/-- i of the one and j of the other are behind, R is kept of them -/
structure Mg (keep : Bool → Bool → Bool) (d e : Array P2) (i j : Nat) (R : Array P2) : Prop where
  strict : Strict R
  mem : ∀ x, x ∈ R.toList ↔ (Fst d i x ∨ Fst e j x) ∧ keep (inD d x) (inD e x) = true
  low : ∀ x, Fst d i x ∨ Fst e j x → (i < d.size → cf x d[i]! < 0) ∧ (j < e.size → cf x e[j]! < 0)
  size : R.size ≤ i + j
theorem fst_succ {d : Array P2} {i : Nat} {x : P2} : Fst d (i + 1) x ↔ Fst d i x ∨ d[i]! = x := by
  constructor
  · rintro ⟨a, h1, h2⟩
    by_cases e : a = i
    · right; rw [← e]; exact h2
    · exact .inl ⟨a, by omega, h2⟩
  · rintro (⟨a, h1, h2⟩ | h)
    · exact ⟨a, by omega, h2⟩
    · exact ⟨i, by omega, h⟩
theorem cf_tr {x y z : P2} (h1 : cf x y < 0) (h2 : cf y z < 0) : cf x z < 0 := by rw [cf_neg] at *; omega
theorem cf_irr (x : P2) : ¬ cf x x < 0 := by rw [cf_neg]; omega
theorem strict_push {R : Array P2} {p : P2} (h : Strict R) (hp : ∀ x, x ∈ R.toList → cf x p < 0) : Strict (R.push p) := by
  apply strict_of_pairwise
  rw [Array.toList_push, List.pairwise_append]
  exact ⟨pairwise_of_strict h, by simp, fun a ha b hb => by
    obtain rfl : b = p := by simpa using hb
    exact hp a ha⟩
def b2n (b : Bool) : Nat := if b then 1 else 0
theorem mg_step {keep : Bool → Bool → Bool} {d e : Array P2} {i j : Nat} {R : Array P2} (h : Mg keep d e i j R) (sd : Strict d) (se : Strict e) {p : P2} {s t : Bool} (hst : s = true ∨ t = true)
    (hs : s = true → i < d.size ∧ p = d[i]!) (ht : t = true → j < e.size ∧ p = e[j]!) (hs0 : s = false → i < d.size → cf p d[i]! < 0) (ht0 : t = false → j < e.size → cf p e[j]! < 0) :
    Mg keep d e (i + b2n s) (j + b2n t) (if keep s t = true then R.push p else R) := by
  have hlow : ∀ x, Fst d i x ∨ Fst e j x → cf x p < 0 := by
    intro x hx
    obtain ⟨l1, l2⟩ := h.low x hx
    rcases hst with e1 | e1
    · obtain ⟨a, b⟩ := hs e1; rw [b]; exact l1 a
    · obtain ⟨a, b⟩ := ht e1; rw [b]; exact l2 a
  have hpd : inD d p = s := by
    cases s
    · apply decide_eq_false
      intro hm
      obtain ⟨a, ha, e1⟩ := mem_get.1 hm
      rcases Nat.lt_or_ge a i with h1 | h1
      · exact cf_irr p (by have := hlow p (.inl ⟨a, h1, e1⟩); exact this)
      · have h2 := hs0 rfl (by omega)
        by_cases e2 : a = i
        · rw [← e2, e1] at h2; exact cf_irr p h2
        · have := sd i a (by omega) ha
          rw [e1] at this
          exact cf_irr p (cf_tr h2 this)
    · obtain ⟨a, b⟩ := hs rfl
      exact decide_eq_true (mem_get.2 ⟨i, a, b.symm⟩)
  have hpe : inD e p = t := by
    cases t
    · apply decide_eq_false
      intro hm
      obtain ⟨a, ha, e1⟩ := mem_get.1 hm
      rcases Nat.lt_or_ge a j with h1 | h1
      · exact cf_irr p (by have := hlow p (.inr ⟨a, h1, e1⟩); exact this)
      · have h2 := ht0 rfl (by omega)
        by_cases e2 : a = j
        · rw [← e2, e1] at h2; exact cf_irr p h2
        · have := se j a (by omega) ha
          rw [e1] at this
          exact cf_irr p (cf_tr h2 this)
    · obtain ⟨a, b⟩ := ht rfl
      exact decide_eq_true (mem_get.2 ⟨j, a, b.symm⟩)
  have hfd : ∀ x, Fst d (i + b2n s) x ↔ Fst d i x ∨ (s = true ∧ p = x) := by
    intro x
    cases s
    · simp [b2n]
    · rw [show i + b2n true = i + 1 from rfl, fst_succ, (hs rfl).2]; simp
  have hfe : ∀ x, Fst e (j + b2n t) x ↔ Fst e j x ∨ (t = true ∧ p = x) := by
    intro x
    cases t
    · simp [b2n]
    · rw [show j + b2n true = j + 1 from rfl, fst_succ, (ht rfl).2]; simp
  have hall : ∀ x, (Fst d (i + b2n s) x ∨ Fst e (j + b2n t) x) ↔ (Fst d i x ∨ Fst e j x) ∨ p = x := by
    intro x
    rw [hfd, hfe]
    constructor
    · rintro ((h | ⟨_, h⟩) | (h | ⟨_, h⟩))
      · exact .inl (.inl h)
      · exact .inr h
      · exact .inl (.inr h)
      · exact .inr h
    · rintro ((h | h) | h)
      · exact .inl (.inl h)
      · exact .inr (.inl h)
      · rcases hst with e1 | e1
        · exact .inl (.inr ⟨e1, h⟩)
        · exact .inr (.inr ⟨e1, h⟩)
  have hin : ∀ x, x ∈ R.toList → cf x p < 0 := fun x hx => hlow x ((h.mem x).1 hx).1
  refine ⟨?_, fun x => ?_, fun x hx => ?_, ?_⟩
  · split
    · exact strict_push h.strict hin
    · exact h.strict
  · rw [hall]
    by_cases hk : keep s t = true
    · rw [if_pos hk, Array.toList_push, List.mem_append, h.mem]
      constructor
      · rintro (⟨h1, h2⟩ | h1)
        · exact ⟨.inl h1, h2⟩
        · obtain rfl : x = p := by simpa using h1
          exact ⟨.inr rfl, by rw [hpd, hpe]; exact hk⟩
      · rintro ⟨h1 | h1, h2⟩
        · exact .inl ⟨h1, h2⟩
        · right; rw [h1]; simp
    · rw [if_neg hk, h.mem]
      constructor
      · rintro ⟨h1, h2⟩; exact ⟨.inl h1, h2⟩
      · rintro ⟨h1 | h1, h2⟩
        · exact ⟨h1, h2⟩
        · rw [← h1, hpd, hpe] at h2; exact absurd h2 hk
  · rw [hall] at hx
    have hxp : cf x p < 0 ∨ p = x := by
      rcases hx with hx | hx
      · exact .inl (hlow x hx)
      · exact .inr hx
    constructor
    · intro hi
      have : cf p d[i + b2n s]! < 0 := by
        cases s
        · exact hs0 rfl hi
        · rw [(hs rfl).2]; exact sd i (i + 1) (by omega) hi
      rcases hxp with h1 | h1
      · exact cf_tr h1 this
      · rw [← h1]; exact this
    · intro hj
      have : cf p e[j + b2n t]! < 0 := by
        cases t
        · exact ht0 rfl hj
        · rw [(ht rfl).2]; exact se j (j + 1) (by omega) hj
      rcases hxp with h1 | h1
      · exact cf_tr h1 this
      · rw [← h1]; exact this
  · have := h.size
    have hbs : 1 ≤ b2n s + b2n t := by
      rcases hst with e1 | e1 <;> rw [e1] <;> simp [b2n] <;> split <;> omega
    split
    · rw [Array.size_push]; omega
    · omega
theorem mg_zero (keep : Bool → Bool → Bool) (d e : Array P2) : Mg keep d e 0 0 #[] :=
  ⟨fun i j h1 h2 => absurd h2 (Nat.not_lt_zero j), fun x => by simp [Fst], fun x hx => by simp [Fst] at hx, Nat.le_refl _⟩

theorem heads_left (a : Option Addr) (c : Nat) (r : Value) (w : World) : Calls Try.prog 56 #[.slice a 0 c, r] w fun e1 w' => e1 = .returned (.int .i64 1) ∧ Below w.heap.size w w' := by
  go_enter Try.func56, Try.ntmps56
  go_wp2_with fail
  go_ret
  exact ⟨rfl, Below.refl _ _⟩
theorem heads_right (a a2 : Option Addr) (n c c2 : Nat) (hn : 0 < n) (w : World) : Calls Try.prog 56 #[.slice a n c, .slice a2 0 c2] w fun e1 w' => e1 = .returned (.int .i64 (-1)) ∧ Below w.heap.size w w' := by
  have h : ((n : Int) == 0) = false := by simp; omega
  go_enter Try.func56, Try.ntmps56
  go_wp2_with fail
  go_ret
  exact ⟨rfl, Below.refl _ _⟩
set_option maxRecDepth 100000 in
theorem heads_both (b o n c b2 o2 m c2 : Nat) (x1 x2 y1 y2 : Int) (hn : 0 < n) (hm : 0 < m) (w : World) (k0 : w.cell? ⟨b, o, none⟩ = some (.int .u32 x1)) (k1 : w.cell? ⟨b, o + 1, none⟩ = some (.int .i64 x2)) (k2 : w.cell? ⟨b2, o2, none⟩ = some (.int .u32 y1)) (k3 : w.cell? ⟨b2, o2 + 1, none⟩ = some (.int .i64 y2)) :
    Calls Try.prog 56 #[.slice (some ⟨b, o, none⟩) n c, .slice (some ⟨b2, o2, none⟩) m c2] w fun e1 w' => e1 = .returned (.int .i64 (cf (x1, x2) (y1, y2))) ∧ Below w.heap.size w w' := by
  have h : ((n : Int) == 0) = false := by simp; omega
  have h2 : ((m : Int) == 0) = false := by simp; omega
  have hn' : (0 : Int) < (n : Int) := by omega
  have hm' : (0 : Int) < (m : Int) := by omega
  have q0 := fun s : aid.Keep w => aid.keep_cell k0 s
  have q1 := fun s : aid.Keep w => aid.keep_cell k1 s
  have q2 := fun s : aid.Keep w => aid.keep_cell k2 s
  have q3 := fun s : aid.Keep w => aid.keep_cell k3 s
  have KC := cmp_below (x1, x2) (y1, y2)
  dsimp only at KC
  have K := Lib.hid KC
  clear k0 k1 k2 k3 KC
  go_enter Try.func56, Try.ntmps56
  go_wp2_with fail
  refine aid.wp_region_keep (by kernel_rfl) (by kernel_rfl) ?_
  repeat (go_big_quiet_step ((go_at_call 26; (with_reducible exact aid.keep_call (K.out _)))))
  refine wpQuiet_nil ?_
  rintro _ ⟨s, rfl⟩
  go_wp2_with fail
  go_ret
  exact ⟨rfl, s.below⟩
end Go.Proofs.Ytpnbbaocdbopiaa.psmerge
