import Derived.Test.YtfealajbibofiaaTrWalk2
import Derived.Test.YtfealajbibofiaaMath4
/- What the walk meets: which prefixes, how many below one, the longest that has an address (mathematics). -/
set_option linter.unusedVariables false
set_option linter.unusedSimpArgs false
namespace Go.Proofs.Ytfealajbibofiaa.trent
open Go.RowKit Go.Lib Go.Proofs.Ytfealajbibofiaa.math1 Go.Proofs.Ytfealajbibofiaa.trmath Go.Proofs.Ytfealajbibofiaa.trmem Go.Proofs.Ytfealajbibofiaa.trdrop Go.Proofs.Ytfealajbibofiaa.trlong Go.Proofs.Ytfealajbibofiaa.trhead Go.Proofs.Ytfealajbibofiaa.trwalk

theorem sz_nat_eq {n : Nat} (h : n < 32) : sz ((n : Int) + 1) = 2 ^ (31 - n) := by
  have := sz_nat (n := n + 1) (by omega)
  rw [show ((n + 1 : Nat) : Int) = (n : Int) + 1 from rfl] at this
  rw [this, show 32 - (n + 1) = 31 - n by omega]
  simp
/-- the bit behind a prefix's length: nought in the lower half, one in the upper -/
theorem turn_lo {x : Int} {n : Nat} (hn : n < 32) (hr : rightB x n = true) : turn x n = false := by
  have hz := (rightB_iff.1 hr).2.2
  have hh := sz_half (n := (n : Int)) (by omega) (by omega)
  have hp := sz_pos ((n : Int) + 1)
  rw [turn, if_pos hn, bitI, ← sz_nat_eq hn]
  rw [hh] at hz
  obtain ⟨q, hq⟩ := Int.dvd_of_emod_eq_zero hz
  have : x / sz ((n : Int) + 1) = 2 * q := by
    rw [hq, show 2 * sz ((n : Int) + 1) * q = (2 * q) * sz ((n : Int) + 1) by rw [Int.mul_comm 2, Int.mul_assoc, Int.mul_comm]]
    exact Int.mul_ediv_cancel _ (by omega)
  rw [this]
  simp
theorem turn_hi {x : Int} {n : Nat} (hn : n < 32) (hr : rightB x n = true) : turn (x + sz ((n : Int) + 1)) n = true := by
  have hz := (rightB_iff.1 hr).2.2
  have hh := sz_half (n := (n : Int)) (by omega) (by omega)
  have hp := sz_pos ((n : Int) + 1)
  rw [turn, if_pos hn, bitI, ← sz_nat_eq hn]
  rw [hh] at hz
  obtain ⟨q, hq⟩ := Int.dvd_of_emod_eq_zero hz
  have : (x + sz ((n : Int) + 1)) / sz ((n : Int) + 1) = 2 * q + 1 := by
    rw [hq, show 2 * sz ((n : Int) + 1) * q + sz ((n : Int) + 1) = (2 * q + 1) * sz ((n : Int) + 1) by
      rw [Int.add_mul, Int.one_mul, Int.mul_comm 2, Int.mul_assoc, Int.mul_comm]]
    exact Int.mul_ediv_cancel _ (by omega)
  rw [this]
  simp
theorem path_has {x y : Int} {n : Nat} (hn : n ≤ 32) (h : ∀ j : Nat, j < n → bitI x j = bitI y j) : path x n = path y n := by
  induction n with
  | zero => rfl
  | succ n ih =>
    rw [path, path, ih (by omega) (fun j hj => h j (by omega)), turn, turn, h n (Nat.lt_succ_self n)]
theorem has_path {x y : Int} {n : Nat} (hn : n ≤ 32) (h : path x n = path y n) : ∀ j : Nat, j < n → bitI x j = bitI y j := fun j hj => by
  have := (path_eq h).2 j hj
  rw [turn, turn, if_pos (by omega), if_pos (by omega)] at this
  rcases bitI_01 x j with a | a <;> rcases bitI_01 y j with b | b <;> rw [a, b] at this ⊢ <;> simp at this
theorem has_iff_path {x y : Int} {n : Nat} (hn : n ≤ 32) (h0 : 0 ≤ x) (h1 : x < 4294967296) (h2 : 0 ≤ y) (h3 : y < 4294967296) (hr : rightB x n = true) : hasB x n y = true ↔ path x n = path y n := by
  rw [has_bits h0 h1 h2 h3 hr]
  exact ⟨fun h => path_has hn h, fun h => has_path hn h⟩

/-- the upper half's path -/
theorem path_hi {x : Int} {n : Nat} (hn : n < 32) (h0 : 0 ≤ x) (h1 : x < 4294967296) (hr : rightB x n = true) : path (x + sz ((n : Int) + 1)) (n + 1) = path x n ++ [true] ∧ path x (n + 1) = path x n ++ [false] ∧ 0 ≤ x + sz ((n : Int) + 1) ∧ x + sz ((n : Int) + 1) < 4294967296 := by
  obtain ⟨r1, r2, hs, hp⟩ := right_mono hr (by omega)
  have hb := (half_bits x n h0 h1 (by omega) (by omega) (rightB_iff.1 hr).2.2).2
  have hh : hasB x n (x + sz ((n : Int) + 1)) = true := (has_range hr).2 ⟨by omega, by omega⟩
  refine ⟨?_, ?_, by omega, hb⟩
  · rw [path, turn_hi hn hr, ← (has_iff_path (by omega) h0 h1 (by omega) hb hr).1 hh]
  · rw [path, turn_lo hn hr]

/-- what the walk meets lies below, is in its form, and stands there -/
theorem ent_spec : ∀ (U : Tr) (x : Int) (n : Nat), rightB x n = true → 0 ≤ x → x < 4294967296 → n + U.height ≤ 33 → ∀ e, e ∈ entries U x n →
    ∃ (y : Int) (k : Nat), e.1 = (y, (k : Int)) ∧ rightB y k = true ∧ (0 ≤ y ∧ y < 4294967296) ∧ n ≤ k ∧ k ≤ 32 ∧ (x ≤ y ∧ y < x + sz n) ∧ ∃ σ, path y k = path x n ++ σ ∧ U.get σ = some e.2
  | .nil, x, n, _, _, _, _, e, he => by cases he
  | .node b l r v h, x, n, hr, h0, h1, hht, e, he => by
    have hl : n + 1 + l.height ≤ 33 ∧ n + 1 + r.height ≤ 33 := by simp only [Tr.height] at hht; omega
    have hn32 : n ≤ 32 := by omega
    have hp0 := sz_pos (n : Int)
    rw [entries, List.mem_append, List.mem_append] at he
    rcases he with he | he | he
    · cases h
      · cases he
      · simp only [if_true, List.mem_singleton] at he
        subst he
        exact ⟨x, n, rfl, hr, ⟨h0, h1⟩, Nat.le_refl _, hn32, ⟨Int.le_refl _, by omega⟩, [], by simp, rfl⟩
    · have hn : n < 32 := by
        cases l with
        | nil => cases he
        | node => simp only [Tr.height] at hl; omega
      obtain ⟨r1, r2, hs, hp⟩ := right_mono hr (by omega)
      obtain ⟨ph, pl, hx0, hx1⟩ := path_hi hn h0 h1 hr
      obtain ⟨y, k, e1, e2, e3, e4, e5, e6, σ, e7, e8⟩ := ent_spec l x (n + 1) r1 h0 h1 hl.1 e he
      rw [show ((n + 1 : Nat) : Int) = (n : Int) + 1 from rfl] at e6
      exact ⟨y, k, e1, e2, e3, by omega, e5, ⟨e6.1, by omega⟩, false :: σ, by rw [e7, pl, List.append_assoc]; rfl, e8⟩
    · have hn : n < 32 := by
        cases r with
        | nil => cases he
        | node => simp only [Tr.height] at hl; omega
      obtain ⟨r1, r2, hs, hp⟩ := right_mono hr (by omega)
      obtain ⟨ph, pl, hx0, hx1⟩ := path_hi hn h0 h1 hr
      obtain ⟨y, k, e1, e2, e3, e4, e5, e6, σ, e7, e8⟩ := ent_spec r (x + sz ((n : Int) + 1)) (n + 1) r2 hx0 hx1 hl.2 e he
      rw [show ((n + 1 : Nat) : Int) = (n : Int) + 1 from rfl] at e6
      exact ⟨y, k, e1, e2, e3, by omega, e5, ⟨by omega, by omega⟩, true :: σ, by rw [e7, ph, List.append_assoc]; rfl, e8⟩
/-- and it meets all that stands -/
theorem ent_all : ∀ (U : Tr) (x : Int) (n : Nat) (σ : List Bool) (v : Value), rightB x n = true → 0 ≤ x → x < 4294967296 → n + U.height ≤ 33 → U.get σ = some v → ∃ y : Int, ((y, ((n + σ.length : Nat) : Int)), v) ∈ entries U x n ∧ path y (n + σ.length) = path x n ++ σ
  | .nil, x, n, σ, v, _, _, _, _, hg => by rw [Tr.get_nil] at hg; cases hg
  | .node b l r u h, x, n, σ, v, hr, h0, h1, hht, hg => by
    have hl : n + 1 + l.height ≤ 33 ∧ n + 1 + r.height ≤ 33 := by simp only [Tr.height] at hht; omega
    match σ, hg with
    | [], hg =>
      cases h
      · cases hg
      · have : u = v := Option.some.inj hg
        subst this
        exact ⟨x, by rw [entries]; exact List.mem_append_left _ (by simp), by simp⟩
    | false :: σ, hg =>
      have hg' : l.get σ = some v := hg
      have hn : n < 32 := by
        cases l with
        | nil => rw [Tr.get_nil] at hg'; cases hg'
        | node => simp only [Tr.height] at hl; omega
      obtain ⟨r1, r2, hs, hp⟩ := right_mono hr (by omega)
      obtain ⟨ph, pl, hx0, hx1⟩ := path_hi hn h0 h1 hr
      obtain ⟨y, hy1, hy2⟩ := ent_all l x (n + 1) σ v r1 h0 h1 hl.1 hg'
      refine ⟨y, ?_, ?_⟩
      · rw [entries, show n + (false :: σ).length = n + 1 + σ.length by simp only [List.length_cons]; omega]
        exact List.mem_append_right _ (List.mem_append_left _ hy1)
      · rw [show n + (false :: σ).length = n + 1 + σ.length by simp only [List.length_cons]; omega, hy2, pl, List.append_assoc]; rfl
    | true :: σ, hg =>
      have hg' : r.get σ = some v := hg
      have hn : n < 32 := by
        cases r with
        | nil => rw [Tr.get_nil] at hg'; cases hg'
        | node => simp only [Tr.height] at hl; omega
      obtain ⟨r1, r2, hs, hp⟩ := right_mono hr (by omega)
      obtain ⟨ph, pl, hx0, hx1⟩ := path_hi hn h0 h1 hr
      obtain ⟨y, hy1, hy2⟩ := ent_all r (x + sz ((n : Int) + 1)) (n + 1) σ v r2 hx0 hx1 hl.2 hg'
      refine ⟨y, ?_, ?_⟩
      · rw [entries, show n + (true :: σ).length = n + 1 + σ.length by simp only [List.length_cons]; omega]
        exact List.mem_append_right _ (List.mem_append_right _ hy1)
      · rw [show n + (true :: σ).length = n + 1 + σ.length by simp only [List.length_cons]; omega, hy2, ph, List.append_assoc]; rfl

/-- how many of what the walk meets a prefix covers -/
def cov (px pn : Int) (L : List ((Int × Int) × Value)) : Nat := (L.filter (fun e => coversB px pn e.1.1 e.1.2)).length
theorem cov_append (px pn : Int) (l m : List ((Int × Int) × Value)) : cov px pn (l ++ m) = cov px pn l + cov px pn m := by rw [cov, List.filter_append, List.length_append]; rfl
theorem cov_none {px pn : Int} {L : List ((Int × Int) × Value)} (h : ∀ e, e ∈ L → coversB px pn e.1.1 e.1.2 = false) : cov px pn L = 0 := by
  rw [cov, List.filter_eq_nil_iff.2 (fun e he => by rw [h e he]; simp)]; rfl
theorem cov_full {px pn : Int} {L : List ((Int × Int) × Value)} (h : ∀ e, e ∈ L → coversB px pn e.1.1 e.1.2 = true) : cov px pn L = L.length := by
  rw [cov, List.filter_eq_self.2 h]
theorem covers_iff {px y : Int} {pn k : Int} (hp : rightB px pn = true) (hy : rightB y k = true) : coversB px pn y k = true ↔ pn ≤ k ∧ px ≤ y ∧ y < px + sz pn := by
  rw [coversB, hy, Bool.true_and, Bool.and_eq_true, decide_eq_true_iff, has_range hp]
/-- as many as the walk from the prefix itself meets -/
theorem cov_sub : ∀ (j : Nat) (U : Tr) (x px : Int) (n : Nat), rightB x n = true → 0 ≤ x → x < 4294967296 → n + U.height ≤ 33 → n + j ≤ 32 → rightB px ((n + j : Nat) : Int) = true → 0 ≤ px → px < 4294967296 → (x ≤ px ∧ px < x + sz n) →
    cov px ((n + j : Nat) : Int) (entries U x n) = (entries (U.sub (pathF px n j)) px ((n + j : Nat) : Int)).length
  | j, .nil, x, px, n, _, _, _, _, _, _, _, _, _ => by rw [Tr.sub_nil]; rfl
  | 0, U, x, px, n, hr, h0, h1, hht, hnj, hpr, hp0, hp1, hin => by
    have e : px = x := by
      rw [Nat.add_zero] at hpr
      have a1 := (rightB_iff.1 hr).2.2
      have a2 := (rightB_iff.1 hpr).2.2
      have hp := sz_pos (n : Int)
      have b1 := Int.emod_add_mul_ediv x (sz n)
      have b2 := Int.emod_add_mul_ediv px (sz n)
      rw [a1] at b1
      rw [a2] at b2
      have hx : x / sz n = px / sz n := by
        have c1 : x / sz n ≤ px / sz n := Int.ediv_le_ediv hp hin.1
        have c2 : px / sz n < x / sz n + 1 := by
          refine Int.ediv_lt_of_lt_mul hp ?_
          rw [Int.add_mul, Int.one_mul, Int.mul_comm]
          omega
        omega
      rw [hx] at b1
      omega
    subst e
    rw [Nat.add_zero]
    refine cov_full (fun e he => ?_)
    obtain ⟨y, k, e1, e2, e3, e4, e5, e6, _⟩ := ent_spec U px n hr h0 h1 hht e he
    rw [e1]
    exact (covers_iff hr e2).2 ⟨by omega, e6.1, e6.2⟩
  | j + 1, .node b l r v h, x, px, n, hr, h0, h1, hht, hnj, hpr, hp0, hp1, hin => by
    have hn : n < 32 := by omega
    have hl : n + 1 + l.height ≤ 33 ∧ n + 1 + r.height ≤ 33 := by simp only [Tr.height] at hht; omega
    obtain ⟨r1, r2, hs, hp⟩ := right_mono hr (by omega)
    obtain ⟨ph, pl, hx0, hx1⟩ := path_hi hn h0 h1 hr
    have hcast : ((n + 1 : Nat) : Int) = (n : Int) + 1 := rfl
    have hnn : n + (j + 1) = n + 1 + j := by omega
    have hpe : pathF px n (j + 1) = turn px n :: pathF px (n + 1) j := rfl
    have own : cov px ((n + (j + 1) : Nat) : Int) (if h then [((x, (n : Int)), v)] else []) = 0 := by
      refine cov_none (fun e he => ?_)
      cases h
      · cases he
      · simp only [if_true, List.mem_singleton] at he
        subst he
        cases hc : coversB px ((n + (j + 1) : Nat) : Int) x n
        · rfl
        · have := ((covers_iff hpr hr).1 hc).1
          omega
    rw [entries, cov_append, cov_append, own, Nat.zero_add, hpe]
    rw [hnn] at hpr ⊢
    have hszp := sz_pos ((n + 1 + j : Nat) : Int)
    have hall : ∀ y k : Int, rightB y k = true → coversB px ((n + 1 + j : Nat) : Int) y k = true → px ≤ y ∧ y < px + sz ((n + 1 + j : Nat) : Int) := fun y k hy hc => ((covers_iff hpr hy).1 hc).2
    -- the end of p, within a half
    have hend : ∀ z : Int, rightB z ((n : Int) + 1) = true → z ≤ px → px < z + sz ((n : Int) + 1) → px + sz ((n + 1 + j : Nat) : Int) ≤ z + sz ((n : Int) + 1) := by
      intro z hz h2 h3
      have hzs := (rightB_iff.1 hz).2.2
      have hps := (rightB_iff.1 hpr).2.2
      have hle : sz ((n + 1 + j : Nat) : Int) ∣ sz ((n : Int) + 1) := by
        rw [← hcast, sz_nat (by omega), sz_nat (by omega)]
        exact Int.natCast_dvd_natCast.2 (Nat.pow_dvd_pow 2 (by omega))
      obtain ⟨q, hq⟩ := hle
      obtain ⟨a, ha⟩ := Int.dvd_of_emod_eq_zero hps
      obtain ⟨c, hc⟩ := Int.dvd_of_emod_eq_zero hzs
      have hz2 : z + sz ((n : Int) + 1) = sz ((n + 1 + j : Nat) : Int) * (q * c + q) := by
        rw [hc, hq, Int.mul_add, Int.mul_assoc]
      rw [hz2, ha] at h3 ⊢
      have : a < q * c + q := Int.lt_of_mul_lt_mul_left h3 (by omega)
      have h4 : sz ((n + 1 + j : Nat) : Int) * a + sz ((n + 1 + j : Nat) : Int) = sz ((n + 1 + j : Nat) : Int) * (a + 1) := by rw [Int.mul_add, Int.mul_one]
      rw [h4]
      exact Int.mul_le_mul_of_nonneg_left (by omega) (by omega)
    cases ht : turn px n
    · have hlow : px < x + sz ((n : Int) + 1) := by
        apply Decidable.byContradiction
        intro hc
        have hh : hasB (x + sz ((n : Int) + 1)) ((n : Int) + 1) px = true := (has_range r2).2 ⟨by omega, by omega⟩
        have := has_path (n := n + 1) (by omega) ((has_iff_path (n := n + 1) (by omega) hx0 hx1 hp0 hp1 r2).1 hh) n (Nat.lt_succ_self n)
        have e2 := turn_hi hn hr
        rw [turn, if_pos hn] at ht e2
        rw [this] at e2
        rw [e2] at ht; cases ht
      have he := hend x r1 hin.1 hlow
      have hr0 : cov px ((n + 1 + j : Nat) : Int) (entries r (x + sz ((n : Int) + 1)) (n + 1)) = 0 := by
        refine cov_none (fun e hee => ?_)
        obtain ⟨y, k, e1, e2, e3, e4, e5, e6, _⟩ := ent_spec r (x + sz ((n : Int) + 1)) (n + 1) r2 hx0 hx1 hl.2 e hee
        rw [e1]
        cases hc : coversB px ((n + 1 + j : Nat) : Int) y k
        · rfl
        · have := hall y k e2 hc
          omega
      rw [hr0, Nat.add_zero]
      exact cov_sub j l x px (n + 1) r1 h0 h1 hl.1 (by omega) hpr hp0 hp1 ⟨hin.1, hlow⟩
    · have hhigh : x + sz ((n : Int) + 1) ≤ px := by
        apply Decidable.byContradiction
        intro hc
        have hh : hasB x ((n : Int) + 1) px = true := (has_range r1).2 ⟨by omega, by omega⟩
        have := has_path (n := n + 1) (by omega) ((has_iff_path (n := n + 1) (by omega) h0 h1 hp0 hp1 r1).1 hh) n (Nat.lt_succ_self n)
        have e2 := turn_lo hn hr
        rw [turn, if_pos hn] at ht e2
        rw [this] at e2
        rw [e2] at ht; cases ht
      have hl0 : cov px ((n + 1 + j : Nat) : Int) (entries l x (n + 1)) = 0 := by
        refine cov_none (fun e hee => ?_)
        obtain ⟨y, k, e1, e2, e3, e4, e5, e6, _⟩ := ent_spec l x (n + 1) r1 h0 h1 hl.1 e hee
        rw [hcast] at e6
        rw [e1]
        cases hc : coversB px ((n + 1 + j : Nat) : Int) y k
        · rfl
        · have := hall y k e2 hc
          omega
      rw [hl0, Nat.zero_add]
      exact cov_sub j r (x + sz ((n : Int) + 1)) px (n + 1) r2 hx0 hx1 hl.2 (by omega) hpr hp0 hp1 ⟨hhigh, by rw [hcast]; omega⟩
end Go.Proofs.Ytfealajbibofiaa.trent
