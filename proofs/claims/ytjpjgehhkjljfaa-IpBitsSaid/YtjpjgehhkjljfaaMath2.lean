import Derived.Test.YtjpjgehhkjljfaaMath1
/- Plain mathematics: the bits of an address, one by one. -/
namespace Go.Proofs.Ytjpjgehhkjljfaa.math1
open Go.RowKit

theorem mod_bits (x m : Nat) : x % 2 ^ m = 0 ↔ ∀ i, i < m → x / 2 ^ i % 2 = 0 := by
  induction m with
  | zero => simp [Nat.mod_one]
  | succ m ih =>
    rw [Nat.pow_succ, Nat.mod_mul]
    have hp := Nat.two_pow_pos m
    constructor
    · intro h i hi
      have h1 : x % 2 ^ m = 0 := by omega
      have h2 : 2 ^ m * (x / 2 ^ m % 2) = 0 := by omega
      have h3 : x / 2 ^ m % 2 = 0 := by
        rcases Nat.mul_eq_zero.1 h2 with h | h
        · omega
        · exact h
      by_cases e : i = m
      · rw [e]; exact h3
      · exact ih.1 h1 i (by omega)
    · intro h
      rw [ih.2 fun i hi => h i (by omega), h m (by omega)]
      simp

theorem div_bits (x y m : Nat) (hx : x < 2 ^ 32) (hy : y < 2 ^ 32) : x / 2 ^ m = y / 2 ^ m ↔ ∀ i, m ≤ i → i < 32 → x / 2 ^ i % 2 = y / 2 ^ i % 2 := by
  have tb : ∀ (z i : Nat), z.testBit i = decide (z / 2 ^ i % 2 = 1) := fun z i => Nat.testBit_eq_decide_div_mod_eq
  constructor
  · intro h i hi _
    have e : ∀ z : Nat, z / 2 ^ i = z / 2 ^ m / 2 ^ (i - m) := fun z => by rw [Nat.div_div_eq_div_mul, ← Nat.pow_add, show m + (i - m) = i by omega]
    rw [e x, e y, h]
  · intro h
    apply Nat.eq_of_testBit_eq
    intro j
    rw [Nat.testBit_div_two_pow, Nat.testBit_div_two_pow]
    by_cases hj : j + m < 32
    · rw [tb, tb]
      have := h (j + m) (by omega) hj
      rw [this]
    · have hp : 2 ^ 32 ≤ 2 ^ (j + m) := Nat.pow_le_pow_right (by decide) (by omega)
      rw [Nat.testBit_lt_two_pow (by omega), Nat.testBit_lt_two_pow (by omega)]

theorem bitI_nat (x j : Nat) : bitI (x : Int) j = ((x / 2 ^ (31 - j) % 2 : Nat) : Int) := by
  unfold bitI
  simp
theorem bitI_01 (a : Int) (j : Nat) : bitI a j = 0 ∨ bitI a j = 1 := by unfold bitI; omega

/-- in its form: the bits behind are all 0 -/
theorem right_bits {a n : Int} (h0 : 0 ≤ a) (hn0 : 0 ≤ n) (hn : n ≤ 32) : rightB a n = true ↔ ∀ j : Nat, n.toNat ≤ j → j < 32 → bitI a j = 0 := by
  obtain ⟨x, rfl⟩ := Int.eq_ofNat_of_zero_le h0
  obtain ⟨k, rfl⟩ := Int.eq_ofNat_of_zero_le hn0
  have hk : k ≤ 32 := by omega
  have hm := mod_bits x (32 - k)
  rw [rightB_iff, sz_nat hk]
  constructor
  · rintro ⟨_, _, h⟩ j hj hj2
    have h' : x % 2 ^ (32 - k) = 0 := by omega
    have := hm.1 h' (31 - j) (by simp at hj; omega)
    rw [bitI_nat]
    omega
  · intro h
    refine ⟨hn0, hn, ?_⟩
    have h' : x % 2 ^ (32 - k) = 0 := hm.2 fun i hi => by
      have := h (31 - i) (by simp; omega) (by omega)
      rw [bitI_nat, show 31 - (31 - i) = i by omega] at this
      omega
    omega

/-- in a prefix: the bits ahead are the same -/
theorem has_bits {a n x : Int} (h0 : 0 ≤ a) (h1 : a < 4294967296) (h2 : 0 ≤ x) (h3 : x < 4294967296) (hr : rightB a n = true) : hasB a n x = true ↔ ∀ j : Nat, j < n.toNat → bitI a j = bitI x j := by
  obtain ⟨hn0, hn, hz⟩ := rightB_iff.1 hr
  obtain ⟨u, rfl⟩ := Int.eq_ofNat_of_zero_le h0
  obtain ⟨v, rfl⟩ := Int.eq_ofNat_of_zero_le h2
  obtain ⟨k, rfl⟩ := Int.eq_ofNat_of_zero_le hn0
  have hk : k ≤ 32 := by omega
  have hd := div_bits u v (32 - k) (by omega) (by omega)
  rw [hasB_iff]
  rw [sz_nat hk] at hz ⊢
  constructor
  · rintro ⟨_, _, _, h⟩ j hj
    have h' : u / 2 ^ (32 - k) = v / 2 ^ (32 - k) := by
      have e : ((u / 2 ^ (32 - k) : Nat) : Int) = ((v / 2 ^ (32 - k) : Nat) : Int) := by simpa using h
      exact_mod_cast e
    have := hd.1 h' (31 - j) (by simp at hj; omega) (by omega)
    rw [bitI_nat, bitI_nat, this]
  · intro h
    refine ⟨hn0, hn, hz, ?_⟩
    have h' : u / 2 ^ (32 - k) = v / 2 ^ (32 - k) := hd.2 fun i hi hi2 => by
      have := h (31 - i) (by simp; omega)
      rw [bitI_nat, bitI_nat, show 31 - (31 - i) = i by omega] at this
      omega
    have e : ((u / 2 ^ (32 - k) : Nat) : Int) = ((v / 2 ^ (32 - k) : Nat) : Int) := by rw [h']
    simpa using e

theorem has_right {a n x : Int} (h : hasB a n x = true) : rightB a n = true := by
  obtain ⟨h1, h2, h3, _⟩ := hasB_iff.1 h
  exact rightB_iff.2 ⟨h1, h2, h3⟩

/-- the number of bits, taken one by one, in 32 bits -/
def numStep (a x : Int) : Int := (2 * a % 4294967296 + x % 4294967296) % 4294967296
def numL (xs : List Int) : Int := xs.foldl numStep 0
theorem numL_snoc (xs : List Int) (x : Int) : numL (xs ++ [x]) = numStep (numL xs) x := by simp [numL, List.foldl_append]
theorem numStep_bd (a x : Int) : 0 ≤ numStep a x ∧ numStep a x < 4294967296 := by unfold numStep; omega
def maskL (n : Int) : List Int := (List.range 32).map fun (i : Nat) => if (i : Int) < n then 1 else 0
theorem maskL_clamp (n : Int) : maskL n = maskL (clampI n) := by
  unfold maskL
  apply List.map_congr_left
  intro i hi
  have := List.mem_range.1 hi
  have e : ((i : Int) < n) ↔ ((i : Int) < clampI n) := by unfold clampI; split <;> (try split) <;> omega
  simp only [e]
theorem numL_mask (n : Int) : numL (maskL n) = maskI n := by
  have hb := clampI_bd n
  rw [maskL_clamp]
  unfold maskI
  refine each_len (P := fun n => numL (maskL n) = 4294967296 - sz n) ?_ hb.1 hb.2
  intro k hk
  have : ∀ k : Fin 33, numL (maskL ((k : Nat) : Int)) = 4294967296 - sz ((k : Nat) : Int) := by decide +kernel
  exact this ⟨k, by omega⟩
end Go.Proofs.Ytjpjgehhkjljfaa.math1
