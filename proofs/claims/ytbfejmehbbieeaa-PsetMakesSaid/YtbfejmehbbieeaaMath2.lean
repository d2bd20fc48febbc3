import Derived.Test.YtbfejmehbbieeaaMath1
/- Plain mathematics: the bits of an address, one by one. -/
namespace Go.Proofs.Ytbfejmehbbieeaa.math1
open Go.RowKit

theorem mod_bits (x m : Nat) : x % 2 ^ m = 0 ↔ ∀ i, i < m → x / 2 ^ i % 2 = 0 := by
  induction m with
  | zero => simp [Nat.mod_one]
  | succ m ih =>
    rw [Nat.pow_succ, Nat.mod_mul]
    have hp := Nat.two_pow_pos m
    constructor
    · intro h i hi
      have h1 : x % 2 ^ m = 0 := by omega
      have h2 : 2 ^ m * (x / 2 ^ m % 2) = 0 := by omega
      have h3 : x / 2 ^ m % 2 = 0 := by
        rcases Nat.mul_eq_zero.1 h2 with h | h
        · omega
        · exact h
      by_cases e : i = m
      · rw [e]; exact h3
      · exact ih.1 h1 i (by omega)
    · intro h
      rw [ih.2 fun i hi => h i (by omega), h m (by omega)]
      simp

theorem div_bits (x y m : Nat) (hx : x < 2 ^ 32) (hy : y < 2 ^ 32) : x / 2 ^ m = y / 2 ^ m ↔ ∀ i, m ≤ i → i < 32 → x / 2 ^ i % 2 = y / 2 ^ i % 2 := by
  have tb : ∀ (z i : Nat), z.testBit i = decide (z / 2 ^ i % 2 = 1) := fun z i => Nat.testBit_eq_decide_div_mod_eq
  constructor
  · intro h i hi _
    have e : ∀ z : Nat, z / 2 ^ i = z / 2 ^ m / 2 ^ (i - m) := fun z => by rw [Nat.div_div_eq_div_mul, ← Nat.pow_add, show m + (i - m) = i by omega]
    rw [e x, e y, h]
  · intro h
    apply Nat.eq_of_testBit_eq
    intro j
    rw [Nat.testBit_div_two_pow, Nat.testBit_div_two_pow]
    by_cases hj : j + m < 32
    · rw [tb, tb]
      have := h (j + m) (by omega) hj
      rw [this]
    · have hp : 2 ^ 32 ≤ 2 ^ (j + m) := Nat.pow_le_pow_right (by decide) (by omega)
      rw [Nat.testBit_lt_two_pow (by omega), Nat.testBit_lt_two_pow (by omega)]

theorem bitI_nat (x j : Nat) : bitI (x : Int) j = ((x / 2 ^ (31 - j) % 2 : Nat) : Int) := by
  unfold bitI
  simp
theorem bitI_01 (a : Int) (j : Nat) : bitI a j = 0 ∨ bitI a j = 1 := by unfold bitI; omega

/-- in its form: the bits behind are all 0 -/
theorem right_bits {a n : Int} (h0 : 0 ≤ a) (hn0 : 0 ≤ n) (hn : n ≤ 32) : rightB a n = true ↔ ∀ j : Nat, n.toNat ≤ j → j < 32 → bitI a j = 0 := by
  obtain ⟨x, rfl⟩ := Int.eq_ofNat_of_zero_le h0
  obtain ⟨k, rfl⟩ := Int.eq_ofNat_of_zero_le hn0
  have hk : k ≤ 32 := by omega
  have hm := mod_bits x (32 - k)
  rw [rightB_iff, sz_nat hk]
  constructor
  · rintro ⟨_, _, h⟩ j hj hj2
    have h' : x % 2 ^ (32 - k) = 0 := by omega
    have := hm.1 h' (31 - j) (by simp at hj; omega)
    rw [bitI_nat]
    omega
  · intro h
    refine ⟨hn0, hn, ?_⟩
    have h' : x % 2 ^ (32 - k) = 0 := hm.2 fun i hi => by
      have := h (31 - i) (by simp; omega) (by omega)
      rw [bitI_nat, show 31 - (31 - i) = i by omega] at this
      omega
    omega

/-- in a prefix: the bits ahead are the same -/
theorem has_bits {a n x : Int} (h0 : 0 ≤ a) (h1 : a < 4294967296) (h2 : 0 ≤ x) (h3 : x < 4294967296) (hr : rightB a n = true) : hasB a n x = true ↔ ∀ j : Nat, j < n.toNat → bitI a j = bitI x j := by
  obtain ⟨hn0, hn, hz⟩ := rightB_iff.1 hr
  obtain ⟨u, rfl⟩ := Int.eq_ofNat_of_zero_le h0
  obtain ⟨v, rfl⟩ := Int.eq_ofNat_of_zero_le h2
  obtain ⟨k, rfl⟩ := Int.eq_ofNat_of_zero_le hn0
  have hk : k ≤ 32 := by omega
  have hd := div_bits u v (32 - k) (by omega) (by omega)
  rw [hasB_iff]
  rw [sz_nat hk] at hz ⊢
  constructor
  · rintro ⟨_, _, _, h⟩ j hj
    have h' : u / 2 ^ (32 - k) = v / 2 ^ (32 - k) := by
      have e : ((u / 2 ^ (32 - k) : Nat) : Int) = ((v / 2 ^ (32 - k) : Nat) : Int) := by simpa using h
      exact_mod_cast e
    have := hd.1 h' (31 - j) (by simp at hj; omega) (by omega)
    rw [bitI_nat, bitI_nat, this]
  · intro h
    refine ⟨hn0, hn, hz, ?_⟩
    have h' : u / 2 ^ (32 - k) = v / 2 ^ (32 - k) := hd.2 fun i hi hi2 => by
      have := h (31 - i) (by simp; omega)
      rw [bitI_nat, bitI_nat, show 31 - (31 - i) = i by omega] at this
      omega
    have e : ((u / 2 ^ (32 - k) : Nat) : Int) = ((v / 2 ^ (32 - k) : Nat) : Int) := by rw [h']
    simpa using e

theorem has_right {a n x : Int} (h : hasB a n x = true) : rightB a n = true := by
  obtain ⟨h1, h2, h3, _⟩ := hasB_iff.1 h
  exact rightB_iff.2 ⟨h1, h2, h3⟩

/-- the number of bits, taken one by one, in 32 bits -/
def numStep (a x : Int) : Int := (2 * a % 4294967296 + x % 4294967296) % 4294967296
def numL (xs : List Int) : Int := xs.foldl numStep 0
theorem numL_snoc (xs : List Int) (x : Int) : numL (xs ++ [x]) = numStep (numL xs) x := by simp [numL, List.foldl_append]
theorem numStep_bd (a x : Int) : 0 ≤ numStep a x ∧ numStep a x < 4294967296 := by unfold numStep; omega
def maskL (n : Int) : List Int := (List.range 32).map fun (i : Nat) => if (i : Int) < n then 1 else 0
theorem maskL_clamp (n : Int) : maskL n = maskL (clampI n) := by
  unfold maskL
  apply List.map_congr_left
  intro i hi
  have := List.mem_range.1 hi
  have e : ((i : Int) < n) ↔ ((i : Int) < clampI n) := by unfold clampI; split <;> (try split) <;> omega
  simp only [e]
theorem numL_mask (n : Int) : numL (maskL n) = maskI n := by
  have hb := clampI_bd n
  rw [maskL_clamp]
  unfold maskI
  refine each_len (P := fun n => numL (maskL n) = 4294967296 - sz n) ?_ hb.1 hb.2
  intro k hk
  have : ∀ k : Fin 33, numL (maskL ((k : Nat) : Int)) = 4294967296 - sz ((k : Nat) : Int) := by decide +kernel
  exact this ⟨k, by omega⟩

theorem or_low (x k : Nat) : x ||| (2 ^ k - 1) = x - x % 2 ^ k + (2 ^ k - 1) := by
  have hp := Nat.two_pow_pos k
  have hd := Nat.div_add_mod x (2 ^ k)
  have e : x - x % 2 ^ k = 2 ^ k * (x / 2 ^ k) := by omega
  rw [e, ← nat_join k (2 ^ k * (x / 2 ^ k)) (2 ^ k - 1) (Nat.mul_mod_right _ _) (by omega)]
  apply Nat.eq_of_testBit_eq
  intro i
  rw [Nat.testBit_or, Nat.testBit_or, Nat.testBit_two_pow_sub_one, Nat.testBit_two_pow_mul, Nat.testBit_div_two_pow]
  by_cases h : i < k
  · simp [h]
  · simp [h, show k ≤ i by omega, show i - k + k = i by omega]

theorem xor_all (x : Nat) (hx : x < 4294967296) : 4294967295 ^^^ x = 4294967295 - x := by
  apply Nat.eq_of_testBit_eq
  intro i
  rw [show (4294967295 : Nat) - x = 2 ^ 32 - (x + 1) by omega, Nat.testBit_two_pow_sub_succ (by omega), Nat.testBit_xor, show (4294967295 : Nat) = 2 ^ 32 - 1 from rfl, Nat.testBit_two_pow_sub_one]
  by_cases h : i < 32
  · simp [h]
  · have : x.testBit i = false := Nat.testBit_lt_two_pow (Nat.lt_of_lt_of_le hx (by
      have : 2 ^ 32 ≤ 2 ^ i := Nat.pow_le_pow_right (by decide) (by omega)
      simpa using this))
    simp [h, this]

/-- the last address of a prefix -/
def lastI (a n : Int) : Int := netI a n + (sz (clampI n) - 1)
theorem last_bits (a n : Int) (h0 : 0 ≤ a) (h1 : a < 4294967296) : bits .or .u32 a (bits .xor .u32 IntKind.u32.max (maskI n)) = lastI a n := by
  have hb := clampI_bd n
  have hm := maskI_bd n
  obtain ⟨x, rfl⟩ := Int.eq_ofNat_of_zero_le h0
  obtain ⟨k, hk⟩ := Int.eq_ofNat_of_zero_le hb.1
  have hk32 : k ≤ 32 := by omega
  have hpos : 0 < 2 ^ (32 - k) := Nat.two_pow_pos _
  have hp : 2 ^ (32 - k) ≤ 4294967296 := by
    have : 2 ^ (32 - k) ≤ 2 ^ 32 := Nat.pow_le_pow_right (by decide) (by omega)
    simpa using this
  have hmod := Nat.mod_le x (2 ^ (32 - k))
  have hmax : IntKind.u32.max = ((4294967295 : Nat) : Int) := by decide
  have hmask : maskI n = ((4294967296 - 2 ^ (32 - k) : Nat) : Int) := by
    unfold maskI
    rw [hk, sz_nat hk32]
    omega
  rw [hmax, hmask, u32_xor_nat _ _ (by decide) (by omega), xor_all _ (by omega), show 4294967295 - (4294967296 - 2 ^ (32 - k)) = 2 ^ (32 - k) - 1 by omega,
    u32_or_nat x _ (by omega) (by omega), or_low]
  unfold lastI netI
  rw [hk, sz_nat hk32]
  have e : ((x % 2 ^ (32 - k) : Nat) : Int) = (x : Int) % ((2 ^ (32 - k) : Nat) : Int) := by simp
  omega

/-- the bit behind a prefix, set -/
theorem half_bits (a n : Int) (h0 : 0 ≤ a) (h1 : a < 4294967296) (hn0 : 0 ≤ n) (hn : n < 32) (hz : a % sz n = 0) : bits .or .u32 a (sz (n + 1)) = a + sz (n + 1) ∧ a + sz (n + 1) < 4294967296 := by
  obtain ⟨x, rfl⟩ := Int.eq_ofNat_of_zero_le h0
  obtain ⟨k, rfl⟩ := Int.eq_ofNat_of_zero_le hn0
  have hk : k + 1 ≤ 32 := by omega
  have e1 : ((k : Int) + 1) = ((k + 1 : Nat) : Int) := by omega
  rw [sz_nat (by omega)] at hz
  rw [e1, sz_nat hk]
  have hpow : 2 ^ (32 - k) = 2 * 2 ^ (32 - (k + 1)) := by rw [show 32 - k = 32 - (k + 1) + 1 by omega, Nat.pow_succ]; omega
  have hp : 2 ^ (32 - (k + 1)) ≤ 2147483648 := by
    have : 2 ^ (32 - (k + 1)) ≤ 2 ^ 31 := Nat.pow_le_pow_right (by decide) (by omega)
    simpa using this
  have hpos : 0 < 2 ^ (32 - (k + 1)) := Nat.two_pow_pos _
  have hz' : x % 2 ^ (32 - k) = 0 := by omega
  have hspl := pow_split (show k ≤ 32 by omega)
  have hlt : x + 2 ^ (32 - (k + 1)) < 4294967296 := by
    have hd := Nat.div_add_mod x (2 ^ (32 - k))
    have hq : x / 2 ^ (32 - k) < 2 ^ k := by
      apply Nat.div_lt_of_lt_mul
      rw [Nat.mul_comm, hspl]
      omega
    have : 2 ^ (32 - k) * (x / 2 ^ (32 - k) + 1) ≤ 2 ^ (32 - k) * 2 ^ k := Nat.mul_le_mul_left _ hq
    rw [Nat.mul_comm (2 ^ (32 - k)) (2 ^ k), hspl, Nat.mul_add] at this
    omega
  constructor
  · rw [u32_or_nat x _ (by omega) (by omega), nat_join (32 - k) x _ hz' (by omega)]
    omega
  · omega

theorem one_shift (n : Int) (hn0 : 0 ≤ n) (hn : n < 32) : (2 : Int) ^ (32 - (n + 1)).toNat % 4294967296 = sz (n + 1) := by
  unfold sz
  have : (2 : Nat) ^ (32 - (n + 1)).toNat ≤ 2 ^ 31 := Nat.pow_le_pow_right (by decide) (by omega)
  have h2 : ((2 ^ (32 - (n + 1)).toNat : Nat) : Int) ≤ ((2 ^ 31 : Nat) : Int) := by exact_mod_cast this
  have h3 : (0 : Int) < 2 ^ (32 - (n + 1)).toNat := Int.pow_pos (by decide)
  simp at h2
  omega
end Go.Proofs.Ytbfejmehbbieeaa.math1
