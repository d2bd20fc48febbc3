import Derived.Test.YtbfejmehbbieeaaProg
import Derived.WalkKit
import Derived.Laws.BitsAllLaws
/- Plain mathematics of addresses: masks, networks, bits. No Go in sight but the model's own 'bits'. -/
namespace Go.Proofs.Ytbfejmehbbieeaa.math1
open Go.RowKit

def clampI (n : Int) : Int := if n < 0 then 0 else if 32 < n then 32 else n
theorem clampI_bd (n : Int) : 0 ≤ clampI n ∧ clampI n ≤ 32 := by unfold clampI; split <;> (try split) <;> omega
theorem clampI_in {n : Int} (h0 : 0 ≤ n) (h1 : n ≤ 32) : clampI n = n := by unfold clampI; rw [if_neg (by omega), if_neg (by omega)]

/-- how many addresses a prefix of so many bits has -/
def sz (n : Int) : Int := 2 ^ (32 - n).toNat
def maskI (n : Int) : Int := 4294967296 - sz (clampI n)
def netI (a n : Int) : Int := a - a % sz (clampI n)
def bitI (a : Int) (n : Nat) : Int := a / 2 ^ (31 - n) % 2

/-- every length from 0 to 32, one by one -/
theorem each_len {P : Int → Prop} (h : ∀ k : Nat, k ≤ 32 → P (k : Int)) {n : Int} (h0 : 0 ≤ n) (h1 : n ≤ 32) : P n := by
  obtain ⟨k, rfl⟩ := Int.eq_ofNat_of_zero_le h0
  exact h k (by omega)

theorem sz_nat {n : Nat} (h : n ≤ 32) : sz (n : Int) = ((2 ^ (32 - n) : Nat) : Int) := by
  unfold sz
  rw [show ((32 : Int) - (n : Int)).toNat = 32 - n by omega]
  simp
theorem sz_pos (n : Int) : 0 < sz n := by unfold sz; exact Int.pow_pos (by decide)
theorem pow_split {n : Nat} (h : n ≤ 32) : 2 ^ n * 2 ^ (32 - n) = 4294967296 := by
  rw [← Nat.pow_add, show n + (32 - n) = 32 by omega]
theorem sz_le {n : Int} (h0 : 0 ≤ n) : sz n ≤ 4294967296 := by
  unfold sz
  have : (2 : Nat) ^ (32 - n).toNat ≤ 2 ^ 32 := Nat.pow_le_pow_right (by decide) (by omega)
  have h2 : ((2 ^ (32 - n).toNat : Nat) : Int) ≤ ((2 ^ 32 : Nat) : Int) := by exact_mod_cast this
  simpa using h2
theorem sz_32 : sz 32 = 1 := by decide
theorem sz_0 : sz 0 = 4294967296 := by decide
theorem sz_half {n : Int} (h0 : 0 ≤ n) (h1 : n < 32) : sz n = 2 * sz (n + 1) := by
  unfold sz
  rw [show (32 - n).toNat = (32 - (n + 1)).toNat + 1 by omega, Int.pow_succ]
  omega

theorem mask_shift (n : Int) (h0 : 0 ≤ n) (h1 : n ≤ 32) : 4294967295 * 2 ^ (32 - n).toNat % 4294967296 = 4294967296 - sz n := by
  refine each_len (P := fun n => (4294967295 : Int) * 2 ^ (32 - n).toNat % 4294967296 = 4294967296 - sz n) ?_ h0 h1
  intro k hk
  have : ∀ k : Fin 33, (4294967295 : Int) * 2 ^ (32 - ((k : Nat) : Int)).toNat % 4294967296 = 4294967296 - sz ((k : Nat) : Int) := by decide +kernel
  exact this ⟨k, by omega⟩

theorem and_low (x k : Nat) (hx : x < 4294967296) (hk : k ≤ 32) : x &&& (4294967296 - 2 ^ k) = x - x % 2 ^ k := by
  have hp : 2 ^ k ≤ 4294967296 := by
    have : 2 ^ k ≤ 2 ^ 32 := Nat.pow_le_pow_right (by decide) hk
    simpa using this
  have hs : (2 : Nat) ^ 32 - 2 ^ k = 2 ^ k * (2 ^ (32 - k) - 1) := by
    rw [Nat.mul_sub, ← Nat.pow_add, show k + (32 - k) = 32 by omega, Nat.mul_one]
  have hr : x - x % 2 ^ k = 2 ^ k * (x / 2 ^ k) := by
    have := Nat.div_add_mod x (2 ^ k)
    omega
  rw [hr, show (4294967296 : Nat) = 2 ^ 32 from rfl, hs]
  apply Nat.eq_of_testBit_eq
  intro i
  rw [Nat.testBit_and, Nat.testBit_two_pow_mul, Nat.testBit_two_pow_mul, Nat.testBit_two_pow_sub_one, Nat.testBit_div_two_pow]
  by_cases hik : k ≤ i
  · rw [show i - k + k = i by omega]
    by_cases hi : i < 32
    · simp [hik, show i - k < 32 - k by omega]
    · have : x.testBit i = false := Nat.testBit_lt_two_pow (Nat.lt_of_lt_of_le hx (by
        have : 2 ^ 32 ≤ 2 ^ i := Nat.pow_le_pow_right (by decide) (by omega)
        simpa using this))
      simp [this]
  · simp [hik]

theorem and_mask (a n : Int) (h0 : 0 ≤ a) (h1 : a < 4294967296) (h2 : 0 ≤ n) (h3 : n ≤ 32) : bits .and .u32 a (4294967296 - sz n) = a - a % sz n := by
  obtain ⟨x, rfl⟩ := Int.eq_ofNat_of_zero_le h0
  obtain ⟨k, rfl⟩ := Int.eq_ofNat_of_zero_le h2
  have hk : k ≤ 32 := by omega
  have hp : 2 ^ (32 - k) ≤ 4294967296 := by
    have : 2 ^ (32 - k) ≤ 2 ^ 32 := Nat.pow_le_pow_right (by decide) (by omega)
    simpa using this
  have hpos : 0 < 2 ^ (32 - k) := Nat.two_pow_pos _
  have hm := Nat.mod_le x (2 ^ (32 - k))
  rw [sz_nat hk, show ((4294967296 : Int) - ((2 ^ (32 - k) : Nat) : Int)) = ((4294967296 - 2 ^ (32 - k) : Nat) : Int) by omega,
    u32_and_nat x _ (by omega) (by omega), and_low x (32 - k) (by omega) (by omega)]
  rw [show (((x - x % 2 ^ (32 - k) : Nat)) : Int) = (x : Int) - ((x % 2 ^ (32 - k) : Nat) : Int) by omega, Int.natCast_emod]

theorem and_one (x : Int) (h0 : 0 ≤ x) (h1 : x < 4294967296) : bits .and .u32 x 1 = x % 2 := by
  obtain ⟨k, rfl⟩ := Int.eq_ofNat_of_zero_le h0
  have := u32_and_nat k 1 (by omega) (by omega)
  rw [show ((1 : Nat) : Int) = 1 from rfl] at this
  rw [this, nat_mask1]
  omega

theorem netI_bd {a n : Int} (h0 : 0 ≤ a) (_h1 : a < 4294967296) : 0 ≤ netI a n ∧ netI a n ≤ a := by
  have hp := sz_pos (clampI n)
  unfold netI
  have := Int.emod_nonneg a (show sz (clampI n) ≠ 0 by omega)
  have h2 := Int.mul_ediv_add_emod a (sz (clampI n))
  have h3 : 0 ≤ a / sz (clampI n) := Int.ediv_nonneg h0 (by omega)
  have h4 : 0 ≤ sz (clampI n) * (a / sz (clampI n)) := Int.mul_nonneg (by omega) h3
  omega
theorem maskI_bd (n : Int) : 0 ≤ maskI n ∧ maskI n < 4294967296 := by
  have := clampI_bd n
  have h1 := sz_pos (clampI n)
  have h2 := sz_le this.1
  unfold maskI; omega

/-- is a prefix in its form? -/
def rightB (a n : Int) : Bool := netI a n == a && clampI n == n
theorem rightB_iff {a n : Int} : rightB a n = true ↔ 0 ≤ n ∧ n ≤ 32 ∧ a % sz n = 0 := by
  have hb := clampI_bd n
  simp only [rightB, netI, Bool.and_eq_true, beq_iff_eq]
  constructor
  · rintro ⟨h1, h2⟩
    rw [h2] at h1 hb
    exact ⟨hb.1, hb.2, by omega⟩
  · rintro ⟨h1, h2, h3⟩
    rw [clampI_in h1 h2]
    exact ⟨by omega, rfl⟩
/-- does an address lie in a prefix? -/
def hasB (a n x : Int) : Bool := netI x n == a && clampI n == n
theorem hasB_iff {a n x : Int} : hasB a n x = true ↔ 0 ≤ n ∧ n ≤ 32 ∧ a % sz n = 0 ∧ a / sz n = x / sz n := by
  have hb := clampI_bd n
  simp only [hasB, netI, Bool.and_eq_true, beq_iff_eq]
  have hp := sz_pos n
  have d := Int.mul_ediv_add_emod x (sz n)
  have d2 := Int.mul_ediv_add_emod a (sz n)
  constructor
  · rintro ⟨h1, h2⟩
    rw [h2] at h1 hb
    have e : a = sz n * (x / sz n) := by omega
    have e1 : a % sz n = 0 := by rw [e]; exact Int.mul_emod_right _ _
    refine ⟨hb.1, hb.2, e1, ?_⟩
    rw [e]
    exact Int.mul_ediv_cancel_left _ (by omega)
  · rintro ⟨h1, h2, h3, h4⟩
    rw [clampI_in h1 h2]
    refine ⟨?_, rfl⟩
    rw [h4, h3] at d2
    omega
/-- all of another one? -/
def coversB (a n b m : Int) : Bool := rightB b m && (decide (n ≤ m) && hasB a n b)
end Go.Proofs.Ytbfejmehbbieeaa.math1
