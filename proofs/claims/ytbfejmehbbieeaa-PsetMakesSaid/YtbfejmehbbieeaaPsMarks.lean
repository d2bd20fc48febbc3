import Derived.Test.YtbfejmehbbieeaaPsUniq
import Derived.Laws.BytesArg
import Derived.WideKeyArgs2
/- Plain mathematics of marks: bits of bytes, one for each of some; who has the same bytes has the same marks. -/
set_option linter.unusedVariables false
set_option linter.unusedSimpArgs false
namespace Go.Proofs.Ytbfejmehbbieeaa.psmarks
open Go.RowKit

/-- byte j behind the first i marks -/
def B (f : Nat → Bool) : Nat → Nat → Int
  | 0, _ => 0
  | i + 1, j => if j = i / 8 ∧ f i = true then B f i j + 2 ^ (i % 8) else B f i j
theorem pow_of {P : Nat → Prop} (h0 : P 0) (h1 : P 1) (h2 : P 2) (h3 : P 3) (h4 : P 4) (h5 : P 5) (h6 : P 6) (h7 : P 7) {r : Nat} (h : r < 8) : P r := by
  match r, h with
  | 0, _ => exact h0
  | 1, _ => exact h1
  | 2, _ => exact h2
  | 3, _ => exact h3
  | 4, _ => exact h4
  | 5, _ => exact h5
  | 6, _ => exact h6
  | 7, _ => exact h7
  | r + 8, h => omega
theorem B_bd (f : Nat → Bool) : ∀ i j, 0 ≤ B f i j ∧ B f i j < 256 ∧ (j = i / 8 → B f i j < 2 ^ (i % 8)) ∧ (i / 8 < j → B f i j = 0)
  | 0, j => by simp [B]
  | i + 1, j => by
    obtain ⟨h0, h1, h2, h3⟩ := B_bd f i j
    have hp : (0 : Int) < 2 ^ (i % 8) := Int.pow_pos (by decide)
    have h8 : i % 8 < 8 := by omega
    have hle : (2 : Int) ^ (i % 8) ≤ 128 := pow_of (P := fun r => (2 : Int) ^ r ≤ 128) (by decide) (by decide) (by decide) (by decide) (by decide) (by decide) (by decide) (by decide) h8
    by_cases hc : j = i / 8 ∧ f i = true
    · rw [B, if_pos hc]
      have g := h2 hc.1
      refine ⟨by omega, by omega, fun e => ?_, fun e => by omega⟩
      have : (i + 1) % 8 = i % 8 + 1 := by omega
      rw [this, Int.pow_succ]
      omega
    · rw [B, if_neg hc]
      refine ⟨h0, h1, fun e => ?_, fun e => h3 (by omega)⟩
      by_cases e2 : j = i / 8
      · have : (i + 1) % 8 = i % 8 + 1 := by omega
        rw [this, Int.pow_succ]
        have := h2 e2
        omega
      · rw [h3 (by omega)]
        exact Int.pow_pos (by decide)
theorem B_inj (f g : Nat → Bool) : ∀ i, (∀ j, j * 8 < i → B f i j = B g i j) → ∀ k, k < i → f k = g k
  | 0, _, k, hk => by omega
  | i + 1, h, k, hk => by
    have hp : (0 : Int) < 2 ^ (i % 8) := Int.pow_pos (by decide)
    obtain ⟨a0, _, a2, _⟩ := B_bd f i (i / 8)
    obtain ⟨b0, _, b2, _⟩ := B_bd g i (i / 8)
    have a3 := a2 rfl
    have b3 := b2 rfl
    have hi := h (i / 8) (by omega)
    rw [B, B] at hi
    simp only [true_and] at hi
    have hfg : f i = g i ∧ B f i (i / 8) = B g i (i / 8) := by
      cases hf : f i <;> cases hg : g i <;> rw [hf, hg] at hi <;> simp at hi
      · exact ⟨rfl, hi⟩
      · omega
      · omega
      · exact ⟨rfl, by omega⟩
    by_cases hk2 : k = i
    · rw [hk2]; exact hfg.1
    · refine B_inj f g i (fun j hj => ?_) k (by omega)
      by_cases ej : j = i / 8
      · rw [ej]; exact hfg.2
      · have := h j (by omega)
        rwa [B, B, if_neg (fun e => ej e.1), if_neg (fun e => ej e.1)] at this
theorem B_ext (f g : Nat → Bool) : ∀ i, (∀ k, k < i → f k = g k) → ∀ j, B f i j = B g i j
  | 0, _, j => rfl
  | i + 1, h, j => by
    rw [B, B, B_ext f g i (fun k hk => h k (by omega)) j, h i (by omega)]

theorem or_bit {x : Int} {r : Nat} (hr : r < 8) (h0 : 0 ≤ x) (h1 : x < 2 ^ r) : bits .or .u8 x (2 ^ r % 256) = x + 2 ^ r := by
  have h : ∀ r : Fin 8, ∀ x : Fin 128, (x : Nat) < 2 ^ (r : Nat) → bits .or .u8 ((x : Nat) : Int) (2 ^ (r : Nat) % 256) = ((x : Nat) : Int) + 2 ^ (r : Nat) := by decide +kernel
  obtain ⟨X, rfl⟩ := Int.eq_ofNat_of_zero_le h0
  have h2 : X < 2 ^ r := by exact_mod_cast h1
  have h3 : (2 : Nat) ^ r ≤ 128 := pow_of (P := fun r => (2 : Nat) ^ r ≤ 128) (by decide) (by decide) (by decide) (by decide) (by decide) (by decide) (by decide) (by decide) hr
  exact h ⟨r, hr⟩ ⟨X, by omega⟩ h2

/-- the bytes of n marks -/
def bytesOf (f : Nat → Bool) (n : Nat) : List Int := (List.range ((n + 7) / 8)).map (B f n)
theorem bytes_len (f : Nat → Bool) (n : Nat) : (bytesOf f n).length = (n + 7) / 8 := by simp [bytesOf]
theorem bytes_getD (f : Nat → Bool) (n j : Nat) (hj : j < (n + 7) / 8) : (bytesOf f n).getD j 0 = B f n j := by
  simp [bytesOf, List.getD, hj]
def keyOfMarks (f : Nat → Bool) (n : Nat) : ByteArray := strOfNums (bytesOf f n)
theorem key_inj {f g : Nat → Bool} {n : Nat} (h : (keyOfMarks f n).data.toList = (keyOfMarks g n).data.toList) : ∀ k, k < n → f k = g k := by
  apply B_inj
  intro j hj
  have hj' : j < (n + 7) / 8 := by omega
  unfold keyOfMarks at h
  rw [strOfNums_data, strOfNums_data] at h
  have e := congrArg (fun l => l[j]?) h
  simp only [bytesOf, List.map_map, List.getElem?_map, List.getElem?_range hj', Option.map_some, Option.some.injEq, Function.comp] at e
  obtain ⟨a0, a1, _⟩ := B_bd f n j
  obtain ⟨b0, b1, _⟩ := B_bd g n j
  have e2 := congrArg UInt8.toNat e
  simp only [UInt8.toNat_ofNat'] at e2
  omega
theorem key_ext {f g : Nat → Bool} {n : Nat} (h : ∀ k, k < n → f k = g k) : keyOfMarks f n = keyOfMarks g n := by
  unfold keyOfMarks bytesOf
  congr 1
  exact List.map_congr_left fun j _ => B_ext f g n h j
theorem key_size (f : Nat → Bool) (n : Nat) : (keyOfMarks f n).size = (n + 7) / 8 := by
  unfold keyOfMarks
  rw [strOfNums_size, bytes_len]
end Go.Proofs.Ytbfejmehbbieeaa.psmarks
