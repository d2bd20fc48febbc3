import Derived.Test.YtpnbbaocdbopiaaPsMake2
import Derived.Laws.BitsLemmas
/- Of again, with the room of what it gives; the rows of PsetFull. -/
set_option linter.unusedVariables false
set_option linter.unusedSimpArgs false
namespace Go.Proofs.Ytpnbbaocdbopiaa.psfull
open Go.RowKit Go.Shelf Go.Lib Go.Sort Go.Proofs.Ytpnbbaocdbopiaa.math1 Go.Proofs.Ytpnbbaocdbopiaa.pscmp Go.Proofs.Ytpnbbaocdbopiaa.psfind Go.Proofs.Ytpnbbaocdbopiaa.pssort Go.Proofs.Ytpnbbaocdbopiaa.psuniq Go.Proofs.Ytpnbbaocdbopiaa.pscompact Go.Proofs.Ytpnbbaocdbopiaa.psof Go.Proofs.Ytpnbbaocdbopiaa.psask Go.Proofs.Ytpnbbaocdbopiaa.psgroup Go.Proofs.Ytpnbbaocdbopiaa.psmake

def rowTo : Nat → Array P2
  | 0 => #[]
  | k + 1 => (rowTo k).push ((k : Int) * 256, 24)
def dupTo (n : Nat) : Nat → Array P2
  | 0 => rowTo n
  | k + 1 => (dupTo n k).push ((k : Int) * 256, 24)
theorem row_size : ∀ k, (rowTo k).size = k
  | 0 => rfl
  | k + 1 => by rw [rowTo, Array.size_push, row_size k]
theorem dup_size (n : Nat) : ∀ k, (dupTo n k).size = n + k
  | 0 => row_size n
  | k + 1 => by rw [dupTo, Array.size_push, dup_size n k]; omega
theorem push_get (d : Array P2) (x : P2) (j : Nat) : j < d.size → (d.push x)[j]! = d[j]! := fun h => by
  rw [getElem!_pos (d.push x) j (by simp; omega), getElem!_pos d j h, Array.getElem_push_lt h]
theorem push_last (d : Array P2) (x : P2) : (d.push x)[d.size]! = x := by
  rw [getElem!_pos (d.push x) d.size (by simp)]; simp
theorem row_get : ∀ k j, j < k → (rowTo k)[j]! = ((j : Int) * 256, 24)
  | k + 1, j, h => by
    rw [rowTo]
    by_cases e : j = k
    · have := push_last (rowTo k) ((k : Int) * 256, 24)
      rw [row_size] at this
      rw [e, this]
    · rw [push_get _ _ _ (by rw [row_size]; omega), row_get k j (by omega)]
theorem dup_get (n : Nat) : ∀ k j, j < n → (dupTo n k)[j]! = ((j : Int) * 256, 24)
  | 0, j, h => row_get n j h
  | k + 1, j, h => by rw [dupTo, push_get _ _ _ (by rw [dup_size]; omega), dup_get n k j h]
theorem dup_all (n : Nat) : ∀ k, k ≤ n → ∀ j, j < n + k → ∃ i, i < n ∧ (dupTo n k)[j]! = ((i : Int) * 256, 24)
  | 0, _, j, h => ⟨j, h, row_get n j h⟩
  | k + 1, hk, j, h => by
    by_cases e : j = n + k
    · refine ⟨k, by omega, ?_⟩
      have := push_last (dupTo n k) ((k : Int) * 256, 24)
      rw [dup_size] at this
      rw [dupTo, e, this]
    · obtain ⟨i, h1, h2⟩ := dup_all n k (by omega) j (by omega)
      exact ⟨i, h1, by rw [dupTo, push_get _ _ _ (by rw [dup_size]; omega), h2]⟩
theorem right24 (i : Nat) : rightB ((i : Int) * 256) 24 = true := by
  rw [rightB_iff]
  refine ⟨by decide, by decide, ?_⟩
  rw [show sz 24 = 256 by decide]
  omega
theorem dup_ok {n k : Nat} (hn : n ≤ 4111) (hk : k ≤ n) : AllOk (dupTo n k) ∧ AllU (dupTo n k) := by
  constructor
  · intro j hj
    rw [dup_size] at hj
    obtain ⟨i, _, e⟩ := dup_all n k hk j hj
    rw [e]; exact right24 i
  · intro j hj
    rw [dup_size] at hj
    obtain ⟨i, h1, e⟩ := dup_all n k hk j hj
    rw [e]
    exact ⟨show 0 ≤ (i : Int) * 256 by omega, show (i : Int) * 256 < 4294967296 by omega⟩
theorem row_strict (n : Nat) : Strict (rowTo n) := by
  intro i j hij hj
  rw [row_size] at hj
  rw [row_get n i (by omega), row_get n j hj, cf_neg]
  left
  show (i : Int) * 256 < (j : Int) * 256
  omega
theorem dup_mk {n k : Nat} (hk : k ≤ n) : mk (dupTo n k) = rowTo n := by
  refine strict_ext (mk_strict _) (row_strict n) (fun x => ?_)
  rw [mk_mem, mem_get, mem_get, dup_size, row_size]
  constructor
  · rintro ⟨j, hj, e⟩
    obtain ⟨i, h1, e2⟩ := dup_all n k hk j hj
    exact ⟨i, h1, by rw [row_get n i h1, ← e2, e]⟩
  · rintro ⟨j, hj, e⟩
    exact ⟨j, by omega, by rw [dup_get n k j hj, ← e, row_get n j hj]⟩
theorem mod_16 (n : Int) : bits .and .i64 n 15 = n % 16 := by
  have h127 : (BitVec.ofInt 64 15).toNat = 2 ^ 4 - 1 := by decide
  have key : (BitVec.ofInt 64 n &&& BitVec.ofInt 64 15).toNat = (n % ((2 ^ 64 : Nat) : Int)).toNat % 2 ^ 4 := by
    rw [BitVec.toNat_and, BitVec.toNat_ofInt, h127, Nat.and_two_pow_sub_one_eq_mod]
  show IntKind.i64.wrap ((BitVec.ofInt 64 n &&& BitVec.ofInt 64 15).toNat : Nat) = n % 16
  rw [key, IntKind.wrap_i64]
  omega
theorem mod_32 (n : Int) : bits .and .i64 n 31 = n % 32 := by
  have h127 : (BitVec.ofInt 64 31).toNat = 2 ^ 5 - 1 := by decide
  have key : (BitVec.ofInt 64 n &&& BitVec.ofInt 64 31).toNat = (n % ((2 ^ 64 : Nat) : Int)).toNat % 2 ^ 5 := by
    rw [BitVec.toNat_and, BitVec.toNat_ofInt, h127, Nat.and_two_pow_sub_one_eq_mod]
  show IntKind.i64.wrap ((BitVec.ofInt 64 n &&& BitVec.ofInt 64 31).toNat : Nat) = n % 32
  rw [key, IntKind.wrap_i64]
  omega
end Go.Proofs.Ytpnbbaocdbopiaa.psfull
