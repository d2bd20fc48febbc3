import Derived.Test.YtfealajbibofiaaMath3
/- Plain mathematics: bits of networks and of masks. -/
namespace Go.Proofs.Ytfealajbibofiaa.math1

theorem clamp_fix (n : Int) : clampI (clampI n) = clampI n := clampI_in (clampI_bd n).1 (clampI_bd n).2
theorem net_right (a n : Int) : rightB (netI a n) (clampI n) = true := by
  have hb := clampI_bd n
  refine rightB_iff.2 ⟨hb.1, hb.2, ?_⟩
  unfold netI
  have := Int.mul_ediv_add_emod a (sz (clampI n))
  rw [show a - a % sz (clampI n) = sz (clampI n) * (a / sz (clampI n)) by omega]
  exact Int.mul_emod_right _ _
theorem net_has (a n : Int) : hasB (netI a n) (clampI n) a = true := by
  unfold hasB netI
  rw [clamp_fix]
  simp

theorem net_bits {a n : Int} (h0 : 0 ≤ a) (h1 : a < 4294967296) : ∀ j : Nat, j < (clampI n).toNat → bitI (netI a n) j = bitI a j := by
  have hb := netI_bd (n := n) h0 h1
  exact (has_bits hb.1 (by omega) h0 h1 (net_right a n)).1 (net_has a n)

theorem nests {a n m : Int} (h0 : 0 ≤ a) (h1 : a < 4294967296) (h : clampI n ≤ clampI m) : coversB (netI a n) (clampI n) (netI a m) (clampI m) = true := by
  have hb := netI_bd (n := n) h0 h1
  have hb2 := netI_bd (n := m) h0 h1
  refine covers_true (net_right a m) h ((has_bits hb.1 (by omega) hb2.1 (by omega) (net_right a n)).2 fun j hj => ?_)
  rw [net_bits h0 h1 j hj, net_bits h0 h1 j (by omega)]

/-- an address lies in another one's prefix just if so many bits are the same -/
theorem net_has_iff {a b : Int} {k : Nat} (h0 : 0 ≤ a) (h1 : a < 4294967296) (h2 : 0 ≤ b) (h3 : b < 4294967296) (hk : k ≤ 32) : hasB (netI a k) k b = true ↔ ∀ j : Nat, j < k → bitI a j = bitI b j := by
  have hb := netI_bd (n := (k : Int)) h0 h1
  have hc : clampI (k : Int) = k := clampI_in (by omega) (by omega)
  have hr := net_right a k
  have hn := net_bits (n := (k : Int)) h0 h1
  rw [hc] at hr hn
  have hh := has_bits hb.1 (by omega) h2 h3 hr
  rw [hh]
  constructor
  · intro h j hj
    rw [← hn j (by simpa using hj)]
    exact h j (by simpa using hj)
  · intro h j hj
    rw [hn j hj]
    exact h j (by simpa using hj)
theorem net_of_has {a b n : Int} (h : hasB (netI a n) n b = true) : netI b n = netI a n := by
  simp only [hasB, Bool.and_eq_true, beq_iff_eq] at h
  exact h.1

theorem mask_bit (n : Nat) (i : Nat) (hn : n ≤ 32) (hi : i < 32) : bitI (maskI (n : Int)) i = if i < n then 1 else 0 := by
  have h : ∀ (n : Fin 33) (i : Fin 32), bitI (maskI ((n : Nat) : Int)) (i : Nat) = if (i : Nat) < (n : Nat) then 1 else 0 := by decide +kernel
  exact h ⟨n, by omega⟩ ⟨i, hi⟩
end Go.Proofs.Ytfealajbibofiaa.math1
