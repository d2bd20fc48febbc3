import Derived.Test.YtfealajbibofiaaTrLong2
import Derived.Laws.BitsLemmas
/- Tries as the laws have them: what Put and Drop leave; the document's example (head). -/
set_option linter.unusedVariables false
set_option linter.unusedSimpArgs false
namespace Go.Proofs.Ytfealajbibofiaa.trhead
open Go.RowKit Go.Lib Go.Proofs.Ytfealajbibofiaa.math1 Go.Proofs.Ytfealajbibofiaa.trmath Go.Proofs.Ytfealajbibofiaa.trmem Go.Proofs.Ytfealajbibofiaa.trgraft Go.Proofs.Ytfealajbibofiaa.trunder Go.Proofs.Ytfealajbibofiaa.trput Go.Proofs.Ytfealajbibofiaa.trdrop Go.Proofs.Ytfealajbibofiaa.trlong

theorem mod_32 (n : Int) : bits .and .i64 n 31 = n % 32 := by
  have h127 : (BitVec.ofInt 64 31).toNat = 2 ^ 5 - 1 := by decide
  have key : (BitVec.ofInt 64 n &&& BitVec.ofInt 64 31).toNat = (n % ((2 ^ 64 : Nat) : Int)).toNat % 2 ^ 5 := by
    rw [BitVec.toNat_and, BitVec.toNat_ofInt, h127, Nat.and_two_pow_sub_one_eq_mod]
  show IntKind.i64.wrap ((BitVec.ofInt 64 n &&& BitVec.ofInt 64 31).toNat : Nat) = n % 32
  rw [key, IntKind.wrap_i64]
  omega

/-- a trie of one's own: all its blocks were made behind B -/
structure Mine (B : Nat) (w : World) (t : Nat) (T : Tr) (m c : Int) : Prop where
  tri : Tri w t T m c
  dep : T.Dep
  own : ∀ x, own t T x → B ≤ x
theorem Mine.below {B t : Nat} {w w' : World} {T : Tr} {m c : Int} (h : Mine B w t T m c) (k : Below w.heap.size w w') : Mine B w' t T m c := ⟨h.tri.below k, h.dep, h.own⟩
theorem mine_put {B t : Nat} {w w' : World} {T : Tr} {m c c' : Int} {π : List Bool} {v : Value} (h : Mine B w t T m c) (hB : B ≤ w.heap.size) (p : PutOk w w' t T m c' π v) :
    ∃ T', Mine B w' t T' m c' ∧ (∀ σ, T'.get σ = if σ = π then some v else T.get σ) ∧ Below B w w' ∧ Kept (trmem.own t T) w w' ∧ (∀ x, x ∈ T'.blocks → x ∈ T.blocks ∨ w.heap.size ≤ x) := by
  obtain ⟨T', h1, h2, h3, h4, h5⟩ := p
  exact ⟨T', ⟨h1, fun ρ hρ => (h5 ρ hρ).elim (h.dep ρ) id, fun x hx => by
    rcases hx with hx | hx
    · exact h.own x (.inl hx)
    · rcases h3 x hx with hx | hx
      · exact h.own x (.inr hx)
      · omega⟩, h2, h4.below hB (fun x hx ho => by have := h.own x ho; omega), h4, h3⟩
theorem mine_drop {B t : Nat} {w w' : World} {T : Tr} {m c c' : Int} {π : List Bool} (h : Mine B w t T m c) (hB : B ≤ w.heap.size) (p : DropOk w w' t T m c' π) :
    ∃ T', Mine B w' t T' m c' ∧ (∀ σ, T'.get σ = if σ = π then none else T.get σ) ∧ Below B w w' ∧ Kept (trmem.own t T) w w' ∧ (∀ x, x ∈ T'.blocks → x ∈ T.blocks) := by
  obtain ⟨T', h1, h2, h3, h4, h5⟩ := p
  exact ⟨T', ⟨h1, fun ρ hρ => h.dep ρ (h5 ρ hρ), fun x hx => by
    rcases hx with hx | hx
    · exact h.own x (.inl hx)
    · exact h.own x (.inr (h3 x hx))⟩, h2, h4.below hB (fun x hx ho => by have := h.own x ho; omega), h4, h3⟩

/-- what the longest is -/
theorem best_is {T : Tr} {a : Int} {i : Nat} (hi : i < 33) (hg : (T.get (path a i)).isSome = true) (hn : ∀ j, i < j → j < 33 → T.get (path a j) = none) : best T a = some i := by
  have key : ∀ k, i < k → k ≤ 33 → bestTo T a k = some i := by
    intro k hk hk2
    induction k with
    | zero => omega
    | succ k ih =>
      rw [bestTo]
      by_cases e : k = i
      · rw [e, if_pos hg]
      · rw [hn k (by omega) (by omega)]
        exact ih (by omega) (by omega)
  exact key 33 hi (Nat.le_refl _)
theorem best_none {T : Tr} {a : Int} (hn : ∀ j, j < 33 → T.get (path a j) = none) : best T a = none := by
  have key : ∀ k, k ≤ 33 → bestTo T a k = none := by
    intro k hk
    induction k with
    | zero => rfl
    | succ k ih => rw [bestTo, hn k (by omega)]; exact ih (by omega)
  exact key 33 (Nat.le_refl _)
theorem path_ne {a b : Int} {n m : Nat} (h : n ≠ m) : path a n ≠ path b m := fun e => h (path_eq e).1

theorem head_longest {T : Tr} (hg : ∀ σ, T.get σ = if σ = path 167837696 16 then some (.int .i64 2) else if σ = path 167772160 8 then some (.int .i64 1) else none) :
    longV T 167838211 = .tuple #[.agg #[.int .u32 167837696, .int .i64 16], .int .i64 2, .bool true] ∧ longV T 167903232 = .tuple #[.agg #[.int .u32 167772160, .int .i64 8], .int .i64 1, .bool true] := by
  have p1 : path 167838211 16 = path 167837696 16 := by kernel_rfl
  have p2 : path 167903232 8 = path 167772160 8 := by kernel_rfl
  have p3 : decide (path 167903232 16 = path 167837696 16) = false := by kernel_rfl
  have p3' := of_decide_eq_false p3
  have g1 : T.get (path 167838211 16) = some (.int .i64 2) := by rw [hg, if_pos p1]
  have g2 : T.get (path 167903232 8) = some (.int .i64 1) := by rw [hg, if_neg (path_ne (by decide)), if_pos p2]
  have b1 : best T 167838211 = some 16 := best_is (by decide) (by rw [g1]; rfl) (fun j h1 h2 => by rw [hg, if_neg (path_ne (by omega)), if_neg (path_ne (by omega))])
  have b2 : best T 167903232 = some 8 := best_is (by decide) (by rw [g2]; rfl) (fun j h1 h2 => by
    by_cases e : j = 16
    · subst e; rw [hg, if_neg p3', if_neg (path_ne (by omega))]
    · rw [hg, if_neg (path_ne (by omega)), if_neg (path_ne (by omega))])
  have n1 : netI 167838211 (16 : Nat) = 167837696 := by decide
  have n2 : netI 167903232 (8 : Nat) = 167772160 := by decide
  have n3 : clampI (16 : Nat) = 16 := by decide
  have n4 : clampI (8 : Nat) = 8 := by decide
  constructor
  · rw [longV, b1]; simp only [longO]; rw [g1, n1, n3]; rfl
  · rw [longV, b2]; simp only [longO]; rw [g2, n2, n4]; rfl

set_option maxRecDepth 100000 in
set_option maxHeartbeats 1000000 in
theorem head_true (w : World) : Calls Try.prog 8 #[] w fun e w' => e = .returned (.bool true) ∧ Below w.heap.size w w' := by
  have KN := Lib.hid (new_any 9 (by decide) (by decide) w)
  go_enter Try.func8, Try.ntmps8
  go_wp2_with fail
  refine KN.out.mono ?_
  rintro e w1 ⟨rfl, hT, hb⟩
  obtain ⟨t, ht⟩ : ∃ t, t = w.heap.size := ⟨_, rfl⟩
  have M1 := Lib.hid (show Mine w.heap.size w1 w.heap.size .nil 9 0 from ⟨hT, Tr.dep_nil, fun x hx => by rcases hx with rfl | hx; exact Nat.le_refl _; cases hx⟩)
  have B1 := Lib.hid hb
  clear hT hb
  have ba := ((Below.refl w1.heap.size w1).alloc (Nat.le_refl _) (.cells #[.int .u32 167772160, .int .i64 8] 30)).alloc (by simp) (.cells #[.int .u32 167837696, .int .i64 16] 30)
  obtain ⟨W2, hW2⟩ : ∃ W, W = (w1.alloc (.cells #[.int .u32 167772160, .int .i64 8] 30)).alloc (.cells #[.int .u32 167837696, .int .i64 16] 30) := ⟨_, rfl⟩
  have a0 : W2.cell? ⟨w1.heap.size, 0, none⟩ = some (.int .u32 167772160) := by rw [hW2]; exact aid.ca _ (aid.new2a _ _ _ _)
  have a1 : W2.cell? ⟨w1.heap.size, 1, none⟩ = some (.int .i64 8) := by rw [hW2]; exact aid.ca _ (aid.new2b _ _ _ _)
  have b0 : W2.cell? ⟨w1.heap.size + 1, 0, none⟩ = some (.int .u32 167837696) := by rw [hW2]; go_simp
  have b1 : W2.cell? ⟨w1.heap.size + 1, 1, none⟩ = some (.int .i64 16) := by rw [hW2]; go_simp
  rw [← hW2] at ba
  have M2 := M1.out.below ba
  have hs1 : w.heap.size < w1.heap.size := M1.out.tri.lt (.inl rfl)
  have hs2 : w1.heap.size + 2 ≤ W2.heap.size := by rw [hW2]; simp
  have BW2 := Lib.hid (aid.kb ba B1.out)
  have KP := Lib.hid (put_new w.heap.size .nil 9 0 167772160 1 8 W2 M2.tri (by decide) (by decide) (by decide) (by kernel_rfl) (Tr.get_nil _) (by decide) (by decide) (by decide))
  have HW2 := Lib.hid hW2
  have hA : ∀ x, own w.heap.size .nil x → x = w.heap.size := fun x hx => by rcases hx with h | h; exact h; cases h
  have A0 := Lib.hid a0
  have A1 := Lib.hid a1
  have N0 := Lib.hid b0
  have N1 := Lib.hid b1
  have HM2 := Lib.hid M2
  have HBA := Lib.hid ba
  clear hW2 a0 a1 b0 b1 M2 ba ht KN
  go_wp2_with fail
  rw [← HW2.out]
  refine KP.out.mono ?_
  rintro e w3 ⟨rfl, hp⟩
  obtain ⟨T1, m1', g1, b1, k1, n1⟩ := mine_put HM2.out BW2.out.size hp
  have m1 : Mine w.heap.size w3 w.heap.size T1 9 1 := m1'
  have no1 : ∀ x, w1.heap.size ≤ x → ¬ own w.heap.size .nil x := fun x hx h => by have := hA x h; omega
  have a0 := k1.cell A0.out (no1 _ (Nat.le_refl _))
  have a1 := k1.cell A1.out (no1 _ (Nat.le_refl _))
  have c0 := k1.cell N0.out (no1 _ (Nat.le_succ _))
  have c1 := k1.cell N1.out (no1 _ (Nat.le_succ _))
  have hs3 := k1.size
  have BW3 := Lib.hid (BW2.out.trans b1)
  have no2 : ∀ x, w1.heap.size ≤ x → x < w1.heap.size + 2 → ¬ own w.heap.size T1 x := fun x h1 h2 h => by
    rcases h with h | h
    · omega
    · rcases n1 x h with h | h
      · cases h
      · omega
  have KP2 := Lib.hid (put_new w.heap.size T1 9 1 167837696 2 16 w3 m1.tri (by decide) (by decide) (by decide) (by kernel_rfl) (by rw [g1, if_neg (path_ne (by decide))]; exact Tr.get_nil _) (by decide) (by decide) (by decide))
  have HM3 := Lib.hid m1
  have G1 := Lib.hid g1
  have NO2 := Lib.hid no2
  have AA0 := Lib.hid a0
  have AA1 := Lib.hid a1
  clear m1' hp b1 k1 n1 m1 g1 no1 no2 KP A0 A1 N0 N1 HM2 M1 a0 a1
  go_wp2_with fail
  refine KP2.out.mono ?_
  rintro e w4 ⟨rfl, hp⟩
  obtain ⟨T2, m2', g2, b2, k2, n2⟩ := mine_put HM3.out BW3.out.size hp
  have m2 : Mine w.heap.size w4 w.heap.size T2 9 2 := m2'
  have A0 := Lib.hid (k2.cell AA0.out (NO2.out w1.heap.size (Nat.le_refl _) (by omega)))
  have A1 := Lib.hid (k2.cell AA1.out (NO2.out w1.heap.size (Nat.le_refl _) (by omega)))
  have D0 := Lib.hid (k2.cell c0 (NO2.out (w1.heap.size + 1) (Nat.le_succ _) (by omega)))
  have D1 := Lib.hid (k2.cell c1 (NO2.out (w1.heap.size + 1) (Nat.le_succ _) (by omega)))
  have BW4 := Lib.hid (BW3.out.trans b2)
  obtain ⟨lv1, lv2⟩ := head_longest (T := T2) (fun σ => by rw [g2, G1.out, Tr.get_nil])
  have l1 := fun W (hb : Below w4.heap.size w4 W) => longest_any w.heap.size T2 9 2 167838211 W (m2.tri.below hb) m2.dep (by decide) (by decide)
  have l2 := fun W (hb : Below w4.heap.size w4 W) => longest_any w.heap.size T2 9 2 167903232 W (m2.tri.below hb) m2.dep (by decide) (by decide)
  rw [lv1] at l1
  rw [lv2] at l2
  have L1 := Lib.hid l1
  have L2 := Lib.hid l2
  have KL := Lib.hid (fun W (hb : Below w4.heap.size w4 W) => trput.len_any w.heap.size T2 9 2 W (m2.tri.below hb))
  have Q1 := ip1.eql_pfx 167837696 16 167837696 16
  have Q2 := ip1.eql_pfx 167772160 8 167772160 8
  clear m2' hp b2 k2 n2 m2 g2 lv1 lv2 l1 l2 c0 c1 G1 NO2 AA0 AA1 HM3 KP2 BW3
  go_wp2_with fail
  refine (L1.out _ (Below.refl _ _)).mono ?_
  rintro e w5 ⟨rfl, hb5⟩
  have y5 := aid.kb ((Below.refl w5.heap.size w5).alloc (Nat.le_refl _) (.cells #[.int .u32 167837696, .int .i64 16] 30)) hb5
  have P0 := Lib.hid (aid.new2a w5 (.int .u32 167837696) (.int .i64 16) 30)
  have P1 := Lib.hid (aid.new2b w5 (.int .u32 167837696) (.int .i64 16) 30)
  have Y5 := Lib.hid y5
  clear hb5 y5
  go_wp2_with fail
  refine (L2.out _ Y5.out).mono ?_
  rintro e w6 ⟨rfl, hb6⟩
  have y6 := (Below.refl w6.heap.size w6).alloc (Nat.le_refl _) (.cells #[.int .u32 167772160, .int .i64 8] 30)
  have y := aid.kb y6 hb6
  have p0 := aid.kc y P0.out
  have p1 := aid.kc y P1.out
  have Y6 := Lib.hid (aid.kb y Y5.out)
  have a0 := aid.kc Y6.out A0.out
  have a1 := aid.kc Y6.out A1.out
  have d0 := aid.kc Y6.out D0.out
  have d1 := aid.kc Y6.out D1.out
  have q0 := aid.new2a w6 (.int .u32 167772160) (.int .i64 8) 30
  have q1 := aid.new2b w6 (.int .u32 167772160) (.int .i64 8) 30
  have Y6' := Lib.hid (aid.kb Y6.out (show Below w4.heap.size w4 w4 from Below.refl _ _))
  clear hb6 y6 y
  go_wp2_with fail
  refine (KL.out _ Y6.out).mono ?_
  rintro e w7 ⟨rfl, hb7⟩
  have B7 := Lib.hid (aid.kb (aid.kb hb7 Y6.out) BW4.out)
  clear hb7
  go_wp2_with fail
  go_ret
  exact ⟨rfl, B7.out⟩
end Go.Proofs.Ytfealajbibofiaa.trhead
