/- TrieOrder: for any slice of prefixes and any address the law answers true: the order in which prefixes came is nothing to what is found; what went leaves nothing. No condition. -/
import Derived.Test.YtfealajbibofiaaTrMap
import Derived.Test.YtfealajbibofiaaTrWalk0
import Derived.Test.YtfealajbibofiaaTrOpen
import Derived.Test.YtfealajbibofiaaTail
import Derived.Test.YtfealajbibofiaaFrame
set_option linter.unusedVariables false
set_option linter.unusedSimpArgs false
namespace Go.Proofs.Ytfealajbibofiaa.lawTrieOrder
open Go.ChangeShapes Go.WideShapes Go.ChangeAt Go.RowKit Go.Lib Go.Proofs.Ytfealajbibofiaa.frame Go.Proofs.Ytfealajbibofiaa.math1 Go.Proofs.Ytfealajbibofiaa.psof Go.Proofs.Ytfealajbibofiaa.psopen Go.Proofs.Ytfealajbibofiaa.trmath Go.Proofs.Ytfealajbibofiaa.trmem Go.Proofs.Ytfealajbibofiaa.trgraft Go.Proofs.Ytfealajbibofiaa.trunder Go.Proofs.Ytfealajbibofiaa.trput Go.Proofs.Ytfealajbibofiaa.trdrop Go.Proofs.Ytfealajbibofiaa.trlong Go.Proofs.Ytfealajbibofiaa.trhead Go.Proofs.Ytfealajbibofiaa.trmap Go.Proofs.Ytfealajbibofiaa.trwalk

/-- the path of one of some prefixes in a range -/
def Key (d : Array P2) (lo hi : Nat) (σ : List Bool) : Prop := ∃ i, lo ≤ i ∧ i < hi ∧ rightB d[i]!.1 d[i]!.2 = true ∧ σ = path d[i]!.1 d[i]!.2.toNat
/-- at each of them its length stands, and nothing elsewhere -/
def Spec (P : List Bool → Prop) (T : Tr) : Prop := (∀ σ, P σ → T.get σ = some (.int .i64 σ.length)) ∧ (∀ σ, ¬ P σ → T.get σ = none)
theorem spec_put {P P' : List Bool → Prop} {T T' : Tr} {a n : Int} (h : Spec P T) (hg : ∀ σ, T'.get σ = if rightB a n = true ∧ σ = path a n.toNat then some (.int .i64 n) else T.get σ) (hP : ∀ σ, P' σ ↔ P σ ∨ (rightB a n = true ∧ σ = path a n.toNat)) : Spec P' T' := by
  constructor
  · intro σ hσ
    rw [hg]
    by_cases e : rightB a n = true ∧ σ = path a n.toNat
    · rw [if_pos e, e.2, path_len]
      have := (rightB_iff.1 e.1).1
      rw [Int.toNat_of_nonneg this]
    · rw [if_neg e]
      rcases (hP σ).1 hσ with h' | h'
      · exact h.1 σ h'
      · exact absurd h' e
  · intro σ hσ
    rw [hg, if_neg (fun e => hσ ((hP σ).2 (.inr e)))]
    exact h.2 σ (fun h' => hσ ((hP σ).2 (.inl h')))
theorem spec_drop {P P' : List Bool → Prop} {T T' : Tr} {a n : Int} (h : Spec P T) (hg : ∀ σ, T'.get σ = if rightB a n = true ∧ σ = path a n.toNat then none else T.get σ) (hP : ∀ σ, P' σ ↔ P σ ∧ ¬ (rightB a n = true ∧ σ = path a n.toNat)) : Spec P' T' := by
  constructor
  · intro σ hσ
    have := (hP σ).1 hσ
    rw [hg, if_neg this.2]; exact h.1 σ this.1
  · intro σ hσ
    rw [hg]
    by_cases e : rightB a n = true ∧ σ = path a n.toNat
    · rw [if_pos e]
    · rw [if_neg e]; exact h.2 σ (fun h' => hσ ((hP σ).2 ⟨h', e⟩))
theorem spec_ext {P : List Bool → Prop} {T T' : Tr} (h : Spec P T) (h' : Spec P T') (σ : List Bool) : T.get σ = T'.get σ := by
  by_cases e : P σ
  · rw [h.1 σ e, h'.1 σ e]
  · rw [h.2 σ e, h'.2 σ e]
theorem spec_int {P : List Bool → Prop} {T : Tr} (h : Spec P T) (σ : List Bool) (v : Value) (hv : T.get σ = some v) : ∃ z : Int, v = .int .i64 z := by
  by_cases e : P σ
  · rw [h.1 σ e] at hv; exact ⟨_, (Option.some.inj hv).symm⟩
  · rw [h.2 σ e] at hv; cases hv
theorem key_hi {d : Array P2} {lo k : Nat} (hk : lo ≤ k) (σ : List Bool) : Key d lo (k + 1) σ ↔ Key d lo k σ ∨ (rightB d[k]!.1 d[k]!.2 = true ∧ σ = path d[k]!.1 d[k]!.2.toNat) := by
  constructor
  · rintro ⟨i, h1, h2, h3, h4⟩
    by_cases e : i = k
    · subst e; exact .inr ⟨h3, h4⟩
    · exact .inl ⟨i, h1, by omega, h3, h4⟩
  · rintro (⟨i, h1, h2, h3, h4⟩ | ⟨h3, h4⟩)
    · exact ⟨i, h1, by omega, h3, h4⟩
    · exact ⟨k, hk, by omega, h3, h4⟩
theorem key_lo {d : Array P2} {k hi : Nat} (hk : k < hi) (σ : List Bool) : Key d k hi σ ↔ Key d (k + 1) hi σ ∨ (rightB d[k]!.1 d[k]!.2 = true ∧ σ = path d[k]!.1 d[k]!.2.toNat) := by
  constructor
  · rintro ⟨i, h1, h2, h3, h4⟩
    by_cases e : i = k
    · subst e; exact .inr ⟨h3, h4⟩
    · exact .inl ⟨i, by omega, h2, h3, h4⟩
  · rintro (⟨i, h1, h2, h3, h4⟩ | ⟨h3, h4⟩)
    · exact ⟨i, by omega, h2, h3, h4⟩
    · exact ⟨k, Nat.le_refl _, hk, h3, h4⟩
theorem key_no {d : Array P2} {k : Nat} (σ : List Bool) : ¬ Key d k k σ := fun ⟨i, h1, h2, _⟩ => by omega
theorem spec_nil {d : Array P2} {k : Nat} : Spec (Key d k k) .nil := ⟨fun σ h => absurd h (key_no σ), fun σ _ => Tr.get_nil σ⟩

set_option maxRecDepth 100000 in
set_option maxHeartbeats 2000000 in
theorem walk (v0 : Value) (d : Array P2) (a : Int) (w : World) (hd : RowOk w v0 d) (ha : U32 a) : Calls Try.prog 4 #[v0, .int .u32 a] w fun e w' => e = .returned (.bool true) ∧ Below w.heap.size w w' := by
  obtain ⟨hR, hml, hval⟩ := hd
  obtain ⟨a1, c1, e1⟩ := psof.IsRow.shape hR
  obtain ⟨N, hN⟩ : ∃ N, N = d.size := ⟨_, rfl⟩
  have hNm : N ≤ 9223372036854775807 := by rw [hN]; exact hml
  rw [← hN] at e1
  subst e1
  have HN := Lib.hid hN
  have HR := Lib.hid hR
  have HU := Lib.hid hval
  have HRB := Lib.hid (show ∀ b o k, a1 = some ⟨b, o, none⟩ → k < d.size → ∀ {p : P2}, p = d[k]! → w.cell? ⟨b, o + k * 2, none⟩ = some (.int .u32 p.1) ∧ w.cell? ⟨b, o + k * 2 + 1, none⟩ = some (.int .i64 p.2) from fun b o k hb hk p hp => by
    obtain ⟨b', o', e', h1, h2⟩ := hR.at hk
    rw [hb] at e'
    simp only [Option.some.injEq, Addr.mk.injEq] at e'
    rw [hp, e'.1, e'.2.1]
    exact ⟨h1, h2⟩)
  have HA := Lib.hid ha
  have KH := Lib.hid head_true
  have KN := Lib.hid (fun W => new_any 100 (by decide) (by decide) W)
  clear hN hR hml hval ha
  go_enter Try.func4, Try.ntmps4
  go_wp2_with fail
  refine (KH.out _).mono ?_
  rintro e w1 ⟨rfl, hb⟩
  have B1 := Lib.hid hb
  clear hb
  by_cases hbig : 60 < N
  · have hbi : (60 : Int) < (N : Int) := by omega
    go_wp2_with fail
    go_ret
    exact ⟨rfl, B1.out⟩
  have hbi : ¬ (60 : Int) < (N : Int) := by omega
  go_wp2_with fail
  refine (KN.out _).mono ?_
  rintro e w2 ⟨rfl, hT, hb⟩
  obtain ⟨x, hx⟩ : ∃ t, t = w1.heap.size := ⟨_, rfl⟩
  have hx1 : w.heap.size ≤ x := by rw [hx]; exact B1.out.size
  rw [← hx] at hT ⊢
  have O2 := Lib.hid (show Own w.heap.size w2 x .nil 100 0 from ⟨⟨hT, Tr.dep_nil, fun z hz => by rcases hz with rfl | hz; exact hx1; cases hz⟩, cnt_nil⟩)
  have B2 := Lib.hid (aid.kb hb B1.out)
  clear hT hb hx B1
  go_wp2_with fail
  refine (KN.out _).mono ?_
  rintro e w3 ⟨rfl, hT, hb⟩
  have hxw : x < w2.heap.size := O2.out.mine.tri.lt (.inl rfl)
  obtain ⟨y, hy⟩ : ∃ t, t = w2.heap.size := ⟨_, rfl⟩
  have hy1 : w.heap.size ≤ y := by omega
  have hxy : x ≠ y := by omega
  rw [← hy] at hT ⊢
  have O3 := Lib.hid (O2.out.below hb)
  have P3 := Lib.hid (show Own w.heap.size w3 y .nil 100 0 from ⟨⟨hT, Tr.dep_nil, fun z hz => by rcases hz with rfl | hz; exact hy1; cases hz⟩, cnt_nil⟩)
  have B3 := Lib.hid (aid.kb hb B2.out)
  clear hT hb hy O2 B2
  go_wp2_with fail
  go_loopw [29] (fun iv wr => ∃ (k : Nat) (T : Tr) (c : Int), k ≤ N ∧ iv = .int .i64 k ∧ c ≤ k ∧ Hid (Own w.heap.size wr x T 100 c) ∧ Hid (Spec (Key d 0 k) T) ∧ Hid (Own w.heap.size wr y .nil 100 0) ∧ Hid (¬ own x T y) ∧ Hid (Below w.heap.size w wr)) (fun iv _ => N - (intOf iv).toNat)
  case atStart => exact ⟨0, .nil, 0, by omega, rfl, by omega, O3, Lib.hid spec_nil, P3, Lib.hid (fun h => by rcases h with h | h; exact hxy h.symm; cases h), B3⟩
  case round =>
    obtain ⟨k, T, c, hk, rfl, hck, OX, SX, OY, AP, Bl⟩ := hrel
    by_cases hlt : k < N
    · have hkd : k < d.size := by rw [← HN.out]; exact hlt
      obtain ⟨b, o, rfl, c0, c1'⟩ := (HR.out.below Bl.out).at hkd
      have hu := HU.out k hkd
      obtain ⟨⟨x1, x2⟩, hxx⟩ : ∃ z, z = d[k]! := ⟨_, rfl⟩
      rw [← hxx] at c0 c1' hu
      dsimp only at c0 c1' hu
      have k0 := fun s : aid.Keep wr => aid.keep_cell c0 s
      have k1 := fun s : aid.Keep wr => aid.keep_cell c1' s
      have HXX := Lib.hid hxx
      have HUU := Lib.hid hu
      clear hxx hu c0 c1'
      go_wp2_with fail
      refine tail.wp_region_keep_tail 10 (by kernel_rfl) (by kernel_rfl) ?_
      simp only [List.take_succ_cons, List.take_zero, List.drop_succ_cons, List.drop_zero]
      repeat (go_big_quiet_step (fail))
      refine wpQuiet_nil ?_
      rintro _ ⟨s, rfl⟩
      have kp := put_all w.heap.size x T 100 c x1 x2 x2 s.world (OX.out.below s.below) (Nat.le_trans Bl.out.size s.below.size) HUU.out.1.1 HUU.out.1.2 (by omega) (by decide)
      obtain ⟨rv, hrv⟩ : ∃ rv, rv = (if rightB x1 x2 = true then (0 : Int) else 1) := ⟨_, rfl⟩
      rw [← hrv] at kp
      have KP := Lib.hid kp
      clear kp hrv k0 k1
      go_wp2_with fail
      refine KP.out.mono ?_
      rintro e w4 ⟨T', c', rfl, o1, hc', g1, b1, k1, n1⟩
      have OX1 := Lib.hid o1
      have SX1 := Lib.hid (show Spec (Key d 0 (k + 1)) T' from spec_put SX.out g1 (fun σ => by rw [key_hi (Nat.zero_le k), ← HXX.out]))
      have hyl : y < wr.heap.size := OY.out.mine.tri.lt (.inl rfl)
      have OY1 := Lib.hid ((OY.out.below s.below).kept k1 (fun z hz h => by
        rcases hz with hz | hz
        · exact AP.out (hz ▸ h)
        · cases hz))
      have AP1 := Lib.hid (show ¬ own x T' y from fun h => by
        rcases n1 y h with h | h
        · exact AP.out h
        · have := s.below.size; omega)
      have Bl1 := Lib.hid ((aid.kbk Bl.out s).trans b1)
      clear o1 g1 b1 k1 n1 hyl KP
      go_wp2_with fail
      go_roundw
      case rel => exact ⟨k + 1, T', c', by omega, by go_num, by omega, OX1, SX1, OY1, AP1, Bl1⟩
      case measure => simp [intOf]; omega
    · have hk' : k = N := by omega
      subst hk'
      go_wp2_with fail
      go_loopw [8] (fun iv wr => ∃ (m : Nat) (z : Int) (U : Tr) (cu : Int), m ≤ k ∧ iv = .int .i64 z ∧ Hid (z = (m : Int) - 1) ∧ cu + m ≤ k ∧ Hid (Own w.heap.size wr x T 100 c) ∧ Hid (Spec (Key d m k) U) ∧ Hid (Own w.heap.size wr y U 100 cu) ∧ Hid (∀ q, own y U q → ¬ own x T q) ∧ Hid (Below w.heap.size w wr)) (fun iv _ => (intOf iv + 1).toNat)
      case atStart => exact ⟨k, (k : Int) - 1, .nil, 0, Nat.le_refl _, by go_num, Lib.hid rfl, by omega, OX, Lib.hid spec_nil, OY, Lib.hid (fun q hq h => by
        rcases hq with hq | hq
        · exact AP.out (hq ▸ h)
        · cases hq), Bl⟩
      case round =>
        clear OX OY AP Bl
        obtain ⟨m, z, U, cu, hm, rfl, hz, hcu, OX, SU, OY, AP, Bl⟩ := hrel
        cases m with
        | succ j =>
          obtain rfl : z = (j : Int) := by have := hz.out; omega
          have hjd : j < d.size := by rw [← HN.out]; omega
          obtain ⟨b, o, rfl, c0, c1'⟩ := (HR.out.below Bl.out).at hjd
          have hu := HU.out j hjd
          obtain ⟨⟨x1, x2⟩, hxx⟩ : ∃ z, z = d[j]! := ⟨_, rfl⟩
          rw [← hxx] at c0 c1' hu
          dsimp only at c0 c1' hu
          have HXX := Lib.hid hxx
          have HUU := Lib.hid hu
          have C0 := Lib.hid (HR.out.below Bl.out)
          have kp := put_all w.heap.size y U 100 cu x1 x2 99 wr OY.out Bl.out.size HUU.out.1.1 HUU.out.1.2 (by omega) (by decide)
          obtain ⟨rv, hrv⟩ : ∃ rv, rv = (if rightB x1 x2 = true then (0 : Int) else 1) := ⟨_, rfl⟩
          rw [← hrv] at kp
          have KP := Lib.hid kp
          have hjk : j < k := by omega
          clear kp hxx hu hz hrv
          go_wp2_with fail
          refine KP.out.mono ?_
          rintro e w4 ⟨U1, cu1, rfl, o1, hc1, g1, b1, k1, n1⟩
          have d0 := k1.cell c0 (fun h => by
            have h2 := World.block_lt_of_cell? w ⟨b, o + j * 2, none⟩ (HRB.out b o j rfl hjd HXX.out).1
            have := OY.out.mine.own _ h
            dsimp only at h2 this
            omega)
          have d1 := k1.cell c1' (fun h => by
            have h2 := World.block_lt_of_cell? w ⟨b, o + j * 2, none⟩ (HRB.out b o j rfl hjd HXX.out).1
            have := OY.out.mine.own _ h
            dsimp only at h2 this
            omega)
          have OY1 := Lib.hid o1
          have G1 := Lib.hid g1
          have OX1 := Lib.hid (OX.out.kept k1 (fun q hq h => AP.out q h hq))
          have AP1 := Lib.hid (show ∀ q, own y U1 q → ¬ own x T q from fun q hq h => by
            rcases n1 q hq with h' | h'
            · exact AP.out q h' h
            · have := OX.out.mine.tri.lt h; omega)
          have Bl1 := Lib.hid (Bl.out.trans b1)
          have k0 := fun s : aid.Keep w4 => aid.keep_cell d0 s
          have k1' := fun s : aid.Keep w4 => aid.keep_cell d1 s
          clear o1 g1 b1 k1 n1 d0 d1 c0 c1' KP OX OY AP Bl C0
          go_wp2_with fail
          refine tail.wp_region_keep_tail 10 (by kernel_rfl) (by kernel_rfl) ?_
          simp only [List.take_succ_cons, List.take_zero, List.drop_succ_cons, List.drop_zero]
          repeat (go_big_quiet_step (fail))
          refine wpQuiet_nil ?_
          rintro _ ⟨s, rfl⟩
          have kp := put_all w.heap.size y U1 100 cu1 x1 x2 x2 s.world (OY1.out.below s.below) (Nat.le_trans Bl1.out.size s.below.size) HUU.out.1.1 HUU.out.1.2 (by omega) (by decide)
          obtain ⟨rv2, hrv2⟩ : ∃ rv, rv = (if rightB x1 x2 = true then (0 : Int) else 1) := ⟨_, rfl⟩
          rw [← hrv2] at kp
          have KP2 := Lib.hid kp
          clear kp hrv2 k0 k1'
          go_wp2_with fail
          refine KP2.out.mono ?_
          rintro e w5 ⟨U2, cu2, rfl, o2, hc2, g2, b2, k2, n2⟩
          have hcc : cu2 = cu1 := cnt_one o2.cnt OY1.out.cnt (fun σ => by
            rw [g2, G1.out]
            by_cases e : rightB x1 x2 = true ∧ σ = path x1 x2.toNat
            · rw [if_pos e, if_pos e]; simp
            · rw [if_neg e, if_neg e])
          have SU2 := Lib.hid (show Spec (Key d j k) U2 from spec_put SU.out (fun σ => by
            rw [g2, G1.out]
            by_cases e : rightB x1 x2 = true ∧ σ = path x1 x2.toNat
            · rw [if_pos e, if_pos e]
            · rw [if_neg e, if_neg e, if_neg e]) (fun σ => by rw [key_lo hjk, ← HXX.out]))
          have OY2 := Lib.hid o2
          have OX2 := Lib.hid ((OX1.out.below s.below).kept k2 (fun q hq h => AP1.out q h hq))
          have AP2 := Lib.hid (show ∀ q, own y U2 q → ¬ own x T q from fun q hq h => by
            rcases n2 q hq with h' | h'
            · exact AP1.out q h' h
            · have := (OX1.out.below s.below).mine.tri.lt h; omega)
          have Bl2 := Lib.hid ((aid.kbk Bl1.out s).trans b2)
          clear o2 g2 b2 k2 n2 KP2
          go_wp2_with fail
          go_roundw
          case rel => exact ⟨j, (j : Int) - 1, U2, cu2, by omega, by go_num, Lib.hid rfl, by omega, OX2, SU2, OY2, AP2, Bl2⟩
          case measure => simp [intOf]
        | zero =>
          obtain rfl : z = -1 := by have := hz.out; omega
          obtain ⟨p, q, z, bb, hl⟩ := long_shape (spec_int SX.out) a
          have hly : longV U a = longV T a := long_ext (fun σ => (spec_ext SX.out SU.out σ).symm) a
          rw [hl] at hly
          have hcc : cu = c := cnt_one OY.out.cnt OX.out.cnt (fun σ => by rw [spec_ext SX.out SU.out σ])
          subst hcc
          have l1 := longest_any x T 100 cu a wr OX.out.mine.tri OX.out.mine.dep HA.out.1 HA.out.2
          have l2 := fun W (hb : Below wr.heap.size wr W) => longest_any y U 100 cu a W (OY.out.mine.tri.below hb) OY.out.mine.dep HA.out.1 HA.out.2
          rw [hl] at l1
          rw [hly] at l2
          have L1 := Lib.hid l1
          have L2 := Lib.hid l2
          have KC1 := Lib.hid (fun W (hb : Below wr.heap.size wr W) => trput.len_any x T 100 cu W (OX.out.mine.tri.below hb))
          have KC2 := Lib.hid (fun W (hb : Below wr.heap.size wr W) => trput.len_any y U 100 cu W (OY.out.mine.tri.below hb))
          have Q0 := ip1.neq_pfx p q p q
          have hqq : (!(p == p && q == q)) = false := by simp
          rw [hqq] at Q0
          have hzz : (z != z) = false := by simp
          have hccc : (cu != cu) = false := by simp
          have HC := Lib.hid hcu
          clear hz hl hly l1 l2 hqq SU AP hcu
          go_wp2_with fail
          refine L1.out.mono ?_
          rintro e w5 ⟨rfl, hb5⟩
          have y5 := aid.kb ((Below.refl w5.heap.size w5).alloc (Nat.le_refl _) (.cells #[.int .u32 p, .int .i64 q] 30)) hb5
          have P0 := Lib.hid (aid.new2a w5 (.int .u32 p) (.int .i64 q) 30)
          have P1 := Lib.hid (aid.new2b w5 (.int .u32 p) (.int .i64 q) 30)
          have Y5 := Lib.hid y5
          clear hb5 y5
          go_wp2_with fail
          refine (L2.out _ Y5.out).mono ?_
          rintro e w6 ⟨rfl, hb6⟩
          have y6 := (Below.refl w6.heap.size w6).alloc (Nat.le_refl _) (.cells #[.int .u32 p, .int .i64 q] 30)
          have yy := aid.kb y6 hb6
          have p0 := aid.kc yy P0.out
          have p1 := aid.kc yy P1.out
          have q0 := aid.new2a w6 (.int .u32 p) (.int .i64 q) 30
          have q1 := aid.new2b w6 (.int .u32 p) (.int .i64 q) 30
          have Y6 := Lib.hid (aid.kb yy Y5.out)
          clear hb6 y6 yy
          cases bb
          all_goals
            go_wp2_with fail
            refine (KC1.out _ Y6.out).mono ?_
            rintro e w7 ⟨rfl, hb7⟩
            have Y7 := Lib.hid (aid.kb hb7 Y6.out)
            clear hb7
            go_wp2_with fail
            refine (KC2.out _ Y7.out).mono ?_
            rintro e w8 ⟨rfl, hb8⟩
            have Y8 := Lib.hid (aid.kb hb8 Y7.out)
            have B8 := Lib.hid (aid.kb Y8.out Bl.out)
            have O8 := Lib.hid (OX.out.below Y8.out)
            clear hb8
            go_wp2_with fail
            go_loopw [104] (fun iv wx => ∃ (i : Nat) (T2 : Tr) (c2 : Int), i ≤ k ∧ iv = .int .i64 i ∧ c2 ≤ cu ∧ Hid (Own w.heap.size wx x T2 100 c2) ∧ Hid (Spec (fun σ => Key d 0 k σ ∧ ¬ Key d 0 i σ) T2) ∧ Hid (Below w.heap.size w wx)) (fun iv _ => k - (intOf iv).toNat)
            case atStart => exact ⟨0, T, cu, by omega, rfl, by omega, O8, Lib.hid ⟨fun σ h => SX.out.1 σ h.1, fun σ h => SX.out.2 σ (fun h' => h ⟨h', key_no σ⟩)⟩, B8⟩
            case round =>
              obtain ⟨i, T2, c2, hi, rfl, hc2, O2, S2, Bx⟩ := hrel
              by_cases hlt2 : i < k
              · have hid : i < d.size := by rw [← HN.out]; exact hlt2
                obtain ⟨b, o, rfl, c0, c1'⟩ := (HR.out.below Bx.out).at hid
                have hu := HU.out i hid
                obtain ⟨⟨x1, x2⟩, hxx⟩ : ∃ z, z = d[i]! := ⟨_, rfl⟩
                rw [← hxx] at c0 c1' hu
                dsimp only at c0 c1' hu
                have HXX := Lib.hid hxx
                have HUU := Lib.hid hu
                have kd := drop_all w.heap.size x T2 100 c2 x1 x2 _ O2.out Bx.out.size HUU.out.1.1 HUU.out.1.2 (by have := HC.out; omega)
                obtain ⟨rv, hrv⟩ : ∃ rv, rv = (rightB x1 x2 && (T2.get (path x1 x2.toNat)).isSome) := ⟨_, rfl⟩
                rw [← hrv] at kd
                have KD := Lib.hid kd
                clear kd hrv hxx hu
                go_wp2_with fail
                refine KD.out.mono ?_
                rintro e w9 ⟨T3, c3, rfl, o3, hc3, g3, b3, -, -⟩
                have O3 := Lib.hid o3
                have S3 := Lib.hid (show Spec (fun σ => Key d 0 k σ ∧ ¬ Key d 0 (i + 1) σ) T3 from spec_drop S2.out g3 (fun σ => by
                  rw [key_hi (Nat.zero_le i), ← HXX.out]
                  constructor
                  · rintro ⟨h1, h2⟩; exact ⟨⟨h1, fun h => h2 (.inl h)⟩, fun h => h2 (.inr h)⟩
                  · rintro ⟨⟨h1, h2⟩, h3⟩; exact ⟨h1, fun h => h.elim h2 h3⟩))
                have B9 := Lib.hid (Bx.out.trans b3)
                clear o3 g3 b3 KD c0 c1'
                go_wp2_with fail
                go_roundw
                case rel => exact ⟨i + 1, T3, c3, by omega, by go_num, by omega, O3, S3, B9⟩
                case measure => simp [intOf]; omega
              · have hi' : i = k := by omega
                subst hi'
                have hnone : ∀ σ, T2.get σ = none := fun σ => S2.out.2 σ (fun h => h.2 h.1)
                have hcz := cnt_zero O2.out.cnt hnone
                subst hcz
                have hlz : longV T2 a = .tuple #[.agg #[.int .u32 0, .int .i64 0], .int .i64 0, .bool false] := by
                  rw [longV, best_none (fun j _ => hnone _)]; rfl
                have l3 := longest_any x T2 100 0 a _ O2.out.mine.tri O2.out.mine.dep HA.out.1 HA.out.2
                rw [hlz] at l3
                have L3 := Lib.hid l3
                have HNO := Lib.hid hnone
                clear hnone hlz l3
                go_wp2_with fail
                refine L3.out.mono ?_
                rintro e wa ⟨rfl, hba⟩
                have ya := (((Below.refl wa.heap.size wa).alloc (Nat.le_refl _) (.cells #[.int .u32 0, .int .i64 0] 30)).alloc (by simp) (.cells #[.int .i64 0] 3))
                have Ta := Lib.hid ((O2.out.below (aid.kb ya hba)).mine.tri)
                have Ba := Lib.hid (aid.kb (aid.kb ya hba) Bx.out)
                have n0 := show ((wa.alloc (.cells #[.int .u32 0, .int .i64 0] 30)).alloc (.cells #[.int .i64 0] 3)).cell? ⟨wa.heap.size + 1, 0, none⟩ = some (.int .i64 0) by go_simp
                have NN := Lib.hid n0
                have KA := Lib.hid (fun caps => all_none 25 caps x T2 100 0 _ Ta.out HNO.out)
                clear hba ya n0
                go_wp2_with fail
                refine (KA.out _).mono ?_
                rintro e wb ⟨rfl, hbb⟩
                have nb := aid.kc hbb NN.out
                have Bb := Lib.hid (aid.kb hbb Ba.out)
                have KZ := Lib.hid (trput.len_any x T2 100 0 wb (Ta.out.below hbb))
                clear hbb
                go_wp2_with fail
                refine KZ.out.mono ?_
                rintro e wc ⟨rfl, hbc⟩
                have Bc := Lib.hid (aid.kb hbc Bb.out)
                clear hbc
                go_wp2_with fail
                go_ret
                exact ⟨rfl, Bc.out⟩

set_option maxRecDepth 100000 in
theorem lifted (os : Os) (started : os.Started) (H : Type) (enc : TypeId × Value → H) :
    ReturnsInHanded {} Try.checked os 4 .any (Rows.trieOrderSpec.pre6 enc Try.prog Try.f4 Rows.trieOrderRow.domain false) (Rows.trieOrderSpec.post enc Try.prog Try.f4 false true false false) := by
  refine returnsInHanded_of_change (C := Try.checked) own started (by kernel_rfl) Try.func4
    (ChangeSpec.witness6 (enc := enc) (C := Try.checked) false ⟨#[], #[.slice none 0 0, .int .u32 0], []⟩ 8 (by kernel_rfl) (by kernel_rfl) (by kernel_rfl) (by kernel_rfl)) ?_
  intro W base args ds gs before hval0 hW hcnd _
  have hval : ∀ (j : Nat) t v, Try.f4.params[j]? = some t → args[j]? = some v → Value.okWide Try.prog W .any base t v := hval0
  obtain ⟨p, q, hA0, _⟩ := id hW
  have hA : DataW.TrodAll enc Try.prog W 0 (fun _ => true) true Try.f4.params.toList args.toList ds p := hA0
  rw [Try.params4] at hA hval
  obtain ⟨v0, vs0, d0, ds0, p0, q0, hargs, rfl, rfl, h0, r0⟩ := trodAll_cons hA
  obtain ⟨v1, vs1, d1, ds1, p1, q1, rfl, rfl, rfl, h1, r1⟩ := trodAll_cons r0
  obtain ⟨rfl, rfl, rfl⟩ := trodAll_nil r1
  obtain rfl : args = #[v0, v1] := by cases args; simp_all
  obtain ⟨d, hd⟩ := psopen.open_row (hval 0 _ v0 rfl rfl) h0
  obtain ⟨a, rfl, ha⟩ := open_u32 Try.underlying28 (hval 1 _ v1 rfl rfl) h1
  refine (walk v0 d a W hd ha).mono fun e W' ⟨he, hb⟩ => ⟨_, he, ?_⟩
  exact law_post laidOut rfl (by kernel_rfl) Try.underlying4 (by kernel_rfl) (fun ds h => by match ds, h with | [_, _], _ => rfl) hW hb

theorem over : Rows.trieOrderRow.holds Try.pinned (OpenSpec.ofChange Rows.trieOrderSpec) :=
  OpenClaim.holds_of_wide 4 Try.f4 rfl rfl rfl rfl rfl rfl rfl ⟨rfl, rfl, rfl, rfl, rfl⟩ rfl rfl rfl rfl rfl (by kernel_rfl) Try.func4 (by kernel_rfl)
    (of_decide_eq_true (by kernel_rfl)) (by unfold Func.isWrapper; first | (rw [if_pos (by decide +kernel)]; kernel_rfl) | (rw [if_neg (by decide +kernel)]; exact ⟨rfl, rfl⟩))
    (fun os started H enc _ => lifted os started H enc)

theorem proved : Rows.TrieOrderSaid := over
end Go.Proofs.Ytfealajbibofiaa.lawTrieOrder
