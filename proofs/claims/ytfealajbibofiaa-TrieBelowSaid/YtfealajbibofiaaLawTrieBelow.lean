/- TrieBelow: for any slice of prefixes, any prefix and any address the law answers true: what lies below a prefix is what it covers; the longest for any address lies below what covers it. No condition. -/
import Derived.Test.YtfealajbibofiaaTrBel2
import Derived.Test.YtfealajbibofiaaTrMap
import Derived.Test.YtfealajbibofiaaTrOpen
import Derived.Test.YtfealajbibofiaaMath4
import Derived.Test.YtfealajbibofiaaFrame
import Derived.Shelf.Abstract
set_option linter.unusedVariables false
set_option linter.unusedSimpArgs false
namespace Go.Proofs.Ytfealajbibofiaa.lawTrieBelow
open Go.ChangeShapes Go.WideShapes Go.ChangeAt Go.RowKit Go.Lib Go.Shelf Go.Proofs.Ytfealajbibofiaa.frame Go.Proofs.Ytfealajbibofiaa.math1 Go.Proofs.Ytfealajbibofiaa.psof Go.Proofs.Ytfealajbibofiaa.psopen Go.Proofs.Ytfealajbibofiaa.trmath Go.Proofs.Ytfealajbibofiaa.trmem Go.Proofs.Ytfealajbibofiaa.trgraft Go.Proofs.Ytfealajbibofiaa.trunder Go.Proofs.Ytfealajbibofiaa.trput Go.Proofs.Ytfealajbibofiaa.trdrop Go.Proofs.Ytfealajbibofiaa.trlong Go.Proofs.Ytfealajbibofiaa.trhead Go.Proofs.Ytfealajbibofiaa.trmap Go.Proofs.Ytfealajbibofiaa.trwalk Go.Proofs.Ytfealajbibofiaa.trent Go.Proofs.Ytfealajbibofiaa.trbel

/-- every value is the number of a prefix of the first k, at its path -/
def Vals (d : Array P2) (k : Nat) (T : Tr) : Prop := ∀ σ v, T.get σ = some v → ∃ z : Nat, z < k ∧ v = .int .i64 z ∧ rightB d[z]!.1 d[z]!.2 = true ∧ σ = path d[z]!.1 d[z]!.2.toNat
theorem vals_put {d : Array P2} {k : Nat} {T T' : Tr} (h : Vals d k T) (hg : ∀ σ, T'.get σ = if rightB d[k]!.1 d[k]!.2 = true ∧ σ = path d[k]!.1 d[k]!.2.toNat then some (.int .i64 k) else T.get σ) : Vals d (k + 1) T' := fun σ v hv => by
  rw [hg] at hv
  by_cases e : rightB d[k]!.1 d[k]!.2 = true ∧ σ = path d[k]!.1 d[k]!.2.toNat
  · rw [if_pos e] at hv
    exact ⟨k, Nat.lt_succ_self k, (Option.some.inj hv).symm, e.1, e.2⟩
  · rw [if_neg e] at hv
    obtain ⟨z, h1, h2⟩ := h σ v hv
    exact ⟨z, by omega, h2⟩
theorem vals_int {d : Array P2} {k : Nat} {T : Tr} (h : Vals d k T) (σ : List Bool) (v : Value) (hv : T.get σ = some v) : ∃ z : Int, v = .int .i64 z := by
  obtain ⟨z, _, e, _⟩ := h σ v hv
  exact ⟨z, e⟩

set_option maxRecDepth 100000 in
set_option maxHeartbeats 4000000 in
theorem walk (v0 : Value) (d : Array P2) (px pn a : Int) (w : World) (hd : RowOk w v0 d) (hpx : U32 px) (hpn : I64 pn) (ha : U32 a) : Calls Try.prog 6 #[v0, .agg #[.int .u32 px, .int .i64 pn], .int .u32 a] w fun e w' => e = .returned (.bool true) ∧ Below w.heap.size w w' := by
  obtain ⟨hR, hml, hval⟩ := hd
  obtain ⟨a1, c1, e1⟩ := psof.IsRow.shape hR
  obtain ⟨N, hN⟩ : ∃ N, N = d.size := ⟨_, rfl⟩
  have hNm : N ≤ 9223372036854775807 := by rw [hN]; exact hml
  rw [← hN] at e1
  subst e1
  have ba := (((Below.refl w.heap.size w).alloc (Nat.le_refl _) (.cells #[.slice a1 N c1] 55)).alloc (by simp) (.cells #[.int .u32 px, .int .i64 pn] 30)).alloc (by simp; omega) (.cells #[.int .u32 a] 28)
  obtain ⟨W0, hW0⟩ : ∃ W, W = ((w.alloc (.cells #[.slice a1 N c1] 55)).alloc (.cells #[.int .u32 px, .int .i64 pn] 30)).alloc (.cells #[.int .u32 a] 28) := ⟨_, rfl⟩
  rw [← hW0] at ba
  have s0 : W0.cell? ⟨w.heap.size, 0, none⟩ = some (.slice a1 N c1) := by rw [hW0]; exact aid.ca _ (aid.ca _ (by go_simp))
  have p0 : W0.cell? ⟨w.heap.size + 1, 0, none⟩ = some (.int .u32 px) := by rw [hW0]; exact aid.ca _ (by go_simp)
  have p1 : W0.cell? ⟨w.heap.size + 1, 1, none⟩ = some (.int .i64 pn) := by rw [hW0]; exact aid.ca _ (by go_simp)
  have a0 : W0.cell? ⟨w.heap.size + 2, 0, none⟩ = some (.int .u32 a) := by rw [hW0]; go_simp
  have HN := Lib.hid hN
  have HR := Lib.hid (hR.below ba)
  have HU := Lib.hid hval
  have HPX := Lib.hid hpx
  have HA := Lib.hid ha
  have HB := Lib.hid ba
  have S0 := Lib.hid s0
  have P0 := Lib.hid p0
  have P1 := Lib.hid p1
  have A0 := Lib.hid a0
  have HW0 := Lib.hid hW0
  have KH := Lib.hid trhead.head_true
  have KN := Lib.hid (fun W => trlong.new_any 100 (by decide) (by decide) W)
  clear hN hR hml hval ba hW0 s0 p0 p1 a0 hpx hpn ha
  go_enter Try.func6, Try.ntmps6
  go_wp2_with fail
  rw [← HW0.out]
  refine (KH.out _).mono ?_
  rintro e w1 ⟨rfl, hb⟩
  have B1 := Lib.hid hb
  have x0 := aid.kc hb S0.out
  clear hb
  by_cases hbig : 40 < N
  · have hbi : (40 : Int) < (N : Int) := by omega
    go_wp2_with fail
    go_ret
    exact ⟨rfl, aid.kb B1.out HB.out⟩
  have hbi : ¬ (40 : Int) < (N : Int) := by omega
  go_wp2_with fail
  refine (KN.out _).mono ?_
  rintro e w2 ⟨rfl, hT, hb⟩
  obtain ⟨t, ht⟩ : ∃ t, t = w1.heap.size := ⟨_, rfl⟩
  have ht1 : W0.heap.size ≤ t := by rw [ht]; exact B1.out.size
  rw [← ht] at hT ⊢
  have O2 := Lib.hid (show Own W0.heap.size w2 t .nil 100 0 from ⟨⟨hT, Tr.dep_nil, fun z hz => by rcases hz with rfl | hz; exact ht1; cases hz⟩, cnt_nil⟩)
  have B2 := Lib.hid (aid.kb hb B1.out)
  have x0 := aid.kc hb x0
  clear hT hb ht B1
  go_wp2_with fail
  go_loopw [24] (fun iv wr => ∃ (k : Nat) (T : Tr) (c : Int), k ≤ N ∧ iv = .int .i64 k ∧ c ≤ k ∧ Hid (Own W0.heap.size wr t T 100 c) ∧ Hid (Vals d k T) ∧ Hid (Below W0.heap.size W0 wr)) (fun iv _ => N - (intOf iv).toNat)
  case atStart => exact ⟨0, .nil, 0, by omega, rfl, by omega, O2, Lib.hid (fun σ v hv => by rw [Tr.get_nil] at hv; cases hv), B2⟩
  case round =>
    clear x0
    obtain ⟨k, T, c, hk, rfl, hck, OX, VX, Bl⟩ := hrel
    by_cases hlt : k < N
    · have x0 := aid.kc Bl.out S0.out
      have hkd : k < d.size := by rw [← HN.out]; exact hlt
      obtain ⟨b, o, rfl, c0, c1'⟩ := (HR.out.below Bl.out).at hkd
      have hu := HU.out k hkd
      have kp := put_all W0.heap.size t T 100 c d[k]!.1 d[k]!.2 k _ OX.out Bl.out.size hu.1.1 hu.1.2 (by omega) (by decide)
      have HV2 := Lib.hid (fun T' hg => vals_put (d := d) (k := k) (T := T) (T' := T') VX.out hg)
      obtain ⟨⟨x1, x2⟩, hxx⟩ : ∃ z, z = d[k]! := ⟨_, rfl⟩
      rw [← hxx] at c0 c1' kp HV2
      dsimp only at c0 c1' kp HV2
      obtain ⟨rv, hrv⟩ : ∃ rv, rv = (if rightB x1 x2 = true then (0 : Int) else 1) := ⟨_, rfl⟩
      rw [← hrv] at kp
      have KP := Lib.hid kp
      clear kp hrv hxx hu
      go_wp2_with fail
      refine KP.out.mono ?_
      rintro e w4 ⟨T', c', rfl, o1, hc', g1, b1, k1, n1⟩
      have OX1 := Lib.hid o1
      have VX1 := Lib.hid (HV2.out T' g1)
      have Bl1 := Lib.hid (Bl.out.trans b1)
      clear o1 g1 b1 k1 n1 KP c0 c1' x0 HV2
      go_wp2_with fail
      go_roundw
      case rel => exact ⟨k + 1, T', c', by omega, by go_num, by omega, OX1, VX1, Bl1⟩
      case measure => simp [intOf]; omega
    · have hk' : k = N := by omega
      subst hk'
      have hcl := cnt_len OX.out.cnt 0 0
      have hht := dep_height OX.out.mine.dep
      have hcN : c ≤ 40 := by omega
      -- the variables of the first closure
      obtain ⟨nb, hnb⟩ : ∃ nb, nb = wr.heap.size := ⟨_, rfl⟩
      obtain ⟨V2, hV2⟩ : ∃ V, V = (wr.alloc (.cells #[.int .i64 0] 3)).alloc (.cells #[.bool true] 4) := ⟨_, rfl⟩
      have b2 : Below wr.heap.size wr V2 := by rw [hV2]; exact ((Below.refl _ _).alloc (Nat.le_refl _) _).alloc (by simp) _
      have n0 : V2.cell? ⟨nb, 0, none⟩ = some (.int .i64 0) := by rw [hV2, hnb]; exact aid.ca _ (World.cell?_alloc_at _ _ _ _ rfl)
      have n1 : V2.frozen? ⟨nb, 0, none⟩ = false := by
        rw [hV2, hnb, World.frozen?_of_block (w := wr.alloc (.cells #[.int .i64 0] 3)) (Below.heap_alloc _ _ _ (by simp))]
        exact World.frozen?_alloc_at _ _ _ _ rfl
      have r0 : V2.cell? ⟨nb + 1, 0, none⟩ = some (.bool true) := by rw [hV2]; exact World.cell?_alloc_at _ _ _ _ (by rw [hnb]; simp)
      have r1 : V2.frozen? ⟨nb + 1, 0, none⟩ = false := by rw [hV2]; exact World.frozen?_alloc_at _ _ _ _ (by rw [hnb]; simp)
      have v2s : V2.heap.size = nb + 2 := by rw [hV2, hnb]; simp
      have pw0 := aid.kc Bl.out P0.out
      have pw1 := aid.kc Bl.out P1.out
      have aw0 := aid.kc Bl.out A0.out
      have sw0 := aid.kc Bl.out S0.out
      have rw0 := HR.out.below Bl.out
      have onr : ∀ q, own t T q → q < nb := fun q hq => by rw [hnb]; exact OX.out.mine.tri.lt hq
      have IA0 : InvA wr nb (nb + 1) 0 V2 := ⟨by rw [wr_small (by omega) (by omega)]; exact n0, n1, r0, r1, b2⟩
      obtain ⟨ca, hca⟩ : ∃ ca : Nat, ca = cov px pn (entries T 0 0) := ⟨_, rfl⟩
      have hcale : (ca : Int) ≤ 40 := by have := cov_le px pn (entries T 0 0); omega
      have kA : Calls Try.prog 18 #[.pointer (some ⟨t, 0, none⟩), .agg #[.int .u32 px, .int .i64 pn], .func (.func 29) #[] #[.pointer (some ⟨nb, 0, none⟩), .pointer (some ⟨nb + 1, 0, none⟩), .pointer (some ⟨w.heap.size + 1, 0, none⟩), .pointer (some ⟨w.heap.size, 0, none⟩)]] V2 fun e w' => e = .returned (.tuple #[]) ∧ InvA wr nb (nb + 1) ca w' ∧ Kept (fun q => q = nb ∨ q = nb + 1) V2 w' := by
        cases hr : rightB px pn
        · refine (trbel.below_bad _ _ t px pn V2 HPX.out.1 HPX.out.2 hr).mono ?_
          rintro e w' ⟨he, hb⟩
          have : (ca : Int) = 0 := by rw [hca, cov_bad hr]; rfl
          rw [this]
          exact ⟨he, invA_below _ _ _ _ _ _ IA0 hb, Kept.of_below hb⟩
        · obtain ⟨hn0, hn1, -⟩ := rightB_iff.1 hr
          obtain ⟨n', rfl⟩ : ∃ n' : Nat, pn = n' := ⟨pn.toNat, by omega⟩
          have hcs := cov_sub n' T 0 px 0 (by kernel_rfl) (by decide) (by decide) (by omega) (by omega) (by rw [Nat.zero_add]; exact hr) HPX.out.1 HPX.out.2 ⟨HPX.out.1, by have := HPX.out.2; rw [show ((0 : Nat) : Int) = 0 from rfl, sz_0]; omega⟩
          rw [Nat.zero_add, ← path_eq_F, show ((0 : Nat) : Int) = 0 from rfl] at hcs
          have hsh := sub_height (x := px) OX.out.mine.dep (show n' ≤ 32 by omega)
          have := trwalk.below_any 29 #[.pointer (some ⟨nb, 0, none⟩), .pointer (some ⟨nb + 1, 0, none⟩), .pointer (some ⟨w.heap.size + 1, 0, none⟩), .pointer (some ⟨w.heap.size, 0, none⟩)] (enters_of Try.func29 (by kernel_rfl) rfl) (InvA wr nb (nb + 1)) (fun q => q = nb ∨ q = nb + 1) stepA (OkA px n' k d) (invA_below wr nb (nb + 1))
            (fun s e W hok hI _ => call_A wr nb (nb + 1) (w.heap.size + 1) (w.heap.size) px n' a1 k c1 d s e W (by omega) (by omega) (by omega) pw0 pw1 sw0 rw0 HN.out (by omega) HPX.out hok hI)
            t T 100 c px n' V2 0 (OX.out.below b2).mine.tri hht (fun q hq h => by have := onr q hq; omega) (fun q hq => by omega) IA0 hr HPX.out.1 HPX.out.2 hsh (fun e he => by
              obtain ⟨y, j, e1, e2, e3, e4, e5, e6, σ, e7, e8⟩ := ent_spec _ px n' hr HPX.out.1 HPX.out.2 hsh e he
              rw [Tr.get_sub, ← e7] at e8
              obtain ⟨z, z1, z2, z3, z4⟩ := VX.out _ _ e8
              have hz3 := (rightB_iff.1 z3)
              have hzu := HU.out z (by rw [← HN.out]; exact z1)
              have hpi := pre_inj (m := d[z]!.2.toNat) e2 (by rw [Int.toNat_of_nonneg hz3.1]; exact z3) e3.1 e3.2 hzu.1.1 hzu.1.2 z4
              refine ⟨y, j, z, Prod.ext e1 z2, e3, (covers_iff hr e2).2 ⟨by omega, e6.1, e6.2⟩, z1, ?_⟩
              exact Prod.ext hpi.1.symm (by have := hpi.2; have h9 := Int.toNat_of_nonneg hz3.1; dsimp only; omega))
          refine this.mono ?_
          rintro e w' ⟨he, hi, hk⟩
          rw [run_A] at hi
          dsimp only at hi
          rw [← hcs, Int.zero_add, ← hca] at hi
          exact ⟨he, hi, hk⟩
      have KA := Lib.hid kA
      have HCA := Lib.hid hca
      have BL := Lib.hid Bl.out
      have BW := Lib.hid (show w.heap.size ≤ wr.heap.size from (aid.kb Bl.out HB.out).size)
      have OV := Lib.hid (OX.out.below b2)
      have HV2 := Lib.hid hV2
      have HNB := Lib.hid hnb
      have BV := Lib.hid (show Below w.heap.size w V2 from aid.kb b2 (aid.kb Bl.out HB.out))
      have eP0 := aid.kc b2 pw0
      have eP1 := aid.kc b2 pw1
      rw [hV2] at eP0 eP1
      clear kA IA0 n0 n1 r0 r1 hV2 hnb v2s hca OX Bl b2
      go_wp2_with fail
      rw [← HV2.out, ← HNB.out]
      refine KA.out.mono ?_
      rintro e w5 ⟨rfl, hI, hk5⟩
      have onr2 : ∀ q, own t T q → ¬ (q = nb ∨ q = nb + 1) := fun q hq h => by have := onr q hq; omega
      have O5 := OV.out.kept hk5 onr2
      have B5 := Lib.hid (show Below w.heap.size w w5 from BV.out.trans (hk5.below BV.out.size (fun q hq e => by have := HNB.out; have := BW.out; omega)))
      have I5 := Lib.hid hI
      have pv0 := aid.kc hI.2.2.2.2 pw0
      have pv1 := aid.kc hI.2.2.2.2 pw1
      have av0 := aid.kc hI.2.2.2.2 aw0
      obtain ⟨mb, hmb⟩ : ∃ mb, mb = w5.heap.size := ⟨_, rfl⟩
      obtain ⟨V6, hV6⟩ : ∃ V, V = (w5.alloc (.cells #[.int .i64 0] 3)).alloc (.cells #[.int .i64 (-1)] 3) := ⟨_, rfl⟩
      have b6 : Below w5.heap.size w5 V6 := by rw [hV6]; exact ((Below.refl _ _).alloc (Nat.le_refl _) _).alloc (by simp) _
      have m0 : V6.cell? ⟨mb, 0, none⟩ = some (.int .i64 0) := by rw [hV6, hmb]; exact aid.ca _ (World.cell?_alloc_at _ _ _ _ rfl)
      have m1 : V6.frozen? ⟨mb, 0, none⟩ = false := by
        rw [hV6, hmb, World.frozen?_of_block (w := w5.alloc (.cells #[.int .i64 0] 3)) (Below.heap_alloc _ _ _ (by simp))]
        exact World.frozen?_alloc_at _ _ _ _ rfl
      have t0 : V6.cell? ⟨mb + 1, 0, none⟩ = some (.int .i64 (-1)) := by rw [hV6]; exact World.cell?_alloc_at _ _ _ _ (by rw [hmb]; simp)
      have t1 : V6.frozen? ⟨mb + 1, 0, none⟩ = false := by rw [hV6]; exact World.frozen?_alloc_at _ _ _ _ (by rw [hmb]; simp)
      have v6s : V6.heap.size = mb + 2 := by rw [hV6, hmb]; simp
      have on5 : ∀ q, own t T q → q < mb := fun q hq => by rw [hmb]; exact O5.mine.tri.lt hq
      have kB := trwalk.all_any 31 #[.pointer (some ⟨w.heap.size + 1, 0, none⟩), .pointer (some ⟨mb, 0, none⟩), .pointer (some ⟨w.heap.size + 2, 0, none⟩), .pointer (some ⟨mb + 1, 0, none⟩)] (enters_of Try.func31 (by kernel_rfl) rfl) (InvB w5 mb (mb + 1)) (fun q => q = mb ∨ q = mb + 1) (stepB px pn a) OkB (invB_below w5 mb (mb + 1))
        (fun s e W hok hI _ => call_B w5 mb (mb + 1) (w.heap.size + 1) (w.heap.size + 2) px pn a s e W (by omega) (by omega) (by omega) pv0 pv1 av0 HPX.out HA.out hok hI)
        t T 100 c V6 (0, -1) (O5.below b6).mine.tri hht (fun q hq h => by have := on5 q hq; omega) (fun q hq => by omega) ⟨by rw [wr_small (by omega) (by omega)]; exact m0, m1, t0, t1, b6⟩ (fun e he => by
          obtain ⟨y, j, e1, e2, e3, _⟩ := ent_spec T 0 0 (by kernel_rfl) (by decide) (by decide) (by omega) e he
          unfold OkB
          rw [e1]; exact e3)
      rw [run_B, best_fold hht HA.out.1 HA.out.2] at kB
      dsimp only at kB
      rw [← HCA.out, Int.zero_add] at kB
      have KB := Lib.hid kB
      have O6 := Lib.hid (O5.below b6)
      have B6 := Lib.hid (aid.kb b6 B5.out)
      have HV6 := Lib.hid hV6
      have HMB := Lib.hid hmb
      have HWM := Lib.hid (show w.heap.size ≤ mb by rw [hmb]; exact B5.out.size)
      obtain ⟨BO, hBO⟩ : ∃ o, o = best T a := ⟨_, rfl⟩
      have HBO := Lib.hid hBO
      have ON5 := Lib.hid on5
      have HCAL := Lib.hid hcale
      clear kB O5 hI hk5 pv0 pv1 av0 hmb hV6 b6 m0 m1 t0 t1 v6s on5 onr onr2 pw0 pw1 aw0 sw0 rw0 eP0 eP1 hBO KA BV OV
      go_wp2_with fail
      rw [← HV6.out, ← HMB.out]
      refine KB.out.mono ?_
      rintro e w7 ⟨rfl, hI7, hk7⟩
      obtain ⟨i0, i1, i2, i3, i4⟩ := hI7
      rw [wr_small (by have := HCAL.out; omega) (by have := HCAL.out; omega)] at i0
      rw [← HBO.out] at i2
      have j0 := aid.kc i4 I5.out.1
      rw [wr_small (by have := HCAL.out; omega) (by have := HCAL.out; omega)] at j0
      have j2 := aid.kc i4 I5.out.2.2.1
      have j3 := aid.kc i4 (aid.kc I5.out.2.2.2.2 (aid.kc BL.out A0.out))
      have O7 := O6.out.kept hk7 (fun q hq h => by have := ON5.out q hq; omega)
      have B7 := Lib.hid (B6.out.trans (hk7.below B6.out.size (fun q hq e => by have := HWM.out; omega)))
      have l7 := longest_any t T 100 c a w7 O7.mine.tri O7.mine.dep HA.out.1 HA.out.2
      rw [show longV T a = longO T a BO by rw [HBO.out]; rfl] at l7
      have hcc : ((ca : Int) == (ca : Int)) = true := by simp
      cases BO with
      | none =>
        simp only [longO] at l7
        simp only [bi] at i2
        have L7 := Lib.hid l7
        have J0 := Lib.hid j0
        have J2 := Lib.hid j2
        have I0 := Lib.hid i0
        have I2 := Lib.hid i2
        clear i1 i3 i4 l7 hk7 O7 KB
        go_wp2_with fail
        refine L7.out.mono ?_
        rintro e w8 ⟨rfl, hb8⟩
        have y8 := aid.kb ((Below.refl w8.heap.size w8).alloc (Nat.le_refl _) (.cells #[.int .u32 0, .int .i64 0] 30)) hb8
        have k0 := aid.kc y8 J0.out
        have k2 := aid.kc y8 J2.out
        have k3 := aid.kc y8 I0.out
        have k4 := aid.kc y8 I2.out
        have B8 := Lib.hid (aid.kb y8 B7.out)
        clear hb8 y8 i0 i2 j0 j2 j3
        go_wp2_with fail
        go_ret
        exact ⟨rfl, B8.out⟩
      | some i =>
        simp only [longO] at l7
        simp only [bi] at i2
        have hbl := bestTo_lt T a 33 i (show best T a = some i from HBO.out.symm)
        have hcl32 : clampI (i : Int) = i := clampI_in (by omega) (by omega)
        rw [hcl32] at l7
        have hnh := net_has a i
        rw [hcl32] at hnh
        have hnb' := netI_bd (n := (i : Int)) HA.out.1 HA.out.2
        have kh := fun W => ip1.has_any (netI a i) i a W hnb'.1 (by have := HA.out.2; omega) HA.out.1 HA.out.2
        rw [hnh] at kh
        obtain ⟨vv, hvv⟩ : ∃ v, v = (T.get (path a i)).getD (.int .i64 0) := ⟨_, rfl⟩
        rw [← hvv] at l7
        obtain ⟨nx, hnx⟩ : ∃ n, n = netI a i := ⟨_, rfl⟩
        rw [← hnx] at l7 kh
        have L7 := Lib.hid l7
        have KHA := Lib.hid kh
        have J0 := Lib.hid j0
        have J2 := Lib.hid j2
        have J3 := Lib.hid j3
        have I0 := Lib.hid i0
        have I2 := Lib.hid i2
        have hi0 : (0 : Int) ≤ (i : Int) := by omega
        have hii : ((i : Int) == (i : Int)) = true := by simp
        clear i1 i3 i4 l7 hk7 O7 KB hvv hnx hnh hnb' hbl hcl32 kh
        go_wp2_with fail
        refine L7.out.mono ?_
        rintro e w8 ⟨rfl, hb8⟩
        have y8 := aid.kb ((Below.refl w8.heap.size w8).alloc (Nat.le_refl _) (.cells #[.int .u32 nx, .int .i64 i] 30)) hb8
        have k0 := aid.kc y8 J0.out
        have k2 := aid.kc y8 J2.out
        have k3 := aid.kc y8 I0.out
        have k4 := aid.kc y8 I2.out
        have k5 := aid.kc y8 J3.out
        have q0 := aid.new2a w8 (.int .u32 nx) (.int .i64 i) 30
        have q1 := aid.new2b w8 (.int .u32 nx) (.int .i64 i) 30
        have B8 := Lib.hid (aid.kb y8 B7.out)
        clear hb8 y8 i0 i2 j0 j2 j3
        go_wp2_with fail
        refine (KHA.out _).mono ?_
        rintro e w9 ⟨rfl, hb9⟩
        have B9 := Lib.hid (aid.kb hb9 B8.out)
        clear hb9
        go_wp2_with fail
        go_ret
        exact ⟨rfl, B9.out⟩

set_option maxRecDepth 100000 in
theorem lifted (os : Os) (started : os.Started) (H : Type) (enc : TypeId × Value → H) :
    ReturnsInHanded {} Try.checked os 6 .any (Rows.trieBelowSpec.pre6 enc Try.prog Try.f6 Rows.trieBelowRow.domain false) (Rows.trieBelowSpec.post enc Try.prog Try.f6 false true false false) := by
  refine returnsInHanded_of_change (C := Try.checked) own started (by kernel_rfl) Try.func6
    (ChangeSpec.witness6 (enc := enc) (C := Try.checked) false ⟨#[], #[.slice none 0 0, .agg #[.int .u32 0, .int .i64 0], .int .u32 0], []⟩ 8 (by kernel_rfl) (by kernel_rfl) (by kernel_rfl) (by kernel_rfl)) ?_
  intro W base args ds gs before hval0 hW hcnd _
  have hval : ∀ (j : Nat) t v, Try.f6.params[j]? = some t → args[j]? = some v → Value.okWide Try.prog W .any base t v := hval0
  obtain ⟨p, q, hA0, _⟩ := id hW
  have hA : DataW.TrodAll enc Try.prog W 0 (fun _ => true) true Try.f6.params.toList args.toList ds p := hA0
  rw [Try.params6] at hA hval
  obtain ⟨v0, vs0, d0, ds0, p0, q0, hargs, rfl, rfl, h0, r0⟩ := trodAll_cons hA
  obtain ⟨v1, vs1, d1, ds1, p1, q1, rfl, rfl, rfl, h1, r1⟩ := trodAll_cons r0
  obtain ⟨v2, vs2, d2, ds2, p2, q2, rfl, rfl, rfl, h2, r2⟩ := trodAll_cons r1
  obtain ⟨rfl, rfl, rfl⟩ := trodAll_nil r2
  obtain rfl : args = #[v0, v1, v2] := by cases args; simp_all
  obtain ⟨d, hd⟩ := psopen.open_row (hval 0 _ v0 rfl rfl) h0
  obtain ⟨px, pn, rfl, hpx, hpn⟩ := open_pfx (hval 1 _ v1 rfl rfl) h1
  obtain ⟨a, rfl, ha⟩ := open_u32 Try.underlying28 (hval 2 _ v2 rfl rfl) h2
  refine (walk v0 d px pn a W hd hpx hpn ha).mono fun e W' ⟨he, hb⟩ => ⟨_, he, ?_⟩
  exact law_post laidOut rfl (by kernel_rfl) Try.underlying4 (by kernel_rfl) (fun ds h => by match ds, h with | [_, _, _], _ => rfl) hW hb

theorem over : Rows.trieBelowRow.holds Try.pinned (OpenSpec.ofChange Rows.trieBelowSpec) :=
  OpenClaim.holds_of_wide 6 Try.f6 rfl rfl rfl rfl rfl rfl rfl ⟨rfl, rfl, rfl, rfl, rfl⟩ rfl rfl rfl rfl rfl (by kernel_rfl) Try.func6 (by kernel_rfl)
    (of_decide_eq_true (by kernel_rfl)) (by unfold Func.isWrapper; first | (rw [if_pos (by decide +kernel)]; kernel_rfl) | (rw [if_neg (by decide +kernel)]; exact ⟨rfl, rfl⟩))
    (fun os started H enc _ => lifted os started H enc)

theorem proved : Rows.TrieBelowSaid := over
end Go.Proofs.Ytfealajbibofiaa.lawTrieBelow
