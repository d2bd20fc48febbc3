/- PsetOrders: for any three slices of prefixes the law answers true: one of any two sets is first, unless they are the same, and that is an order. No condition. -/
import Derived.Test.YtpnbbaocdbopiaaPsLex
import Derived.Test.YtpnbbaocdbopiaaPsMake2
import Derived.Test.YtpnbbaocdbopiaaPsHead2
import Derived.Test.YtpnbbaocdbopiaaPsOpen
import Derived.Test.YtpnbbaocdbopiaaPsHeld
import Derived.Test.YtpnbbaocdbopiaaFrame
set_option linter.unusedVariables false
set_option linter.unusedSimpArgs false
namespace Go.Proofs.Ytpnbbaocdbopiaa.lawPsetOrders
open Go.ChangeShapes Go.WideShapes Go.ChangeAt Go.RowKit Go.Joins Go.Deep Go.Shelf Go.Lib Go.Sort Go.Proofs.Ytpnbbaocdbopiaa.math1 Go.Proofs.Ytpnbbaocdbopiaa.frame Go.Proofs.Ytpnbbaocdbopiaa.pscmp Go.Proofs.Ytpnbbaocdbopiaa.psfind Go.Proofs.Ytpnbbaocdbopiaa.pssort Go.Proofs.Ytpnbbaocdbopiaa.psuniq Go.Proofs.Ytpnbbaocdbopiaa.pscompact Go.Proofs.Ytpnbbaocdbopiaa.psof Go.Proofs.Ytpnbbaocdbopiaa.psask Go.Proofs.Ytpnbbaocdbopiaa.psopen Go.Proofs.Ytpnbbaocdbopiaa.pshead Go.Proofs.Ytpnbbaocdbopiaa.psmake Go.Proofs.Ytpnbbaocdbopiaa.pscompare Go.Proofs.Ytpnbbaocdbopiaa.pslex

theorem okD_size (d : Array P2) (n : Nat) (h : d.size ≤ n) : (mk (okD d)).size ≤ n := by
  have := mk_size (okD d)
  have := okTo_size d d.size
  unfold okD at *
  omega

set_option maxRecDepth 100000 in
set_option maxHeartbeats 2000000 in
theorem walk (v0 : Value) (d : Array P2) (v1 : Value) (e : Array P2) (v2 : Value) (f : Array P2) (w : World) (hd : RowOk w v0 d) (he : RowOk w v1 e) (hf : RowOk w v2 f) :
    Calls Try.prog 5 #[v0, v1, v2] w fun e w' => e = .returned (.bool true) ∧ Below w.heap.size w w' := by
  obtain ⟨hR, hml, hval⟩ := hd
  obtain ⟨hR2, hml2, hval2⟩ := he
  obtain ⟨hR3, hml3, hval3⟩ := hf
  obtain ⟨a1, c1, e1⟩ := pssame.IsRow.shape hR
  obtain ⟨a2, c2, e2⟩ := pssame.IsRow.shape hR2
  obtain ⟨a3, c3, e3⟩ := pssame.IsRow.shape hR3
  obtain ⟨N, hN⟩ : ∃ N, N = d.size := ⟨_, rfl⟩
  obtain ⟨N2, hN2⟩ : ∃ N, N = e.size := ⟨_, rfl⟩
  obtain ⟨N3, hN3⟩ : ∃ N, N = f.size := ⟨_, rfl⟩
  have hNm : N ≤ 9223372036854775807 := by rw [hN]; exact hml
  have hNm2 : N2 ≤ 9223372036854775807 := by rw [hN2]; exact hml2
  have hNm3 : N3 ≤ 9223372036854775807 := by rw [hN3]; exact hml3
  rw [← hN] at e1
  rw [← hN2] at e2
  rw [← hN3] at e3
  subst e1 e2 e3
  have HN := Lib.hid hN
  have HN2 := Lib.hid hN2
  have HN3 := Lib.hid hN3
  have HR := Lib.hid hR
  have HR2 := Lib.hid hR2
  have HR3 := Lib.hid hR3
  have HU := Lib.hid (show AllU d from fun j hj => (hval j hj).1)
  have HU2 := Lib.hid (show AllU e from fun j hj => (hval2 j hj).1)
  have HU3 := Lib.hid (show AllU f from fun j hj => (hval3 j hj).1)
  have KH := Lib.hid head_true
  clear hN hN2 hN3 hR hR2 hR3 hml hml2 hml3 hval hval2 hval3
  go_enter Try.func5, Try.ntmps5
  go_wp2_with fail
  refine (KH.out _).mono ?_
  rintro e0 w1 ⟨rfl, hb⟩
  have B1 := Lib.hid hb
  clear hb
  by_cases hbig : 40 < N
  · have hbi : (40 : Int) < (N : Int) := by omega
    go_wp2_with fail
    go_ret
    exact ⟨rfl, B1.out⟩
  have hbi : ¬ (40 : Int) < (N : Int) := by omega
  by_cases hbig2 : 40 < N2
  · have hbi2 : (40 : Int) < (N2 : Int) := by omega
    go_wp2_with fail
    go_ret
    exact ⟨rfl, B1.out⟩
  have hbi2 : ¬ (40 : Int) < (N2 : Int) := by omega
  by_cases hbig3 : 40 < N3
  · have hbi3 : (40 : Int) < (N3 : Int) := by omega
    go_wp2_with fail
    go_ret
    exact ⟨rfl, B1.out⟩
  have hbi3 : ¬ (40 : Int) < (N3 : Int) := by omega
  have KM := Lib.hid (make2_any (.slice a1 N c1) (.slice a2 N2 c2) d e w1 (HR.out.below B1.out) (HR2.out.below B1.out) HU.out HU2.out (by rw [← HN.out]; omega) (by rw [← HN2.out]; omega))
  have hDs := okD_size d 40 (by rw [← HN.out]; omega)
  have hEs := okD_size e 40 (by rw [← HN2.out]; omega)
  have hFs := okD_size f 40 (by rw [← HN3.out]; omega)
  obtain ⟨D, hD⟩ : ∃ D, D = mk (okD d) := ⟨_, rfl⟩
  obtain ⟨E, hE⟩ : ∃ E, E = mk (okD e) := ⟨_, rfl⟩
  obtain ⟨F, hF⟩ : ∃ F, F = mk (okD f) := ⟨_, rfl⟩
  rw [← hD] at hDs
  rw [← hE] at hEs
  rw [← hF] at hFs
  rw [← hD, ← hE] at KM
  have HF := Lib.hid hF
  clear hD hE hF HU HU2 HR HR2 HN HN2 KH
  go_wp2_with fail
  refine KM.out.mono ?_
  rintro e0 w2 ⟨⟨s, t, rfl, hs, ht⟩, hb2⟩
  obtain ⟨sa, sn, sc, rfl⟩ : ∃ a n c, s = Value.slice a n c := by
    obtain ⟨a, c, h⟩ := pssame.IsRow.shape hs
    exact ⟨a, _, c, h⟩
  obtain ⟨ta, tn, tc, rfl⟩ : ∃ a n c, t = Value.slice a n c := by
    obtain ⟨a, c, h⟩ := pssame.IsRow.shape ht
    exact ⟨a, _, c, h⟩
  have bV : Below w2.heap.size w2 ((w2.alloc (.cells #[.slice sa sn sc] 29)).alloc (.cells #[.slice ta tn tc] 29)) := ((Below.refl _ _).alloc (Nat.le_refl _) _).alloc (by simp) _
  have bV1 := aid.kb bV hb2
  have RS2 := Lib.hid (hs.below bV)
  have RT2 := Lib.hid (ht.below bV)
  have CS2 := show ((w2.alloc (.cells #[.slice sa sn sc] 29)).alloc (.cells #[.slice ta tn tc] 29)).cell? ⟨w2.heap.size, 0, none⟩ = some (.slice sa sn sc) from aid.ca _ (by go_simp)
  have CT2 := show ((w2.alloc (.cells #[.slice sa sn sc] 29)).alloc (.cells #[.slice ta tn tc] 29)).cell? ⟨w2.heap.size + 1, 0, none⟩ = some (.slice ta tn tc) by go_simp
  have B2 := Lib.hid (aid.kb bV1 B1.out)
  have KM3 := Lib.hid (make2_any (.slice a3 N3 c3) (.slice none 0 0) f #[] _ (HR3.out.below B2.out) (.inl ⟨rfl, rfl⟩) HU3.out (fun j hj => absurd hj (Nat.not_lt_zero j)) (by rw [← HN3.out]; omega) (by decide))
  rw [← HF.out] at KM3
  clear bV bV1 hb2 hs ht B1 KM HN3 HU3 HR3 HF
  go_wp2_with fail
  refine KM3.out.mono ?_
  rintro e0 w3 ⟨⟨u, u', rfl, hu, hu'⟩, hb3⟩
  obtain ⟨ua, un, uc, rfl⟩ : ∃ a n c, u = Value.slice a n c := by
    obtain ⟨a, c, h⟩ := pssame.IsRow.shape hu
    exact ⟨a, _, c, h⟩
  obtain ⟨qa, qn, qc, rfl⟩ : ∃ a n c, u' = Value.slice a n c := by
    obtain ⟨a, c, h⟩ := pssame.IsRow.shape hu'
    exact ⟨a, _, c, h⟩
  have y3 : Below w3.heap.size w3 ((w3.alloc (.cells #[.slice ua un uc] 29)).alloc (.cells #[.slice qa qn qc] 29)) := ((Below.refl _ _).alloc (Nat.le_refl _) _).alloc (by simp) _
  have z3 := aid.kb y3 hb3
  have RS3 := RS2.out.below z3
  have RT3 := RT2.out.below z3
  have RU3 := hu.below y3
  have CS3 := aid.kc z3 CS2
  have CT3 := aid.kc z3 CT2
  have CU3 := show ((w3.alloc (.cells #[.slice ua un uc] 29)).alloc (.cells #[.slice qa qn qc] 29)).cell? ⟨w3.heap.size, 0, none⟩ = some (.slice ua un uc) from aid.ca _ (by go_simp)
  have B3 := Lib.hid (aid.kb z3 B2.out)
  obtain ⟨V, hV⟩ : ∃ V, V = (w3.alloc (.cells #[.slice ua un uc] 29)).alloc (.cells #[.slice qa qn qc] 29) := ⟨_, rfl⟩
  rw [← hV] at RS3 RT3 RU3 CS3 CT3 CU3 B3
  have HV := Lib.hid hV
  have kS := fun s : aid.Keep V => aid.keep_cell CS3 s
  have kT := fun s : aid.Keep V => aid.keep_cell CT3 s
  have kU := fun s : aid.Keep V => aid.keep_cell CU3 s
  have k1 := fun s : aid.Keep V => cmp_set (.slice sa sn sc) (.slice ta tn tc) D E s.world (RS3.below s.below) (RT3.below s.below) (by omega) (by omega)
  have k2 := fun s : aid.Keep V => cmp_set (.slice ta tn tc) (.slice sa sn sc) E D s.world (RT3.below s.below) (RS3.below s.below) (by omega) (by omega)
  have k3 := fun s : aid.Keep V => cmp_set (.slice ta tn tc) (.slice ua un uc) E F s.world (RT3.below s.below) (RU3.below s.below) (by omega) (by omega)
  have k4 := fun s : aid.Keep V => cmp_set (.slice sa sn sc) (.slice ua un uc) D F s.world (RS3.below s.below) (RU3.below s.below) (by omega) (by omega)
  have k5 := fun s : aid.Keep V => pssame.same_set (.slice sa sn sc) (.slice ta tn tc) D E s.world (RS3.below s.below) (RT3.below s.below) (by omega)
  have q5 : decide (D = E) = decide (cmpR D E = 0) := decide_eq_decide.2 (cmp_zero D E).symm
  rw [q5] at k5
  rw [cmp_back D E] at k2
  have v1 := cmp_val D E
  have v3 := cmp_val E F
  have v4 := cmp_val D F
  have tr : cmpR D E = -1 → cmpR E F = -1 → cmpR D F = -1 := fun h1 h2 => by
    have := cmp_trans (d := D) (e := E) (u := F) (by omega) (by omega)
    omega
  have HC1 : ∃ c1, c1 = cmpR D E := ⟨_, rfl⟩
  obtain ⟨c1, hc1⟩ := HC1
  obtain ⟨c3, hc3⟩ : ∃ c, c = cmpR E F := ⟨_, rfl⟩
  obtain ⟨c4, hc4⟩ : ∃ c, c = cmpR D F := ⟨_, rfl⟩
  have HL1 := Lib.hid hc1
  rw [← hc1] at k1 k2 k5 v1 tr
  rw [← hc3] at k3 v3 tr
  rw [← hc4] at k4 v4 tr
  have cases5 : (c1 = 0 ∨ c1 = 1) ∨ (c1 = -1 ∧ (c3 = 0 ∨ c3 = 1)) ∨ (c1 = -1 ∧ c3 = -1 ∧ c4 = -1) := by
    rcases v1 with h | h | h
    · rcases v3 with h3 | h3 | h3
      · exact .inr (.inr ⟨h, h3, tr h h3⟩)
      · exact .inr (.inl ⟨h, .inl h3⟩)
      · exact .inr (.inl ⟨h, .inr h3⟩)
    · exact .inl (.inl h)
    · exact .inl (.inr h)
  have RSV := Lib.hid RS3
  obtain ⟨nD, hnD⟩ : ∃ n, n = D.size := ⟨_, rfl⟩
  obtain ⟨nE, hnE⟩ : ∃ n, n = E.size := ⟨_, rfl⟩
  have HND := Lib.hid hnD
  have HNE := Lib.hid hnE
  rw [← hnD] at hDs
  rw [← hnE] at hEs
  clear hnD hnE
  have RTV := Lib.hid RT3
  have KTAIL : ∀ s : aid.Keep V, True := fun _ => trivial
  clear hc1 hc3 hc4 v1 v3 v4 tr q5 hV CS3 CT3 CU3 y3 z3 hb3 hu hu' RS2 RT2 CS2 CT2 B2 KM3 RS3 RT3 RU3 KTAIL
  rcases cases5 with (rfl | rfl) | ⟨rfl, (rfl | rfl)⟩ | ⟨rfl, rfl, rfl⟩
  · have K1 := Lib.hid k1
    have K2 := Lib.hid k2
    have K3 := Lib.hid k3
    have K4 := Lib.hid k4
    have K5 := Lib.hid k5
    simp only [Int.neg_zero, Int.neg_neg, decide_true, Int.reduceEq, decide_false] at K2 K5
    clear k1 k2 k3 k4 k5
    go_wp2_with fail
    rw [← HV.out]
    refine aid.wp_region_keep (by kernel_rfl) (by kernel_rfl) ?_
    repeat (go_big_quiet_step (first | (go_at_call 25; (first | (with_reducible exact aid.keep_call (K1.out _)) | (with_reducible exact aid.keep_call (K2.out _)))) | (go_at_call 24; (with_reducible exact aid.keep_call (K5.out _)))))
    refine wpQuiet_nil ?_
    rintro _ ⟨s4, rfl⟩
    have cS := kS s4
    have cT := kT s4
    go_wp2_with fail
    refine (K1.out s4).mono ?_
    rintro e0 w5 ⟨rfl, hb5⟩
    have b5 := aid.kb hb5 s4.below
    have cS := aid.kc hb5 cS
    have cT := aid.kc hb5 cT
    clear hb5
    have B5 := Lib.hid b5
    clear b5
    have KL1 := Lib.hid (fun W (hb : Below w5.heap.size w5 W) => list_any (.slice sa sn sc) D W (RSV.out.below (aid.kb hb B5.out)) (by rw [← HND.out]; omega))
    have KL2 := Lib.hid (fun W (hb : Below w5.heap.size w5 W) => list_any (.slice ta tn tc) E W (RTV.out.below (aid.kb hb B5.out)) (by rw [← HNE.out]; omega))
    go_wp2_with fail
    refine wp_region_noPanic ?_
    refine wp_region_held_drew (S := fun W => Below w5.heap.size w5 W) (by kernel_rfl) ((Below.refl _ _).drew) (fun hSx => ?_)
    change wpAnyH _ _ _ _ _ 6 _ _ _
    have hS0 : Below w5.heap.size w5 w5.drew := hSx
    clear hSx
    refine wpAnyH_take (i := 0) (v := .agg #[.slice sa sn sc]) rfl (by kernel_rfl) (by kernel_rfl) (by kernel_rfl) (fun _ _ _ h => h) (psheld.yields_set rfl (.tmp 7) rfl w2.heap.size 0 rfl _ (fun W h => aid.kc h cS)) hS0 ?_
    try simp only [Act.put, List.setIfInBounds_toArray, List.set_cons_zero, List.set_cons_succ]
    refine wpAnyH_take (i := 2) (v := .agg #[.slice ta tn tc]) rfl (by kernel_rfl) (by kernel_rfl) (by kernel_rfl) (fun _ _ _ h => h) (psheld.yields_set rfl (.tmp 8) rfl (w2.heap.size + 1) 0 rfl _ (fun W h => aid.kc h cT)) hS0 ?_
    try simp only [Act.put, List.setIfInBounds_toArray, List.set_cons_zero, List.set_cons_succ]
    refine wpAnyH_ready (rs := [1]) (by kernel_rfl) (by simp) ?_
    refine AllReadyH.cons rfl (fun K hK => ?_) AllReadyH.nil
    go_simp
    refine (KL1.out _ hS0).mono ?_
    rintro e0 w6 ⟨⟨l1, rfl, hl1⟩, hb6⟩
    have hS1 := aid.kb hb6 hS0
    go_wp2_with fail
    refine hK.out _ _ hS1 (fun _ => ?_)
    clear hK K
    try simp only [Act.put, List.setIfInBounds_toArray, List.set_cons_zero, List.set_cons_succ]
    refine wpAnyH_ready (rs := [3]) (by kernel_rfl) (by simp) ?_
    refine AllReadyH.cons rfl (fun K hK => ?_) AllReadyH.nil
    go_simp
    refine (KL2.out _ hS1).mono ?_
    rintro e0 w7 ⟨⟨l2, rfl, hl2⟩, hb7⟩
    have hS2 := aid.kb hb7 hS1
    go_wp2_with fail
    refine hK.out _ _ hS2 (fun _ => ?_)
    clear hK K
    try simp only [Act.put, List.setIfInBounds_toArray, List.set_cons_zero, List.set_cons_succ]
    refine wpAnyH_take (i := 4) (v := l1) rfl (by kernel_rfl) (by kernel_rfl) (by kernel_rfl) (fun _ _ _ h => h) (.inl ⟨rfl, fun _ _ => rfl⟩) hS2 ?_
    try simp only [Act.put, List.setIfInBounds_toArray, List.set_cons_zero, List.set_cons_succ]
    refine wpAnyH_take (i := 5) (v := l2) rfl (by kernel_rfl) (by kernel_rfl) (by kernel_rfl) (fun _ _ _ h => h) (.inl ⟨rfl, fun _ _ => rfl⟩) hS2 ?_
    try simp only [Act.put, List.setIfInBounds_toArray, List.set_cons_zero, List.set_cons_succ]
    refine wpAnyH_done (by kernel_rfl) ?_ _
    refine NoPanic.normal ?_
    have hl1 := hl1.below hb7
    obtain ⟨al, cl, hls⟩ := pssame.IsRow.shape hl1
    obtain ⟨am, cm, hms⟩ := pssame.IsRow.shape hl2
    rw [← HND.out] at hls
    rw [← HNE.out] at hms
    subst hls hms
    have H1 := Lib.hid hl1
    have H2 := Lib.hid hl2
    have B7 := Lib.hid (aid.kb hS2 B5.out)
    have cS := aid.kc hS2 cS
    have cT := aid.kc hS2 cT
    clear hl1 hl2 hb6 hb7 hS0 hS1 hS2 KL1 KL2
    go_wp2_with fail
    go_loopw [13] (fun iv wr => ∃ k : Nat, k ≤ nD ∧ k ≤ nE ∧ iv = .int .i64 k ∧ Hid (∀ j, j < k → D[j]! = E[j]!) ∧ Hid (Below w7.heap.size w7 wr)) (fun iv _ => nD - (intOf iv).toNat)
    case atStart => exact ⟨0, by omega, by omega, rfl, Lib.hid (fun j hj => absurd hj (Nat.not_lt_zero j)), Below.refl _ _⟩
    case round =>
      obtain ⟨k, hk, hk2, rfl, hsame, Bl⟩ := hrel
      have cS := aid.kc Bl.out cS
      have cT := aid.kc Bl.out cT
      by_cases hlt : k < nD
      · by_cases hlt2 : k < nE
        · have hkd : k < D.size := by rw [← HND.out]; exact hlt
          have hke : k < E.size := by rw [← HNE.out]; exact hlt2
          obtain ⟨b, o, rfl, RW⟩ : ∃ b o, al = some ⟨b, o, none⟩ ∧ Row w7 b o D := by
            rcases H1.out with ⟨_, e⟩ | ⟨b, o, cp, e, r, _⟩
            · rw [e] at hkd; exact absurd hkd (Nat.not_lt_zero _)
            · simp only [Value.slice.injEq] at e
              exact ⟨b, o, e.1, r⟩
          obtain ⟨b2, o2, rfl, RW2⟩ : ∃ b o, am = some ⟨b, o, none⟩ ∧ Row w7 b o E := by
            rcases H2.out with ⟨_, e⟩ | ⟨b, o, cp, e, r, _⟩
            · rw [e] at hke; exact absurd hke (Nat.not_lt_zero _)
            · simp only [Value.slice.injEq] at e
              exact ⟨b, o, e.1, r⟩
          have RR := RW.below Bl.out
          have RR2 := RW2.below Bl.out
          have k0 := fun s : aid.Keep wr => aid.keep_cell (RR k hkd).1 s
          have k1 := fun s : aid.Keep wr => aid.keep_cell (RR k hkd).2 s
          have k2 := fun s : aid.Keep wr => aid.keep_cell (RR2 k hke).1 s
          have k3 := fun s : aid.Keep wr => aid.keep_cell (RR2 k hke).2 s
          obtain ⟨⟨x1, x2⟩, hx⟩ : ∃ x, x = D[k]! := ⟨_, rfl⟩
          obtain ⟨⟨y1, y2⟩, hy⟩ : ∃ x, x = E[k]! := ⟨_, rfl⟩
          rw [← hx] at k0 k1
          rw [← hy] at k2 k3
          dsimp only at k0 k1 k2 k3
          have Q := pseq.neq_pfx x1 x2 y1 y2
          clear RR RR2 RW RW2
          cases hq : (x1 == y1 && x2 == y2)
          · rw [hq] at Q
            have hne : D[k]! ≠ E[k]! := by
              rw [← hx, ← hy]
              intro h
              simp only [Prod.mk.injEq] at h
              rw [h.1, h.2] at hq
              simp at hq
            have hcf := lex_first hkd hke hsame.out hne
            rw [← hx, ← hy, ← HL1.out] at hcf
            have KC := Lib.hid (fun W => cmp_below (x1, x2) (y1, y2) W)
            rw [← hcf] at KC
            have K1' := Lib.hid (fun s : aid.Keep wr => K1.out ⟨s.world, aid.kb s.below (aid.kb Bl.out B7.out)⟩)
            have cS' := fun s : aid.Keep wr => aid.keep_cell cS s
            have cT' := fun s : aid.Keep wr => aid.keep_cell cT s
            have B8 := Lib.hid (aid.kb (aid.kb Bl.out B7.out) B3.out)
            clear hq hx hy hne hcf
            go_wp2_with fail
            refine aid.wp_region_keep (by kernel_rfl) (by kernel_rfl) ?_
            repeat (go_big_quiet_step (fail))
            refine wpQuiet_nil ?_
            rintro _ ⟨s, rfl⟩
            have j0 := fun s2 : aid.Keep s.world => k0 ⟨s2.world, aid.kb s2.below s.below⟩
            have j1 := fun s2 : aid.Keep s.world => k1 ⟨s2.world, aid.kb s2.below s.below⟩
            have j2 := fun s2 : aid.Keep s.world => k2 ⟨s2.world, aid.kb s2.below s.below⟩
            have j3 := fun s2 : aid.Keep s.world => k3 ⟨s2.world, aid.kb s2.below s.below⟩
            have jS := fun s2 : aid.Keep s.world => cS' ⟨s2.world, aid.kb s2.below s.below⟩
            have jT := fun s2 : aid.Keep s.world => cT' ⟨s2.world, aid.kb s2.below s.below⟩
            have jc := fun s2 : aid.Keep s.world => K1'.out ⟨s2.world, aid.kb s2.below s.below⟩
            dsimp only at j0 j1 j2 j3 jS jT jc
            have J1 := Lib.hid jc
            have JC := Lib.hid (fun s2 : aid.Keep s.world => KC.out s2.world)
            have B9 := Lib.hid (aid.kbk B8.out s)
            clear k0 k1 k2 k3 cS' cT' jc
            go_wp2_with fail
            refine aid.wp_region_keep (by kernel_rfl) (by kernel_rfl) ?_
            repeat (go_big_quiet_step (first | (go_at_call 25; (with_reducible exact aid.keep_call (J1.out _))) | (go_at_call 26; (with_reducible exact aid.keep_call (JC.out _)))))
            refine wpQuiet_nil ?_
            rintro _ ⟨s2, rfl⟩
            go_wp2_with fail
            go_ret
            exact ⟨rfl, aid.kbk B9.out s2⟩
          · rw [hq] at Q
            have heq : D[k]! = E[k]! := by
              rw [← hx, ← hy]
              simp only [Bool.and_eq_true, beq_iff_eq] at hq
              rw [hq.1, hq.2]
            have HE := Lib.hid heq
            clear hq hx hy heq
            go_wp2_with fail
            refine aid.wp_region_keep (by kernel_rfl) (by kernel_rfl) ?_
            repeat (go_big_quiet_step (fail))
            refine wpQuiet_nil ?_
            rintro _ ⟨s, rfl⟩
            go_wp2_with fail
            go_roundw
            case rel => exact ⟨k + 1, by omega, by omega, by go_num, Lib.hid (fun j hj => by
              by_cases e : j = k
              · rw [e]; exact HE.out
              · exact hsame.out j (by omega)), aid.kbk Bl.out s⟩
            case measure => simp [intOf]; omega
        · have hno := decide_eq_decide.1 (lex_none (d := D) (e := E) (fun j h1 h2 => hsame.out j (by rw [← HND.out] at h1; rw [← HNE.out] at h2; omega)))
          rw [← HL1.out, ← HND.out, ← HNE.out] at hno
          first
            | (have hz : nD < nE := by omega)
            | (have hz : ¬ nD < nE := by omega)
          clear hno
          go_wp2_with fail
          refine (K1.out ⟨wr, aid.kb Bl.out B7.out⟩).mono ?_
          rintro e0 w8 ⟨rfl, hb8⟩
          dsimp only at hb8
          have B8 := Lib.hid (aid.kb (aid.kb hb8 (aid.kb Bl.out B7.out)) B3.out)
          clear hb8
          go_wp2_with fail
          go_ret
          first
            | exact ⟨rfl, B8.out⟩
            | exact ⟨congrArg (fun x => Ending.returned (Value.bool x)) (show (!decide (nD < nE)) = true by rw [decide_eq_false hz]; rfl), B8.out⟩
            | exact ⟨congrArg (fun x => Ending.returned (Value.bool x)) (show decide (nD < nE) = true from decide_eq_true hz), B8.out⟩
      · have hno := decide_eq_decide.1 (lex_none (d := D) (e := E) (fun j h1 h2 => hsame.out j (by rw [← HND.out] at h1; rw [← HNE.out] at h2; omega)))
        rw [← HL1.out, ← HND.out, ← HNE.out] at hno
        first
          | (have hz : nD < nE := by omega)
          | (have hz : ¬ nD < nE := by omega)
        clear hno
        go_wp2_with fail
        refine (K1.out ⟨wr, aid.kb Bl.out B7.out⟩).mono ?_
        rintro e0 w8 ⟨rfl, hb8⟩
        dsimp only at hb8
        have B8 := Lib.hid (aid.kb (aid.kb hb8 (aid.kb Bl.out B7.out)) B3.out)
        clear hb8
        go_wp2_with fail
        go_ret
        first
          | exact ⟨rfl, B8.out⟩
          | exact ⟨congrArg (fun x => Ending.returned (Value.bool x)) (show (!decide (nD < nE)) = true by rw [decide_eq_false hz]; rfl), B8.out⟩
          | exact ⟨congrArg (fun x => Ending.returned (Value.bool x)) (show decide (nD < nE) = true from decide_eq_true hz), B8.out⟩
  · have K1 := Lib.hid k1
    have K2 := Lib.hid k2
    have K3 := Lib.hid k3
    have K4 := Lib.hid k4
    have K5 := Lib.hid k5
    simp only [Int.neg_zero, Int.neg_neg, decide_true, Int.reduceEq, decide_false] at K2 K5
    clear k1 k2 k3 k4 k5
    go_wp2_with fail
    rw [← HV.out]
    refine aid.wp_region_keep (by kernel_rfl) (by kernel_rfl) ?_
    repeat (go_big_quiet_step (first | (go_at_call 25; (first | (with_reducible exact aid.keep_call (K1.out _)) | (with_reducible exact aid.keep_call (K2.out _)))) | (go_at_call 24; (with_reducible exact aid.keep_call (K5.out _)))))
    refine wpQuiet_nil ?_
    rintro _ ⟨s4, rfl⟩
    have cS := kS s4
    have cT := kT s4
    go_wp2_with fail
    refine (K1.out s4).mono ?_
    rintro e0 w5 ⟨rfl, hb5⟩
    have b5 := aid.kb hb5 s4.below
    have cS := aid.kc hb5 cS
    have cT := aid.kc hb5 cT
    clear hb5
    have B5 := Lib.hid b5
    clear b5
    have KL1 := Lib.hid (fun W (hb : Below w5.heap.size w5 W) => list_any (.slice sa sn sc) D W (RSV.out.below (aid.kb hb B5.out)) (by rw [← HND.out]; omega))
    have KL2 := Lib.hid (fun W (hb : Below w5.heap.size w5 W) => list_any (.slice ta tn tc) E W (RTV.out.below (aid.kb hb B5.out)) (by rw [← HNE.out]; omega))
    go_wp2_with fail
    refine wp_region_noPanic ?_
    refine wp_region_held_drew (S := fun W => Below w5.heap.size w5 W) (by kernel_rfl) ((Below.refl _ _).drew) (fun hSx => ?_)
    change wpAnyH _ _ _ _ _ 6 _ _ _
    have hS0 : Below w5.heap.size w5 w5.drew := hSx
    clear hSx
    refine wpAnyH_take (i := 0) (v := .agg #[.slice sa sn sc]) rfl (by kernel_rfl) (by kernel_rfl) (by kernel_rfl) (fun _ _ _ h => h) (psheld.yields_set rfl (.tmp 7) rfl w2.heap.size 0 rfl _ (fun W h => aid.kc h cS)) hS0 ?_
    try simp only [Act.put, List.setIfInBounds_toArray, List.set_cons_zero, List.set_cons_succ]
    refine wpAnyH_take (i := 2) (v := .agg #[.slice ta tn tc]) rfl (by kernel_rfl) (by kernel_rfl) (by kernel_rfl) (fun _ _ _ h => h) (psheld.yields_set rfl (.tmp 8) rfl (w2.heap.size + 1) 0 rfl _ (fun W h => aid.kc h cT)) hS0 ?_
    try simp only [Act.put, List.setIfInBounds_toArray, List.set_cons_zero, List.set_cons_succ]
    refine wpAnyH_ready (rs := [1]) (by kernel_rfl) (by simp) ?_
    refine AllReadyH.cons rfl (fun K hK => ?_) AllReadyH.nil
    go_simp
    refine (KL1.out _ hS0).mono ?_
    rintro e0 w6 ⟨⟨l1, rfl, hl1⟩, hb6⟩
    have hS1 := aid.kb hb6 hS0
    go_wp2_with fail
    refine hK.out _ _ hS1 (fun _ => ?_)
    clear hK K
    try simp only [Act.put, List.setIfInBounds_toArray, List.set_cons_zero, List.set_cons_succ]
    refine wpAnyH_ready (rs := [3]) (by kernel_rfl) (by simp) ?_
    refine AllReadyH.cons rfl (fun K hK => ?_) AllReadyH.nil
    go_simp
    refine (KL2.out _ hS1).mono ?_
    rintro e0 w7 ⟨⟨l2, rfl, hl2⟩, hb7⟩
    have hS2 := aid.kb hb7 hS1
    go_wp2_with fail
    refine hK.out _ _ hS2 (fun _ => ?_)
    clear hK K
    try simp only [Act.put, List.setIfInBounds_toArray, List.set_cons_zero, List.set_cons_succ]
    refine wpAnyH_take (i := 4) (v := l1) rfl (by kernel_rfl) (by kernel_rfl) (by kernel_rfl) (fun _ _ _ h => h) (.inl ⟨rfl, fun _ _ => rfl⟩) hS2 ?_
    try simp only [Act.put, List.setIfInBounds_toArray, List.set_cons_zero, List.set_cons_succ]
    refine wpAnyH_take (i := 5) (v := l2) rfl (by kernel_rfl) (by kernel_rfl) (by kernel_rfl) (fun _ _ _ h => h) (.inl ⟨rfl, fun _ _ => rfl⟩) hS2 ?_
    try simp only [Act.put, List.setIfInBounds_toArray, List.set_cons_zero, List.set_cons_succ]
    refine wpAnyH_done (by kernel_rfl) ?_ _
    refine NoPanic.normal ?_
    have hl1 := hl1.below hb7
    obtain ⟨al, cl, hls⟩ := pssame.IsRow.shape hl1
    obtain ⟨am, cm, hms⟩ := pssame.IsRow.shape hl2
    rw [← HND.out] at hls
    rw [← HNE.out] at hms
    subst hls hms
    have H1 := Lib.hid hl1
    have H2 := Lib.hid hl2
    have B7 := Lib.hid (aid.kb hS2 B5.out)
    have cS := aid.kc hS2 cS
    have cT := aid.kc hS2 cT
    clear hl1 hl2 hb6 hb7 hS0 hS1 hS2 KL1 KL2
    go_wp2_with fail
    go_loopw [13] (fun iv wr => ∃ k : Nat, k ≤ nD ∧ k ≤ nE ∧ iv = .int .i64 k ∧ Hid (∀ j, j < k → D[j]! = E[j]!) ∧ Hid (Below w7.heap.size w7 wr)) (fun iv _ => nD - (intOf iv).toNat)
    case atStart => exact ⟨0, by omega, by omega, rfl, Lib.hid (fun j hj => absurd hj (Nat.not_lt_zero j)), Below.refl _ _⟩
    case round =>
      obtain ⟨k, hk, hk2, rfl, hsame, Bl⟩ := hrel
      have cS := aid.kc Bl.out cS
      have cT := aid.kc Bl.out cT
      by_cases hlt : k < nD
      · by_cases hlt2 : k < nE
        · have hkd : k < D.size := by rw [← HND.out]; exact hlt
          have hke : k < E.size := by rw [← HNE.out]; exact hlt2
          obtain ⟨b, o, rfl, RW⟩ : ∃ b o, al = some ⟨b, o, none⟩ ∧ Row w7 b o D := by
            rcases H1.out with ⟨_, e⟩ | ⟨b, o, cp, e, r, _⟩
            · rw [e] at hkd; exact absurd hkd (Nat.not_lt_zero _)
            · simp only [Value.slice.injEq] at e
              exact ⟨b, o, e.1, r⟩
          obtain ⟨b2, o2, rfl, RW2⟩ : ∃ b o, am = some ⟨b, o, none⟩ ∧ Row w7 b o E := by
            rcases H2.out with ⟨_, e⟩ | ⟨b, o, cp, e, r, _⟩
            · rw [e] at hke; exact absurd hke (Nat.not_lt_zero _)
            · simp only [Value.slice.injEq] at e
              exact ⟨b, o, e.1, r⟩
          have RR := RW.below Bl.out
          have RR2 := RW2.below Bl.out
          have k0 := fun s : aid.Keep wr => aid.keep_cell (RR k hkd).1 s
          have k1 := fun s : aid.Keep wr => aid.keep_cell (RR k hkd).2 s
          have k2 := fun s : aid.Keep wr => aid.keep_cell (RR2 k hke).1 s
          have k3 := fun s : aid.Keep wr => aid.keep_cell (RR2 k hke).2 s
          obtain ⟨⟨x1, x2⟩, hx⟩ : ∃ x, x = D[k]! := ⟨_, rfl⟩
          obtain ⟨⟨y1, y2⟩, hy⟩ : ∃ x, x = E[k]! := ⟨_, rfl⟩
          rw [← hx] at k0 k1
          rw [← hy] at k2 k3
          dsimp only at k0 k1 k2 k3
          have Q := pseq.neq_pfx x1 x2 y1 y2
          clear RR RR2 RW RW2
          cases hq : (x1 == y1 && x2 == y2)
          · rw [hq] at Q
            have hne : D[k]! ≠ E[k]! := by
              rw [← hx, ← hy]
              intro h
              simp only [Prod.mk.injEq] at h
              rw [h.1, h.2] at hq
              simp at hq
            have hcf := lex_first hkd hke hsame.out hne
            rw [← hx, ← hy, ← HL1.out] at hcf
            have KC := Lib.hid (fun W => cmp_below (x1, x2) (y1, y2) W)
            rw [← hcf] at KC
            have K1' := Lib.hid (fun s : aid.Keep wr => K1.out ⟨s.world, aid.kb s.below (aid.kb Bl.out B7.out)⟩)
            have cS' := fun s : aid.Keep wr => aid.keep_cell cS s
            have cT' := fun s : aid.Keep wr => aid.keep_cell cT s
            have B8 := Lib.hid (aid.kb (aid.kb Bl.out B7.out) B3.out)
            clear hq hx hy hne hcf
            go_wp2_with fail
            refine aid.wp_region_keep (by kernel_rfl) (by kernel_rfl) ?_
            repeat (go_big_quiet_step (fail))
            refine wpQuiet_nil ?_
            rintro _ ⟨s, rfl⟩
            have j0 := fun s2 : aid.Keep s.world => k0 ⟨s2.world, aid.kb s2.below s.below⟩
            have j1 := fun s2 : aid.Keep s.world => k1 ⟨s2.world, aid.kb s2.below s.below⟩
            have j2 := fun s2 : aid.Keep s.world => k2 ⟨s2.world, aid.kb s2.below s.below⟩
            have j3 := fun s2 : aid.Keep s.world => k3 ⟨s2.world, aid.kb s2.below s.below⟩
            have jS := fun s2 : aid.Keep s.world => cS' ⟨s2.world, aid.kb s2.below s.below⟩
            have jT := fun s2 : aid.Keep s.world => cT' ⟨s2.world, aid.kb s2.below s.below⟩
            have jc := fun s2 : aid.Keep s.world => K1'.out ⟨s2.world, aid.kb s2.below s.below⟩
            dsimp only at j0 j1 j2 j3 jS jT jc
            have J1 := Lib.hid jc
            have JC := Lib.hid (fun s2 : aid.Keep s.world => KC.out s2.world)
            have B9 := Lib.hid (aid.kbk B8.out s)
            clear k0 k1 k2 k3 cS' cT' jc
            go_wp2_with fail
            refine aid.wp_region_keep (by kernel_rfl) (by kernel_rfl) ?_
            repeat (go_big_quiet_step (first | (go_at_call 25; (with_reducible exact aid.keep_call (J1.out _))) | (go_at_call 26; (with_reducible exact aid.keep_call (JC.out _)))))
            refine wpQuiet_nil ?_
            rintro _ ⟨s2, rfl⟩
            go_wp2_with fail
            go_ret
            exact ⟨rfl, aid.kbk B9.out s2⟩
          · rw [hq] at Q
            have heq : D[k]! = E[k]! := by
              rw [← hx, ← hy]
              simp only [Bool.and_eq_true, beq_iff_eq] at hq
              rw [hq.1, hq.2]
            have HE := Lib.hid heq
            clear hq hx hy heq
            go_wp2_with fail
            refine aid.wp_region_keep (by kernel_rfl) (by kernel_rfl) ?_
            repeat (go_big_quiet_step (fail))
            refine wpQuiet_nil ?_
            rintro _ ⟨s, rfl⟩
            go_wp2_with fail
            go_roundw
            case rel => exact ⟨k + 1, by omega, by omega, by go_num, Lib.hid (fun j hj => by
              by_cases e : j = k
              · rw [e]; exact HE.out
              · exact hsame.out j (by omega)), aid.kbk Bl.out s⟩
            case measure => simp [intOf]; omega
        · have hno := decide_eq_decide.1 (lex_none (d := D) (e := E) (fun j h1 h2 => hsame.out j (by rw [← HND.out] at h1; rw [← HNE.out] at h2; omega)))
          rw [← HL1.out, ← HND.out, ← HNE.out] at hno
          first
            | (have hz : nD < nE := by omega)
            | (have hz : ¬ nD < nE := by omega)
          clear hno
          go_wp2_with fail
          refine (K1.out ⟨wr, aid.kb Bl.out B7.out⟩).mono ?_
          rintro e0 w8 ⟨rfl, hb8⟩
          dsimp only at hb8
          have B8 := Lib.hid (aid.kb (aid.kb hb8 (aid.kb Bl.out B7.out)) B3.out)
          clear hb8
          go_wp2_with fail
          go_ret
          first
            | exact ⟨rfl, B8.out⟩
            | exact ⟨congrArg (fun x => Ending.returned (Value.bool x)) (show (!decide (nD < nE)) = true by rw [decide_eq_false hz]; rfl), B8.out⟩
            | exact ⟨congrArg (fun x => Ending.returned (Value.bool x)) (show decide (nD < nE) = true from decide_eq_true hz), B8.out⟩
      · have hno := decide_eq_decide.1 (lex_none (d := D) (e := E) (fun j h1 h2 => hsame.out j (by rw [← HND.out] at h1; rw [← HNE.out] at h2; omega)))
        rw [← HL1.out, ← HND.out, ← HNE.out] at hno
        first
          | (have hz : nD < nE := by omega)
          | (have hz : ¬ nD < nE := by omega)
        clear hno
        go_wp2_with fail
        refine (K1.out ⟨wr, aid.kb Bl.out B7.out⟩).mono ?_
        rintro e0 w8 ⟨rfl, hb8⟩
        dsimp only at hb8
        have B8 := Lib.hid (aid.kb (aid.kb hb8 (aid.kb Bl.out B7.out)) B3.out)
        clear hb8
        go_wp2_with fail
        go_ret
        first
          | exact ⟨rfl, B8.out⟩
          | exact ⟨congrArg (fun x => Ending.returned (Value.bool x)) (show (!decide (nD < nE)) = true by rw [decide_eq_false hz]; rfl), B8.out⟩
          | exact ⟨congrArg (fun x => Ending.returned (Value.bool x)) (show decide (nD < nE) = true from decide_eq_true hz), B8.out⟩
  · have K1 := Lib.hid k1
    have K2 := Lib.hid k2
    have K3 := Lib.hid k3
    have K4 := Lib.hid k4
    have K5 := Lib.hid k5
    simp only [Int.neg_zero, Int.neg_neg, decide_true, Int.reduceEq, decide_false] at K2 K5
    clear k1 k2 k3 k4 k5
    go_wp2_with fail
    rw [← HV.out]
    refine aid.wp_region_keep (by kernel_rfl) (by kernel_rfl) ?_
    repeat (go_big_quiet_step (first | (go_at_call 25; (first | (with_reducible exact aid.keep_call (K1.out _)) | (with_reducible exact aid.keep_call (K2.out _)))) | (go_at_call 24; (with_reducible exact aid.keep_call (K5.out _)))))
    refine wpQuiet_nil ?_
    rintro _ ⟨s4, rfl⟩
    have cS := kS s4
    have cT := kT s4
    go_wp2_with fail
    refine (K1.out s4).mono ?_
    rintro e0 w5 ⟨rfl, hb5⟩
    have b5 := aid.kb hb5 s4.below
    have cS := aid.kc hb5 cS
    have cT := aid.kc hb5 cT
    clear hb5
    have cU := kU ⟨w5, b5⟩
    dsimp only at cU
    have B5 := Lib.hid b5
    clear b5
    go_wp2_with fail
    refine (K3.out ⟨w5, B5.out⟩).mono ?_
    rintro e0 w5' ⟨rfl, hb5⟩
    dsimp only at hb5
    have b5 := aid.kb hb5 B5.out
    have cS := aid.kc hb5 cS
    have cT := aid.kc hb5 cT
    have cU := aid.kc hb5 cU
    clear hb5
    obtain ⟨w5, hw5⟩ : ∃ W, W = w5' := ⟨_, rfl⟩
    subst hw5
    have B5 := Lib.hid b5
    clear b5
    have KL1 := Lib.hid (fun W (hb : Below w5.heap.size w5 W) => list_any (.slice sa sn sc) D W (RSV.out.below (aid.kb hb B5.out)) (by rw [← HND.out]; omega))
    have KL2 := Lib.hid (fun W (hb : Below w5.heap.size w5 W) => list_any (.slice ta tn tc) E W (RTV.out.below (aid.kb hb B5.out)) (by rw [← HNE.out]; omega))
    go_wp2_with fail
    refine wp_region_noPanic ?_
    refine wp_region_held_drew (S := fun W => Below w5.heap.size w5 W) (by kernel_rfl) ((Below.refl _ _).drew) (fun hSx => ?_)
    change wpAnyH _ _ _ _ _ 6 _ _ _
    have hS0 : Below w5.heap.size w5 w5.drew := hSx
    clear hSx
    refine wpAnyH_take (i := 0) (v := .agg #[.slice sa sn sc]) rfl (by kernel_rfl) (by kernel_rfl) (by kernel_rfl) (fun _ _ _ h => h) (psheld.yields_set rfl (.tmp 7) rfl w2.heap.size 0 rfl _ (fun W h => aid.kc h cS)) hS0 ?_
    try simp only [Act.put, List.setIfInBounds_toArray, List.set_cons_zero, List.set_cons_succ]
    refine wpAnyH_take (i := 2) (v := .agg #[.slice ta tn tc]) rfl (by kernel_rfl) (by kernel_rfl) (by kernel_rfl) (fun _ _ _ h => h) (psheld.yields_set rfl (.tmp 8) rfl (w2.heap.size + 1) 0 rfl _ (fun W h => aid.kc h cT)) hS0 ?_
    try simp only [Act.put, List.setIfInBounds_toArray, List.set_cons_zero, List.set_cons_succ]
    refine wpAnyH_ready (rs := [1]) (by kernel_rfl) (by simp) ?_
    refine AllReadyH.cons rfl (fun K hK => ?_) AllReadyH.nil
    go_simp
    refine (KL1.out _ hS0).mono ?_
    rintro e0 w6 ⟨⟨l1, rfl, hl1⟩, hb6⟩
    have hS1 := aid.kb hb6 hS0
    go_wp2_with fail
    refine hK.out _ _ hS1 (fun _ => ?_)
    clear hK K
    try simp only [Act.put, List.setIfInBounds_toArray, List.set_cons_zero, List.set_cons_succ]
    refine wpAnyH_ready (rs := [3]) (by kernel_rfl) (by simp) ?_
    refine AllReadyH.cons rfl (fun K hK => ?_) AllReadyH.nil
    go_simp
    refine (KL2.out _ hS1).mono ?_
    rintro e0 w7 ⟨⟨l2, rfl, hl2⟩, hb7⟩
    have hS2 := aid.kb hb7 hS1
    go_wp2_with fail
    refine hK.out _ _ hS2 (fun _ => ?_)
    clear hK K
    try simp only [Act.put, List.setIfInBounds_toArray, List.set_cons_zero, List.set_cons_succ]
    refine wpAnyH_take (i := 4) (v := l1) rfl (by kernel_rfl) (by kernel_rfl) (by kernel_rfl) (fun _ _ _ h => h) (.inl ⟨rfl, fun _ _ => rfl⟩) hS2 ?_
    try simp only [Act.put, List.setIfInBounds_toArray, List.set_cons_zero, List.set_cons_succ]
    refine wpAnyH_take (i := 5) (v := l2) rfl (by kernel_rfl) (by kernel_rfl) (by kernel_rfl) (fun _ _ _ h => h) (.inl ⟨rfl, fun _ _ => rfl⟩) hS2 ?_
    try simp only [Act.put, List.setIfInBounds_toArray, List.set_cons_zero, List.set_cons_succ]
    refine wpAnyH_done (by kernel_rfl) ?_ _
    refine NoPanic.normal ?_
    have hl1 := hl1.below hb7
    obtain ⟨al, cl, hls⟩ := pssame.IsRow.shape hl1
    obtain ⟨am, cm, hms⟩ := pssame.IsRow.shape hl2
    rw [← HND.out] at hls
    rw [← HNE.out] at hms
    subst hls hms
    have H1 := Lib.hid hl1
    have H2 := Lib.hid hl2
    have B7 := Lib.hid (aid.kb hS2 B5.out)
    have cS := aid.kc hS2 cS
    have cT := aid.kc hS2 cT
    clear hl1 hl2 hb6 hb7 hS0 hS1 hS2 KL1 KL2
    go_wp2_with fail
    go_loopw [13] (fun iv wr => ∃ k : Nat, k ≤ nD ∧ k ≤ nE ∧ iv = .int .i64 k ∧ Hid (∀ j, j < k → D[j]! = E[j]!) ∧ Hid (Below w7.heap.size w7 wr)) (fun iv _ => nD - (intOf iv).toNat)
    case atStart => exact ⟨0, by omega, by omega, rfl, Lib.hid (fun j hj => absurd hj (Nat.not_lt_zero j)), Below.refl _ _⟩
    case round =>
      obtain ⟨k, hk, hk2, rfl, hsame, Bl⟩ := hrel
      have cS := aid.kc Bl.out cS
      have cT := aid.kc Bl.out cT
      by_cases hlt : k < nD
      · by_cases hlt2 : k < nE
        · have hkd : k < D.size := by rw [← HND.out]; exact hlt
          have hke : k < E.size := by rw [← HNE.out]; exact hlt2
          obtain ⟨b, o, rfl, RW⟩ : ∃ b o, al = some ⟨b, o, none⟩ ∧ Row w7 b o D := by
            rcases H1.out with ⟨_, e⟩ | ⟨b, o, cp, e, r, _⟩
            · rw [e] at hkd; exact absurd hkd (Nat.not_lt_zero _)
            · simp only [Value.slice.injEq] at e
              exact ⟨b, o, e.1, r⟩
          obtain ⟨b2, o2, rfl, RW2⟩ : ∃ b o, am = some ⟨b, o, none⟩ ∧ Row w7 b o E := by
            rcases H2.out with ⟨_, e⟩ | ⟨b, o, cp, e, r, _⟩
            · rw [e] at hke; exact absurd hke (Nat.not_lt_zero _)
            · simp only [Value.slice.injEq] at e
              exact ⟨b, o, e.1, r⟩
          have RR := RW.below Bl.out
          have RR2 := RW2.below Bl.out
          have k0 := fun s : aid.Keep wr => aid.keep_cell (RR k hkd).1 s
          have k1 := fun s : aid.Keep wr => aid.keep_cell (RR k hkd).2 s
          have k2 := fun s : aid.Keep wr => aid.keep_cell (RR2 k hke).1 s
          have k3 := fun s : aid.Keep wr => aid.keep_cell (RR2 k hke).2 s
          obtain ⟨⟨x1, x2⟩, hx⟩ : ∃ x, x = D[k]! := ⟨_, rfl⟩
          obtain ⟨⟨y1, y2⟩, hy⟩ : ∃ x, x = E[k]! := ⟨_, rfl⟩
          rw [← hx] at k0 k1
          rw [← hy] at k2 k3
          dsimp only at k0 k1 k2 k3
          have Q := pseq.neq_pfx x1 x2 y1 y2
          clear RR RR2 RW RW2
          cases hq : (x1 == y1 && x2 == y2)
          · rw [hq] at Q
            have hne : D[k]! ≠ E[k]! := by
              rw [← hx, ← hy]
              intro h
              simp only [Prod.mk.injEq] at h
              rw [h.1, h.2] at hq
              simp at hq
            have hcf := lex_first hkd hke hsame.out hne
            rw [← hx, ← hy, ← HL1.out] at hcf
            have KC := Lib.hid (fun W => cmp_below (x1, x2) (y1, y2) W)
            rw [← hcf] at KC
            have K1' := Lib.hid (fun s : aid.Keep wr => K1.out ⟨s.world, aid.kb s.below (aid.kb Bl.out B7.out)⟩)
            have cS' := fun s : aid.Keep wr => aid.keep_cell cS s
            have cT' := fun s : aid.Keep wr => aid.keep_cell cT s
            have B8 := Lib.hid (aid.kb (aid.kb Bl.out B7.out) B3.out)
            clear hq hx hy hne hcf
            go_wp2_with fail
            refine aid.wp_region_keep (by kernel_rfl) (by kernel_rfl) ?_
            repeat (go_big_quiet_step (fail))
            refine wpQuiet_nil ?_
            rintro _ ⟨s, rfl⟩
            have j0 := fun s2 : aid.Keep s.world => k0 ⟨s2.world, aid.kb s2.below s.below⟩
            have j1 := fun s2 : aid.Keep s.world => k1 ⟨s2.world, aid.kb s2.below s.below⟩
            have j2 := fun s2 : aid.Keep s.world => k2 ⟨s2.world, aid.kb s2.below s.below⟩
            have j3 := fun s2 : aid.Keep s.world => k3 ⟨s2.world, aid.kb s2.below s.below⟩
            have jS := fun s2 : aid.Keep s.world => cS' ⟨s2.world, aid.kb s2.below s.below⟩
            have jT := fun s2 : aid.Keep s.world => cT' ⟨s2.world, aid.kb s2.below s.below⟩
            have jc := fun s2 : aid.Keep s.world => K1'.out ⟨s2.world, aid.kb s2.below s.below⟩
            dsimp only at j0 j1 j2 j3 jS jT jc
            have J1 := Lib.hid jc
            have JC := Lib.hid (fun s2 : aid.Keep s.world => KC.out s2.world)
            have B9 := Lib.hid (aid.kbk B8.out s)
            clear k0 k1 k2 k3 cS' cT' jc
            go_wp2_with fail
            refine aid.wp_region_keep (by kernel_rfl) (by kernel_rfl) ?_
            repeat (go_big_quiet_step (first | (go_at_call 25; (with_reducible exact aid.keep_call (J1.out _))) | (go_at_call 26; (with_reducible exact aid.keep_call (JC.out _)))))
            refine wpQuiet_nil ?_
            rintro _ ⟨s2, rfl⟩
            go_wp2_with fail
            go_ret
            exact ⟨rfl, aid.kbk B9.out s2⟩
          · rw [hq] at Q
            have heq : D[k]! = E[k]! := by
              rw [← hx, ← hy]
              simp only [Bool.and_eq_true, beq_iff_eq] at hq
              rw [hq.1, hq.2]
            have HE := Lib.hid heq
            clear hq hx hy heq
            go_wp2_with fail
            refine aid.wp_region_keep (by kernel_rfl) (by kernel_rfl) ?_
            repeat (go_big_quiet_step (fail))
            refine wpQuiet_nil ?_
            rintro _ ⟨s, rfl⟩
            go_wp2_with fail
            go_roundw
            case rel => exact ⟨k + 1, by omega, by omega, by go_num, Lib.hid (fun j hj => by
              by_cases e : j = k
              · rw [e]; exact HE.out
              · exact hsame.out j (by omega)), aid.kbk Bl.out s⟩
            case measure => simp [intOf]; omega
        · have hno := decide_eq_decide.1 (lex_none (d := D) (e := E) (fun j h1 h2 => hsame.out j (by rw [← HND.out] at h1; rw [← HNE.out] at h2; omega)))
          rw [← HL1.out, ← HND.out, ← HNE.out] at hno
          first
            | (have hz : nD < nE := by omega)
            | (have hz : ¬ nD < nE := by omega)
          clear hno
          go_wp2_with fail
          refine (K1.out ⟨wr, aid.kb Bl.out B7.out⟩).mono ?_
          rintro e0 w8 ⟨rfl, hb8⟩
          dsimp only at hb8
          have B8 := Lib.hid (aid.kb (aid.kb hb8 (aid.kb Bl.out B7.out)) B3.out)
          clear hb8
          go_wp2_with fail
          go_ret
          first
            | exact ⟨rfl, B8.out⟩
            | exact ⟨congrArg (fun x => Ending.returned (Value.bool x)) (show (!decide (nD < nE)) = true by rw [decide_eq_false hz]; rfl), B8.out⟩
            | exact ⟨congrArg (fun x => Ending.returned (Value.bool x)) (show decide (nD < nE) = true from decide_eq_true hz), B8.out⟩
      · have hno := decide_eq_decide.1 (lex_none (d := D) (e := E) (fun j h1 h2 => hsame.out j (by rw [← HND.out] at h1; rw [← HNE.out] at h2; omega)))
        rw [← HL1.out, ← HND.out, ← HNE.out] at hno
        first
          | (have hz : nD < nE := by omega)
          | (have hz : ¬ nD < nE := by omega)
        clear hno
        go_wp2_with fail
        refine (K1.out ⟨wr, aid.kb Bl.out B7.out⟩).mono ?_
        rintro e0 w8 ⟨rfl, hb8⟩
        dsimp only at hb8
        have B8 := Lib.hid (aid.kb (aid.kb hb8 (aid.kb Bl.out B7.out)) B3.out)
        clear hb8
        go_wp2_with fail
        go_ret
        first
          | exact ⟨rfl, B8.out⟩
          | exact ⟨congrArg (fun x => Ending.returned (Value.bool x)) (show (!decide (nD < nE)) = true by rw [decide_eq_false hz]; rfl), B8.out⟩
          | exact ⟨congrArg (fun x => Ending.returned (Value.bool x)) (show decide (nD < nE) = true from decide_eq_true hz), B8.out⟩
  · have K1 := Lib.hid k1
    have K2 := Lib.hid k2
    have K3 := Lib.hid k3
    have K4 := Lib.hid k4
    have K5 := Lib.hid k5
    simp only [Int.neg_zero, Int.neg_neg, decide_true, Int.reduceEq, decide_false] at K2 K5
    clear k1 k2 k3 k4 k5
    go_wp2_with fail
    rw [← HV.out]
    refine aid.wp_region_keep (by kernel_rfl) (by kernel_rfl) ?_
    repeat (go_big_quiet_step (first | (go_at_call 25; (first | (with_reducible exact aid.keep_call (K1.out _)) | (with_reducible exact aid.keep_call (K2.out _)))) | (go_at_call 24; (with_reducible exact aid.keep_call (K5.out _)))))
    refine wpQuiet_nil ?_
    rintro _ ⟨s4, rfl⟩
    have cS := kS s4
    have cT := kT s4
    go_wp2_with fail
    refine (K1.out s4).mono ?_
    rintro e0 w5 ⟨rfl, hb5⟩
    have b5 := aid.kb hb5 s4.below
    have cS := aid.kc hb5 cS
    have cT := aid.kc hb5 cT
    clear hb5
    have cU := kU ⟨w5, b5⟩
    dsimp only at cU
    have B5 := Lib.hid b5
    clear b5
    go_wp2_with fail
    refine (K3.out ⟨w5, B5.out⟩).mono ?_
    rintro e0 w5' ⟨rfl, hb5⟩
    dsimp only at hb5
    have b5 := aid.kb hb5 B5.out
    have cS := aid.kc hb5 cS
    have cT := aid.kc hb5 cT
    have cU := aid.kc hb5 cU
    clear hb5
    obtain ⟨w5, hw5⟩ : ∃ W, W = w5' := ⟨_, rfl⟩
    subst hw5
    have B5 := Lib.hid b5
    clear b5
    have KL1 := Lib.hid (fun W (hb : Below w5.heap.size w5 W) => list_any (.slice sa sn sc) D W (RSV.out.below (aid.kb hb B5.out)) (by rw [← HND.out]; omega))
    have KL2 := Lib.hid (fun W (hb : Below w5.heap.size w5 W) => list_any (.slice ta tn tc) E W (RTV.out.below (aid.kb hb B5.out)) (by rw [← HNE.out]; omega))
    go_wp2_with fail
    refine wp_region_noPanic ?_
    refine wp_region_held_drew (S := fun W => Below w5.heap.size w5 W) (by kernel_rfl) ((Below.refl _ _).drew) (fun hSx => ?_)
    change wpAnyH _ _ _ _ _ 6 _ _ _
    have hS0 : Below w5.heap.size w5 w5.drew := hSx
    clear hSx
    refine wpAnyH_take (i := 0) (v := .agg #[.slice sa sn sc]) rfl (by kernel_rfl) (by kernel_rfl) (by kernel_rfl) (fun _ _ _ h => h) (psheld.yields_set rfl (.tmp 7) rfl w2.heap.size 0 rfl _ (fun W h => aid.kc h cS)) hS0 ?_
    try simp only [Act.put, List.setIfInBounds_toArray, List.set_cons_zero, List.set_cons_succ]
    refine wpAnyH_take (i := 2) (v := .agg #[.slice ta tn tc]) rfl (by kernel_rfl) (by kernel_rfl) (by kernel_rfl) (fun _ _ _ h => h) (psheld.yields_set rfl (.tmp 8) rfl (w2.heap.size + 1) 0 rfl _ (fun W h => aid.kc h cT)) hS0 ?_
    try simp only [Act.put, List.setIfInBounds_toArray, List.set_cons_zero, List.set_cons_succ]
    refine wpAnyH_ready (rs := [1]) (by kernel_rfl) (by simp) ?_
    refine AllReadyH.cons rfl (fun K hK => ?_) AllReadyH.nil
    go_simp
    refine (KL1.out _ hS0).mono ?_
    rintro e0 w6 ⟨⟨l1, rfl, hl1⟩, hb6⟩
    have hS1 := aid.kb hb6 hS0
    go_wp2_with fail
    refine hK.out _ _ hS1 (fun _ => ?_)
    clear hK K
    try simp only [Act.put, List.setIfInBounds_toArray, List.set_cons_zero, List.set_cons_succ]
    refine wpAnyH_ready (rs := [3]) (by kernel_rfl) (by simp) ?_
    refine AllReadyH.cons rfl (fun K hK => ?_) AllReadyH.nil
    go_simp
    refine (KL2.out _ hS1).mono ?_
    rintro e0 w7 ⟨⟨l2, rfl, hl2⟩, hb7⟩
    have hS2 := aid.kb hb7 hS1
    go_wp2_with fail
    refine hK.out _ _ hS2 (fun _ => ?_)
    clear hK K
    try simp only [Act.put, List.setIfInBounds_toArray, List.set_cons_zero, List.set_cons_succ]
    refine wpAnyH_take (i := 4) (v := l1) rfl (by kernel_rfl) (by kernel_rfl) (by kernel_rfl) (fun _ _ _ h => h) (.inl ⟨rfl, fun _ _ => rfl⟩) hS2 ?_
    try simp only [Act.put, List.setIfInBounds_toArray, List.set_cons_zero, List.set_cons_succ]
    refine wpAnyH_take (i := 5) (v := l2) rfl (by kernel_rfl) (by kernel_rfl) (by kernel_rfl) (fun _ _ _ h => h) (.inl ⟨rfl, fun _ _ => rfl⟩) hS2 ?_
    try simp only [Act.put, List.setIfInBounds_toArray, List.set_cons_zero, List.set_cons_succ]
    refine wpAnyH_done (by kernel_rfl) ?_ _
    refine NoPanic.normal ?_
    have hl1 := hl1.below hb7
    obtain ⟨al, cl, hls⟩ := pssame.IsRow.shape hl1
    obtain ⟨am, cm, hms⟩ := pssame.IsRow.shape hl2
    rw [← HND.out] at hls
    rw [← HNE.out] at hms
    subst hls hms
    have H1 := Lib.hid hl1
    have H2 := Lib.hid hl2
    have B7 := Lib.hid (aid.kb hS2 B5.out)
    have cS := aid.kc hS2 cS
    have cT := aid.kc hS2 cT
    clear hl1 hl2 hb6 hb7 hS0 hS1 hS2 KL1 KL2
    go_wp2_with fail
    go_loopw [13] (fun iv wr => ∃ k : Nat, k ≤ nD ∧ k ≤ nE ∧ iv = .int .i64 k ∧ Hid (∀ j, j < k → D[j]! = E[j]!) ∧ Hid (Below w7.heap.size w7 wr)) (fun iv _ => nD - (intOf iv).toNat)
    case atStart => exact ⟨0, by omega, by omega, rfl, Lib.hid (fun j hj => absurd hj (Nat.not_lt_zero j)), Below.refl _ _⟩
    case round =>
      obtain ⟨k, hk, hk2, rfl, hsame, Bl⟩ := hrel
      have cS := aid.kc Bl.out cS
      have cT := aid.kc Bl.out cT
      by_cases hlt : k < nD
      · by_cases hlt2 : k < nE
        · have hkd : k < D.size := by rw [← HND.out]; exact hlt
          have hke : k < E.size := by rw [← HNE.out]; exact hlt2
          obtain ⟨b, o, rfl, RW⟩ : ∃ b o, al = some ⟨b, o, none⟩ ∧ Row w7 b o D := by
            rcases H1.out with ⟨_, e⟩ | ⟨b, o, cp, e, r, _⟩
            · rw [e] at hkd; exact absurd hkd (Nat.not_lt_zero _)
            · simp only [Value.slice.injEq] at e
              exact ⟨b, o, e.1, r⟩
          obtain ⟨b2, o2, rfl, RW2⟩ : ∃ b o, am = some ⟨b, o, none⟩ ∧ Row w7 b o E := by
            rcases H2.out with ⟨_, e⟩ | ⟨b, o, cp, e, r, _⟩
            · rw [e] at hke; exact absurd hke (Nat.not_lt_zero _)
            · simp only [Value.slice.injEq] at e
              exact ⟨b, o, e.1, r⟩
          have RR := RW.below Bl.out
          have RR2 := RW2.below Bl.out
          have k0 := fun s : aid.Keep wr => aid.keep_cell (RR k hkd).1 s
          have k1 := fun s : aid.Keep wr => aid.keep_cell (RR k hkd).2 s
          have k2 := fun s : aid.Keep wr => aid.keep_cell (RR2 k hke).1 s
          have k3 := fun s : aid.Keep wr => aid.keep_cell (RR2 k hke).2 s
          obtain ⟨⟨x1, x2⟩, hx⟩ : ∃ x, x = D[k]! := ⟨_, rfl⟩
          obtain ⟨⟨y1, y2⟩, hy⟩ : ∃ x, x = E[k]! := ⟨_, rfl⟩
          rw [← hx] at k0 k1
          rw [← hy] at k2 k3
          dsimp only at k0 k1 k2 k3
          have Q := pseq.neq_pfx x1 x2 y1 y2
          clear RR RR2 RW RW2
          cases hq : (x1 == y1 && x2 == y2)
          · rw [hq] at Q
            have hne : D[k]! ≠ E[k]! := by
              rw [← hx, ← hy]
              intro h
              simp only [Prod.mk.injEq] at h
              rw [h.1, h.2] at hq
              simp at hq
            have hcf := lex_first hkd hke hsame.out hne
            rw [← hx, ← hy, ← HL1.out] at hcf
            have KC := Lib.hid (fun W => cmp_below (x1, x2) (y1, y2) W)
            rw [← hcf] at KC
            have K1' := Lib.hid (fun s : aid.Keep wr => K1.out ⟨s.world, aid.kb s.below (aid.kb Bl.out B7.out)⟩)
            have cS' := fun s : aid.Keep wr => aid.keep_cell cS s
            have cT' := fun s : aid.Keep wr => aid.keep_cell cT s
            have B8 := Lib.hid (aid.kb (aid.kb Bl.out B7.out) B3.out)
            clear hq hx hy hne hcf
            go_wp2_with fail
            refine aid.wp_region_keep (by kernel_rfl) (by kernel_rfl) ?_
            repeat (go_big_quiet_step (fail))
            refine wpQuiet_nil ?_
            rintro _ ⟨s, rfl⟩
            have j0 := fun s2 : aid.Keep s.world => k0 ⟨s2.world, aid.kb s2.below s.below⟩
            have j1 := fun s2 : aid.Keep s.world => k1 ⟨s2.world, aid.kb s2.below s.below⟩
            have j2 := fun s2 : aid.Keep s.world => k2 ⟨s2.world, aid.kb s2.below s.below⟩
            have j3 := fun s2 : aid.Keep s.world => k3 ⟨s2.world, aid.kb s2.below s.below⟩
            have jS := fun s2 : aid.Keep s.world => cS' ⟨s2.world, aid.kb s2.below s.below⟩
            have jT := fun s2 : aid.Keep s.world => cT' ⟨s2.world, aid.kb s2.below s.below⟩
            have jc := fun s2 : aid.Keep s.world => K1'.out ⟨s2.world, aid.kb s2.below s.below⟩
            dsimp only at j0 j1 j2 j3 jS jT jc
            have J1 := Lib.hid jc
            have JC := Lib.hid (fun s2 : aid.Keep s.world => KC.out s2.world)
            have B9 := Lib.hid (aid.kbk B8.out s)
            clear k0 k1 k2 k3 cS' cT' jc
            go_wp2_with fail
            refine aid.wp_region_keep (by kernel_rfl) (by kernel_rfl) ?_
            repeat (go_big_quiet_step (first | (go_at_call 25; (with_reducible exact aid.keep_call (J1.out _))) | (go_at_call 26; (with_reducible exact aid.keep_call (JC.out _)))))
            refine wpQuiet_nil ?_
            rintro _ ⟨s2, rfl⟩
            go_wp2_with fail
            go_ret
            exact ⟨rfl, aid.kbk B9.out s2⟩
          · rw [hq] at Q
            have heq : D[k]! = E[k]! := by
              rw [← hx, ← hy]
              simp only [Bool.and_eq_true, beq_iff_eq] at hq
              rw [hq.1, hq.2]
            have HE := Lib.hid heq
            clear hq hx hy heq
            go_wp2_with fail
            refine aid.wp_region_keep (by kernel_rfl) (by kernel_rfl) ?_
            repeat (go_big_quiet_step (fail))
            refine wpQuiet_nil ?_
            rintro _ ⟨s, rfl⟩
            go_wp2_with fail
            go_roundw
            case rel => exact ⟨k + 1, by omega, by omega, by go_num, Lib.hid (fun j hj => by
              by_cases e : j = k
              · rw [e]; exact HE.out
              · exact hsame.out j (by omega)), aid.kbk Bl.out s⟩
            case measure => simp [intOf]; omega
        · have hno := decide_eq_decide.1 (lex_none (d := D) (e := E) (fun j h1 h2 => hsame.out j (by rw [← HND.out] at h1; rw [← HNE.out] at h2; omega)))
          rw [← HL1.out, ← HND.out, ← HNE.out] at hno
          first
            | (have hz : nD < nE := by omega)
            | (have hz : ¬ nD < nE := by omega)
          clear hno
          go_wp2_with fail
          refine (K1.out ⟨wr, aid.kb Bl.out B7.out⟩).mono ?_
          rintro e0 w8 ⟨rfl, hb8⟩
          dsimp only at hb8
          have B8 := Lib.hid (aid.kb (aid.kb hb8 (aid.kb Bl.out B7.out)) B3.out)
          clear hb8
          go_wp2_with fail
          go_ret
          first
            | exact ⟨rfl, B8.out⟩
            | exact ⟨congrArg (fun x => Ending.returned (Value.bool x)) (show (!decide (nD < nE)) = true by rw [decide_eq_false hz]; rfl), B8.out⟩
            | exact ⟨congrArg (fun x => Ending.returned (Value.bool x)) (show decide (nD < nE) = true from decide_eq_true hz), B8.out⟩
      · have hno := decide_eq_decide.1 (lex_none (d := D) (e := E) (fun j h1 h2 => hsame.out j (by rw [← HND.out] at h1; rw [← HNE.out] at h2; omega)))
        rw [← HL1.out, ← HND.out, ← HNE.out] at hno
        first
          | (have hz : nD < nE := by omega)
          | (have hz : ¬ nD < nE := by omega)
        clear hno
        go_wp2_with fail
        refine (K1.out ⟨wr, aid.kb Bl.out B7.out⟩).mono ?_
        rintro e0 w8 ⟨rfl, hb8⟩
        dsimp only at hb8
        have B8 := Lib.hid (aid.kb (aid.kb hb8 (aid.kb Bl.out B7.out)) B3.out)
        clear hb8
        go_wp2_with fail
        go_ret
        first
          | exact ⟨rfl, B8.out⟩
          | exact ⟨congrArg (fun x => Ending.returned (Value.bool x)) (show (!decide (nD < nE)) = true by rw [decide_eq_false hz]; rfl), B8.out⟩
          | exact ⟨congrArg (fun x => Ending.returned (Value.bool x)) (show decide (nD < nE) = true from decide_eq_true hz), B8.out⟩
  · have K1 := Lib.hid k1
    have K2 := Lib.hid k2
    have K3 := Lib.hid k3
    have K4 := Lib.hid k4
    have K5 := Lib.hid k5
    simp only [Int.neg_zero, Int.neg_neg, decide_true, Int.reduceEq, decide_false] at K2 K5
    clear k1 k2 k3 k4 k5
    go_wp2_with fail
    rw [← HV.out]
    refine aid.wp_region_keep (by kernel_rfl) (by kernel_rfl) ?_
    repeat (go_big_quiet_step (first | (go_at_call 25; (first | (with_reducible exact aid.keep_call (K1.out _)) | (with_reducible exact aid.keep_call (K2.out _)))) | (go_at_call 24; (with_reducible exact aid.keep_call (K5.out _)))))
    refine wpQuiet_nil ?_
    rintro _ ⟨s4, rfl⟩
    have cS := kS s4
    have cT := kT s4
    go_wp2_with fail
    refine (K1.out s4).mono ?_
    rintro e0 w5 ⟨rfl, hb5⟩
    have b5 := aid.kb hb5 s4.below
    have cS := aid.kc hb5 cS
    have cT := aid.kc hb5 cT
    clear hb5
    have cU := kU ⟨w5, b5⟩
    dsimp only at cU
    have B5 := Lib.hid b5
    clear b5
    go_wp2_with fail
    refine (K3.out ⟨w5, B5.out⟩).mono ?_
    rintro e0 w5' ⟨rfl, hb5⟩
    dsimp only at hb5
    have b5 := aid.kb hb5 B5.out
    have cS := aid.kc hb5 cS
    have cT := aid.kc hb5 cT
    have cU := aid.kc hb5 cU
    clear hb5
    obtain ⟨w5, hw5⟩ : ∃ W, W = w5' := ⟨_, rfl⟩
    subst hw5
    have B5 := Lib.hid b5
    clear b5
    go_wp2_with fail
    refine (K4.out ⟨w5, B5.out⟩).mono ?_
    rintro e0 w5' ⟨rfl, hb5⟩
    dsimp only at hb5
    have b5 := aid.kb hb5 B5.out
    have cS := aid.kc hb5 cS
    have cT := aid.kc hb5 cT
    clear hb5
    obtain ⟨w5, hw5⟩ : ∃ W, W = w5' := ⟨_, rfl⟩
    subst hw5
    have B5 := Lib.hid b5
    clear b5
    have KL1 := Lib.hid (fun W (hb : Below w5.heap.size w5 W) => list_any (.slice sa sn sc) D W (RSV.out.below (aid.kb hb B5.out)) (by rw [← HND.out]; omega))
    have KL2 := Lib.hid (fun W (hb : Below w5.heap.size w5 W) => list_any (.slice ta tn tc) E W (RTV.out.below (aid.kb hb B5.out)) (by rw [← HNE.out]; omega))
    go_wp2_with fail
    refine wp_region_noPanic ?_
    refine wp_region_held_drew (S := fun W => Below w5.heap.size w5 W) (by kernel_rfl) ((Below.refl _ _).drew) (fun hSx => ?_)
    change wpAnyH _ _ _ _ _ 6 _ _ _
    have hS0 : Below w5.heap.size w5 w5.drew := hSx
    clear hSx
    refine wpAnyH_take (i := 0) (v := .agg #[.slice sa sn sc]) rfl (by kernel_rfl) (by kernel_rfl) (by kernel_rfl) (fun _ _ _ h => h) (psheld.yields_set rfl (.tmp 7) rfl w2.heap.size 0 rfl _ (fun W h => aid.kc h cS)) hS0 ?_
    try simp only [Act.put, List.setIfInBounds_toArray, List.set_cons_zero, List.set_cons_succ]
    refine wpAnyH_take (i := 2) (v := .agg #[.slice ta tn tc]) rfl (by kernel_rfl) (by kernel_rfl) (by kernel_rfl) (fun _ _ _ h => h) (psheld.yields_set rfl (.tmp 8) rfl (w2.heap.size + 1) 0 rfl _ (fun W h => aid.kc h cT)) hS0 ?_
    try simp only [Act.put, List.setIfInBounds_toArray, List.set_cons_zero, List.set_cons_succ]
    refine wpAnyH_ready (rs := [1]) (by kernel_rfl) (by simp) ?_
    refine AllReadyH.cons rfl (fun K hK => ?_) AllReadyH.nil
    go_simp
    refine (KL1.out _ hS0).mono ?_
    rintro e0 w6 ⟨⟨l1, rfl, hl1⟩, hb6⟩
    have hS1 := aid.kb hb6 hS0
    go_wp2_with fail
    refine hK.out _ _ hS1 (fun _ => ?_)
    clear hK K
    try simp only [Act.put, List.setIfInBounds_toArray, List.set_cons_zero, List.set_cons_succ]
    refine wpAnyH_ready (rs := [3]) (by kernel_rfl) (by simp) ?_
    refine AllReadyH.cons rfl (fun K hK => ?_) AllReadyH.nil
    go_simp
    refine (KL2.out _ hS1).mono ?_
    rintro e0 w7 ⟨⟨l2, rfl, hl2⟩, hb7⟩
    have hS2 := aid.kb hb7 hS1
    go_wp2_with fail
    refine hK.out _ _ hS2 (fun _ => ?_)
    clear hK K
    try simp only [Act.put, List.setIfInBounds_toArray, List.set_cons_zero, List.set_cons_succ]
    refine wpAnyH_take (i := 4) (v := l1) rfl (by kernel_rfl) (by kernel_rfl) (by kernel_rfl) (fun _ _ _ h => h) (.inl ⟨rfl, fun _ _ => rfl⟩) hS2 ?_
    try simp only [Act.put, List.setIfInBounds_toArray, List.set_cons_zero, List.set_cons_succ]
    refine wpAnyH_take (i := 5) (v := l2) rfl (by kernel_rfl) (by kernel_rfl) (by kernel_rfl) (fun _ _ _ h => h) (.inl ⟨rfl, fun _ _ => rfl⟩) hS2 ?_
    try simp only [Act.put, List.setIfInBounds_toArray, List.set_cons_zero, List.set_cons_succ]
    refine wpAnyH_done (by kernel_rfl) ?_ _
    refine NoPanic.normal ?_
    have hl1 := hl1.below hb7
    obtain ⟨al, cl, hls⟩ := pssame.IsRow.shape hl1
    obtain ⟨am, cm, hms⟩ := pssame.IsRow.shape hl2
    rw [← HND.out] at hls
    rw [← HNE.out] at hms
    subst hls hms
    have H1 := Lib.hid hl1
    have H2 := Lib.hid hl2
    have B7 := Lib.hid (aid.kb hS2 B5.out)
    have cS := aid.kc hS2 cS
    have cT := aid.kc hS2 cT
    clear hl1 hl2 hb6 hb7 hS0 hS1 hS2 KL1 KL2
    go_wp2_with fail
    go_loopw [13] (fun iv wr => ∃ k : Nat, k ≤ nD ∧ k ≤ nE ∧ iv = .int .i64 k ∧ Hid (∀ j, j < k → D[j]! = E[j]!) ∧ Hid (Below w7.heap.size w7 wr)) (fun iv _ => nD - (intOf iv).toNat)
    case atStart => exact ⟨0, by omega, by omega, rfl, Lib.hid (fun j hj => absurd hj (Nat.not_lt_zero j)), Below.refl _ _⟩
    case round =>
      obtain ⟨k, hk, hk2, rfl, hsame, Bl⟩ := hrel
      have cS := aid.kc Bl.out cS
      have cT := aid.kc Bl.out cT
      by_cases hlt : k < nD
      · by_cases hlt2 : k < nE
        · have hkd : k < D.size := by rw [← HND.out]; exact hlt
          have hke : k < E.size := by rw [← HNE.out]; exact hlt2
          obtain ⟨b, o, rfl, RW⟩ : ∃ b o, al = some ⟨b, o, none⟩ ∧ Row w7 b o D := by
            rcases H1.out with ⟨_, e⟩ | ⟨b, o, cp, e, r, _⟩
            · rw [e] at hkd; exact absurd hkd (Nat.not_lt_zero _)
            · simp only [Value.slice.injEq] at e
              exact ⟨b, o, e.1, r⟩
          obtain ⟨b2, o2, rfl, RW2⟩ : ∃ b o, am = some ⟨b, o, none⟩ ∧ Row w7 b o E := by
            rcases H2.out with ⟨_, e⟩ | ⟨b, o, cp, e, r, _⟩
            · rw [e] at hke; exact absurd hke (Nat.not_lt_zero _)
            · simp only [Value.slice.injEq] at e
              exact ⟨b, o, e.1, r⟩
          have RR := RW.below Bl.out
          have RR2 := RW2.below Bl.out
          have k0 := fun s : aid.Keep wr => aid.keep_cell (RR k hkd).1 s
          have k1 := fun s : aid.Keep wr => aid.keep_cell (RR k hkd).2 s
          have k2 := fun s : aid.Keep wr => aid.keep_cell (RR2 k hke).1 s
          have k3 := fun s : aid.Keep wr => aid.keep_cell (RR2 k hke).2 s
          obtain ⟨⟨x1, x2⟩, hx⟩ : ∃ x, x = D[k]! := ⟨_, rfl⟩
          obtain ⟨⟨y1, y2⟩, hy⟩ : ∃ x, x = E[k]! := ⟨_, rfl⟩
          rw [← hx] at k0 k1
          rw [← hy] at k2 k3
          dsimp only at k0 k1 k2 k3
          have Q := pseq.neq_pfx x1 x2 y1 y2
          clear RR RR2 RW RW2
          cases hq : (x1 == y1 && x2 == y2)
          · rw [hq] at Q
            have hne : D[k]! ≠ E[k]! := by
              rw [← hx, ← hy]
              intro h
              simp only [Prod.mk.injEq] at h
              rw [h.1, h.2] at hq
              simp at hq
            have hcf := lex_first hkd hke hsame.out hne
            rw [← hx, ← hy, ← HL1.out] at hcf
            have KC := Lib.hid (fun W => cmp_below (x1, x2) (y1, y2) W)
            rw [← hcf] at KC
            have K1' := Lib.hid (fun s : aid.Keep wr => K1.out ⟨s.world, aid.kb s.below (aid.kb Bl.out B7.out)⟩)
            have cS' := fun s : aid.Keep wr => aid.keep_cell cS s
            have cT' := fun s : aid.Keep wr => aid.keep_cell cT s
            have B8 := Lib.hid (aid.kb (aid.kb Bl.out B7.out) B3.out)
            clear hq hx hy hne hcf
            go_wp2_with fail
            refine aid.wp_region_keep (by kernel_rfl) (by kernel_rfl) ?_
            repeat (go_big_quiet_step (fail))
            refine wpQuiet_nil ?_
            rintro _ ⟨s, rfl⟩
            have j0 := fun s2 : aid.Keep s.world => k0 ⟨s2.world, aid.kb s2.below s.below⟩
            have j1 := fun s2 : aid.Keep s.world => k1 ⟨s2.world, aid.kb s2.below s.below⟩
            have j2 := fun s2 : aid.Keep s.world => k2 ⟨s2.world, aid.kb s2.below s.below⟩
            have j3 := fun s2 : aid.Keep s.world => k3 ⟨s2.world, aid.kb s2.below s.below⟩
            have jS := fun s2 : aid.Keep s.world => cS' ⟨s2.world, aid.kb s2.below s.below⟩
            have jT := fun s2 : aid.Keep s.world => cT' ⟨s2.world, aid.kb s2.below s.below⟩
            have jc := fun s2 : aid.Keep s.world => K1'.out ⟨s2.world, aid.kb s2.below s.below⟩
            dsimp only at j0 j1 j2 j3 jS jT jc
            have J1 := Lib.hid jc
            have JC := Lib.hid (fun s2 : aid.Keep s.world => KC.out s2.world)
            have B9 := Lib.hid (aid.kbk B8.out s)
            clear k0 k1 k2 k3 cS' cT' jc
            go_wp2_with fail
            refine aid.wp_region_keep (by kernel_rfl) (by kernel_rfl) ?_
            repeat (go_big_quiet_step (first | (go_at_call 25; (with_reducible exact aid.keep_call (J1.out _))) | (go_at_call 26; (with_reducible exact aid.keep_call (JC.out _)))))
            refine wpQuiet_nil ?_
            rintro _ ⟨s2, rfl⟩
            go_wp2_with fail
            go_ret
            exact ⟨rfl, aid.kbk B9.out s2⟩
          · rw [hq] at Q
            have heq : D[k]! = E[k]! := by
              rw [← hx, ← hy]
              simp only [Bool.and_eq_true, beq_iff_eq] at hq
              rw [hq.1, hq.2]
            have HE := Lib.hid heq
            clear hq hx hy heq
            go_wp2_with fail
            refine aid.wp_region_keep (by kernel_rfl) (by kernel_rfl) ?_
            repeat (go_big_quiet_step (fail))
            refine wpQuiet_nil ?_
            rintro _ ⟨s, rfl⟩
            go_wp2_with fail
            go_roundw
            case rel => exact ⟨k + 1, by omega, by omega, by go_num, Lib.hid (fun j hj => by
              by_cases e : j = k
              · rw [e]; exact HE.out
              · exact hsame.out j (by omega)), aid.kbk Bl.out s⟩
            case measure => simp [intOf]; omega
        · have hno := decide_eq_decide.1 (lex_none (d := D) (e := E) (fun j h1 h2 => hsame.out j (by rw [← HND.out] at h1; rw [← HNE.out] at h2; omega)))
          rw [← HL1.out, ← HND.out, ← HNE.out] at hno
          first
            | (have hz : nD < nE := by omega)
            | (have hz : ¬ nD < nE := by omega)
          clear hno
          go_wp2_with fail
          refine (K1.out ⟨wr, aid.kb Bl.out B7.out⟩).mono ?_
          rintro e0 w8 ⟨rfl, hb8⟩
          dsimp only at hb8
          have B8 := Lib.hid (aid.kb (aid.kb hb8 (aid.kb Bl.out B7.out)) B3.out)
          clear hb8
          go_wp2_with fail
          go_ret
          first
            | exact ⟨rfl, B8.out⟩
            | exact ⟨congrArg (fun x => Ending.returned (Value.bool x)) (show (!decide (nD < nE)) = true by rw [decide_eq_false hz]; rfl), B8.out⟩
            | exact ⟨congrArg (fun x => Ending.returned (Value.bool x)) (show decide (nD < nE) = true from decide_eq_true hz), B8.out⟩
      · have hno := decide_eq_decide.1 (lex_none (d := D) (e := E) (fun j h1 h2 => hsame.out j (by rw [← HND.out] at h1; rw [← HNE.out] at h2; omega)))
        rw [← HL1.out, ← HND.out, ← HNE.out] at hno
        first
          | (have hz : nD < nE := by omega)
          | (have hz : ¬ nD < nE := by omega)
        clear hno
        go_wp2_with fail
        refine (K1.out ⟨wr, aid.kb Bl.out B7.out⟩).mono ?_
        rintro e0 w8 ⟨rfl, hb8⟩
        dsimp only at hb8
        have B8 := Lib.hid (aid.kb (aid.kb hb8 (aid.kb Bl.out B7.out)) B3.out)
        clear hb8
        go_wp2_with fail
        go_ret
        first
          | exact ⟨rfl, B8.out⟩
          | exact ⟨congrArg (fun x => Ending.returned (Value.bool x)) (show (!decide (nD < nE)) = true by rw [decide_eq_false hz]; rfl), B8.out⟩
          | exact ⟨congrArg (fun x => Ending.returned (Value.bool x)) (show decide (nD < nE) = true from decide_eq_true hz), B8.out⟩

set_option maxRecDepth 100000 in
theorem lifted (os : Os) (started : os.Started) (H : Type) (enc : TypeId × Value → H) :
    ReturnsInHanded {} Try.checked os 5 .any (Rows.psetOrdersSpec.pre6 enc Try.prog Try.f5 Rows.psetOrdersRow.domain false) (Rows.psetOrdersSpec.post enc Try.prog Try.f5 false true false false) := by
  refine returnsInHanded_of_change (C := Try.checked) own started (by kernel_rfl) Try.func5
    (ChangeSpec.witness6 (enc := enc) (C := Try.checked) false ⟨#[], #[.slice none 0 0, .slice none 0 0, .slice none 0 0], []⟩ 8 (by kernel_rfl) (by kernel_rfl) (by kernel_rfl) (by kernel_rfl)) ?_
  intro W base args ds gs before hval0 hW hcnd _
  have hval : ∀ (j : Nat) t v, Try.f5.params[j]? = some t → args[j]? = some v → Value.okWide Try.prog W .any base t v := hval0
  obtain ⟨p, q, hA0, _⟩ := id hW
  have hA : DataW.TrodAll enc Try.prog W 0 (fun _ => true) true Try.f5.params.toList args.toList ds p := hA0
  rw [Try.params5] at hA hval
  obtain ⟨v0, vs0, d0, ds0, p0, q0, hargs, rfl, rfl, h0, r0⟩ := trodAll_cons hA
  obtain ⟨v1, vs1, d1, ds1, p1, q1, rfl, rfl, rfl, h1, r1⟩ := trodAll_cons r0
  obtain ⟨v2, vs2, d2, ds2, p2, q2, rfl, rfl, rfl, h2, r2⟩ := trodAll_cons r1
  obtain ⟨rfl, rfl, rfl⟩ := trodAll_nil r2
  obtain rfl : args = #[v0, v1, v2] := by cases args; simp_all
  obtain ⟨d, hd⟩ := psopen.open_row (hval 0 _ v0 rfl rfl) h0
  obtain ⟨e, he⟩ := psopen.open_row (hval 1 _ v1 rfl rfl) h1
  obtain ⟨f, hf⟩ := psopen.open_row (hval 2 _ v2 rfl rfl) h2
  refine (walk v0 d v1 e v2 f W hd he hf).mono fun e W' ⟨he, hb⟩ => ⟨_, he, ?_⟩
  exact law_post laidOut rfl (by kernel_rfl) Try.underlying4 (by kernel_rfl) (fun ds h => by match ds, h with | [_, _, _], _ => rfl) hW hb

theorem over : Rows.psetOrdersRow.holds Try.pinned (OpenSpec.ofChange Rows.psetOrdersSpec) :=
  OpenClaim.holds_of_wide 5 Try.f5 rfl rfl rfl rfl rfl rfl rfl ⟨rfl, rfl, rfl, rfl, rfl⟩ rfl rfl rfl rfl rfl (by kernel_rfl) Try.func5 (by kernel_rfl)
    (of_decide_eq_true (by kernel_rfl)) (by unfold Func.isWrapper; first | (rw [if_pos (by decide +kernel)]; kernel_rfl) | (rw [if_neg (by decide +kernel)]; exact ⟨rfl, rfl⟩))
    (fun os started H enc _ => lifted os started H enc)

theorem proved : Rows.PsetOrdersSaid := over
end Go.Proofs.Ytpnbbaocdbopiaa.lawPsetOrders
