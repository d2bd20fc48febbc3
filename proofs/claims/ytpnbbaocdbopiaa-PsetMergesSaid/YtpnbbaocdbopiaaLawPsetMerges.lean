/- PsetMerges: for any two slices of prefixes the law answers true: what is in either of two sets, in both, in one alone; whether they are the same. No condition. -/
import Derived.Test.YtpnbbaocdbopiaaPsCount
import Derived.Test.YtpnbbaocdbopiaaPsHead2
import Derived.Test.YtpnbbaocdbopiaaPsOpen
import Derived.Test.YtpnbbaocdbopiaaPsHeld
import Derived.Test.YtpnbbaocdbopiaaFrame
set_option linter.unusedVariables false
set_option linter.unusedSimpArgs false
namespace Go.Proofs.Ytpnbbaocdbopiaa.lawPsetMerges
open Go.ChangeShapes Go.WideShapes Go.ChangeAt Go.RowKit Go.Joins Go.Deep Go.Shelf Go.Lib Go.Sort Go.Proofs.Ytpnbbaocdbopiaa.math1 Go.Proofs.Ytpnbbaocdbopiaa.frame Go.Proofs.Ytpnbbaocdbopiaa.pscmp Go.Proofs.Ytpnbbaocdbopiaa.psfind Go.Proofs.Ytpnbbaocdbopiaa.pssort Go.Proofs.Ytpnbbaocdbopiaa.psuniq Go.Proofs.Ytpnbbaocdbopiaa.pscompact Go.Proofs.Ytpnbbaocdbopiaa.psof Go.Proofs.Ytpnbbaocdbopiaa.psask Go.Proofs.Ytpnbbaocdbopiaa.psopen Go.Proofs.Ytpnbbaocdbopiaa.pshead Go.Proofs.Ytpnbbaocdbopiaa.psmake Go.Proofs.Ytpnbbaocdbopiaa.psor Go.Proofs.Ytpnbbaocdbopiaa.psand Go.Proofs.Ytpnbbaocdbopiaa.pscount

/-- a set's length, in any world in which it stands -/
theorem len_row {w : World} {s : Value} {d : Array P2} (h : IsRow w s d) (W : World) : Calls Try.prog 14 #[.agg #[s]] W fun e w' => e = .returned (.int .i64 d.size) ∧ Below W.heap.size W w' := by
  apply len_any
  rcases h with ⟨rfl, rfl⟩ | ⟨b, o, cap, rfl, _⟩
  · exact .inl ⟨rfl, rfl⟩
  · exact .inr ⟨_, _, rfl⟩

set_option maxRecDepth 100000 in
set_option maxHeartbeats 2000000 in
theorem walk (v0 : Value) (d : Array P2) (v1 : Value) (e : Array P2) (w : World) (hd : RowOk w v0 d) (he : RowOk w v1 e) :
    Calls Try.prog 4 #[v0, v1] w fun e w' => e = .returned (.bool true) ∧ Below w.heap.size w w' := by
  obtain ⟨hR, hml, hval⟩ := hd
  obtain ⟨hR2, hml2, hval2⟩ := he
  obtain ⟨a1, c1, e1⟩ := pssame.IsRow.shape hR
  obtain ⟨a2, c2, e2⟩ := pssame.IsRow.shape hR2
  obtain ⟨N, hN⟩ : ∃ N, N = d.size := ⟨_, rfl⟩
  obtain ⟨N2, hN2⟩ : ∃ N, N = e.size := ⟨_, rfl⟩
  have hNm : N ≤ 9223372036854775807 := by rw [hN]; exact hml
  have hNm2 : N2 ≤ 9223372036854775807 := by rw [hN2]; exact hml2
  rw [← hN] at e1
  rw [← hN2] at e2
  subst e1 e2
  have HN := Lib.hid hN
  have HN2 := Lib.hid hN2
  have HR := Lib.hid hR
  have HR2 := Lib.hid hR2
  have HU := Lib.hid (show AllU d from fun j hj => (hval j hj).1)
  have HU2 := Lib.hid (show AllU e from fun j hj => (hval2 j hj).1)
  have KH := Lib.hid head_true
  clear hN hN2 hR hR2 hml hml2 hval hval2
  go_enter Try.func4, Try.ntmps4
  go_wp2_with fail
  refine (KH.out _).mono ?_
  rintro e0 w1 ⟨rfl, hb⟩
  have B1 := Lib.hid hb
  clear hb
  by_cases hbig : 60 < N
  · have hbi : (60 : Int) < (N : Int) := by omega
    go_wp2_with fail
    go_ret
    exact ⟨rfl, B1.out⟩
  have hbi : ¬ (60 : Int) < (N : Int) := by omega
  by_cases hbig2 : 60 < N2
  · have hbi2 : (60 : Int) < (N2 : Int) := by omega
    go_wp2_with fail
    go_ret
    exact ⟨rfl, B1.out⟩
  have hbi2 : ¬ (60 : Int) < (N2 : Int) := by omega
  have KM := Lib.hid (make2_cap (.slice a1 N c1) (.slice a2 N2 c2) d e w1 (HR.out.below B1.out) (HR2.out.below B1.out) HU.out HU2.out (by rw [← HN.out]; omega) (by rw [← HN2.out]; omega))
  obtain ⟨D, hD⟩ : ∃ D, D = mk (okD d) := ⟨_, rfl⟩
  obtain ⟨E, hE⟩ : ∃ E, E = mk (okD e) := ⟨_, rfl⟩
  have hDs : D.size ≤ 60 := by
    have := mk_size (okD d)
    have := okTo_size d d.size
    have := HN.out
    rw [hD]
    unfold okD at *
    omega
  have hEs : E.size ≤ 60 := by
    have := mk_size (okD e)
    have := okTo_size e e.size
    have := HN2.out
    rw [hE]
    unfold okD at *
    omega
  have SD := Lib.hid (show Strict D by rw [hD]; exact mk_strict _)
  have SE := Lib.hid (show Strict E by rw [hE]; exact mk_strict _)
  rw [← hD, ← hE] at KM
  clear hD hE HU HU2 HR HR2 HN HN2 KH
  go_wp2_with fail
  refine KM.out.mono ?_
  rintro e0 w2 ⟨⟨s, t, rfl, hs, ht, qs, qt⟩, hb2⟩
  obtain ⟨sa, sn, sc, rfl⟩ : ∃ a n c, s = Value.slice a n c := by
    obtain ⟨a, c, h⟩ := pssame.IsRow.shape hs
    exact ⟨a, _, c, h⟩
  obtain ⟨ta, tn, tc, rfl⟩ : ∃ a n c, t = Value.slice a n c := by
    obtain ⟨a, c, h⟩ := pssame.IsRow.shape ht
    exact ⟨a, _, c, h⟩
  have bV : Below w2.heap.size w2 ((w2.alloc (.cells #[.slice sa sn sc] 29)).alloc (.cells #[.slice ta tn tc] 29)) := ((Below.refl _ _).alloc (Nat.le_refl _) _).alloc (by simp) _
  have bV1 := aid.kb bV hb2
  have RS2 := Lib.hid (hs.below bV)
  have RT2 := Lib.hid (ht.below bV)
  have CS2 := show ((w2.alloc (.cells #[.slice sa sn sc] 29)).alloc (.cells #[.slice ta tn tc] 29)).cell? ⟨w2.heap.size, 0, none⟩ = some (.slice sa sn sc) from aid.ca _ (by go_simp)
  have CT2 := show ((w2.alloc (.cells #[.slice sa sn sc] 29)).alloc (.cells #[.slice ta tn tc] 29)).cell? ⟨w2.heap.size + 1, 0, none⟩ = some (.slice ta tn tc) by go_simp
  have B2 := Lib.hid (aid.kb bV1 B1.out)
  have QS := Lib.hid qs
  have QT := Lib.hid qt
  have hor : (orD D E).size ≤ 120 := by
    have := mk_size (D ++ E)
    rw [Array.size_append] at this
    unfold orD; omega
  have KO := Lib.hid (or_ok (.slice sa sn sc) (.slice ta tn tc) D E _ RS2.out RT2.out qs qt SD.out SE.out (by omega) (by omega) (by omega))
  obtain ⟨U, hU⟩ : ∃ U, U = orD D E := ⟨_, rfl⟩
  have HU := Lib.hid hU
  rw [← hU] at KO hor
  clear bV bV1 hb2 hs ht qs qt hU B1 KM
  go_wp2_with fail
  refine KO.out.mono ?_
  rintro e0 w3 ⟨⟨u, rfl, hu⟩, hb3⟩
  obtain ⟨ua, un, uc, rfl⟩ : ∃ a n c, u = Value.slice a n c := by
    obtain ⟨a, c, h⟩ := pssame.IsRow.shape hu
    exact ⟨a, _, c, h⟩
  have y3 : Below w3.heap.size w3 (w3.alloc (.cells #[.slice ua un uc] 29)) := (Below.refl _ _).alloc (Nat.le_refl _) _
  have z3 := aid.kb y3 hb3
  have RS3 := Lib.hid (RS2.out.below z3)
  have CS3 := aid.kc z3 CS2
  have RT3 := Lib.hid (RT2.out.below z3)
  have CT3 := aid.kc z3 CT2
  have RU3 := Lib.hid (hu.below y3)
  have CU3 := show (w3.alloc (.cells #[.slice ua un uc] 29)).cell? ⟨w3.heap.size, 0, none⟩ = some (.slice ua un uc) by go_simp
  have B3 := Lib.hid (aid.kb z3 B2.out)
  clear y3 z3 hb3 hu KO B2 RS2 CS2 RT2 CT2
  have KA := Lib.hid (and_ok (.slice sa sn sc) (.slice ta tn tc) D E _ RS3.out RT3.out QS.out QT.out SD.out SE.out (by omega) (by omega))
  go_wp2_with fail
  refine KA.out.mono ?_
  rintro e0 w4 ⟨⟨a, A, rfl, ha, qa, sA, _, mA⟩, hb4⟩
  obtain ⟨aa, an, ac, rfl⟩ : ∃ p n c, a = Value.slice p n c := by
    obtain ⟨a, c, h⟩ := pssame.IsRow.shape ha
    exact ⟨a, _, c, h⟩
  have y4 : Below w4.heap.size w4 (w4.alloc (.cells #[.slice aa an ac] 29)) := (Below.refl _ _).alloc (Nat.le_refl _) _
  have z4 := aid.kb y4 hb4
  have RS4 := Lib.hid (RS3.out.below z4)
  have CS4 := aid.kc z4 CS3
  have RT4 := Lib.hid (RT3.out.below z4)
  have CT4 := aid.kc z4 CT3
  have RU4 := Lib.hid (RU3.out.below z4)
  have CU4 := aid.kc z4 CU3
  have RA4 := Lib.hid (ha.below y4)
  have CA4 := show (w4.alloc (.cells #[.slice aa an ac] 29)).cell? ⟨w4.heap.size, 0, none⟩ = some (.slice aa an ac) by go_simp
  have B4 := Lib.hid (aid.kb z4 B3.out)
  have QA := Lib.hid qa
  have SA := Lib.hid sA
  have MA := Lib.hid mA
  clear qa sA mA
  clear y4 z4 hb4 ha KA B3 RS3 CS3 RT3 CT3 RU3 CU3
  have KL := Lib.hid (less_ok (.slice sa sn sc) (.slice ta tn tc) D E _ RS4.out RT4.out QS.out QT.out SD.out SE.out (by omega) (by omega))
  go_wp2_with fail
  refine KL.out.mono ?_
  rintro e0 w5 ⟨⟨l, L, rfl, hl, ql, sL, _, mL⟩, hb5⟩
  obtain ⟨la, ln, lc, rfl⟩ : ∃ a n c, l = Value.slice a n c := by
    obtain ⟨a, c, h⟩ := pssame.IsRow.shape hl
    exact ⟨a, _, c, h⟩
  have y5 : Below w5.heap.size w5 (w5.alloc (.cells #[.slice la ln lc] 29)) := (Below.refl _ _).alloc (Nat.le_refl _) _
  have z5 := aid.kb y5 hb5
  have RS5 := Lib.hid (RS4.out.below z5)
  have CS5 := aid.kc z5 CS4
  have RT5 := Lib.hid (RT4.out.below z5)
  have CT5 := aid.kc z5 CT4
  have RU5 := Lib.hid (RU4.out.below z5)
  have CU5 := aid.kc z5 CU4
  have RA5 := Lib.hid (RA4.out.below z5)
  have CA5 := aid.kc z5 CA4
  have RL5 := Lib.hid (hl.below y5)
  have CL5 := show (w5.alloc (.cells #[.slice la ln lc] 29)).cell? ⟨w5.heap.size, 0, none⟩ = some (.slice la ln lc) by go_simp
  have B5 := Lib.hid (aid.kb z5 B4.out)
  have QL := Lib.hid ql
  have SL := Lib.hid sL
  have ML := Lib.hid mL
  clear ql sL mL
  clear y5 z5 hb5 hl KL B4 RS4 CS4 RT4 CT4 RU4 CU4 RA4 CA4
  have hz1 := size_less SD.out SA.out SL.out MA.out ML.out
  have hz2 : U.size = E.size + L.size := by rw [HU.out]; exact size_or SD.out SE.out SL.out ML.out
  obtain ⟨nS, hnS⟩ : ∃ n, n = D.size := ⟨_, rfl⟩
  obtain ⟨nT, hnT⟩ : ∃ n, n = E.size := ⟨_, rfl⟩
  obtain ⟨nU, hnU⟩ : ∃ n, n = U.size := ⟨_, rfl⟩
  obtain ⟨nA, hnA⟩ : ∃ n, n = A.size := ⟨_, rfl⟩
  obtain ⟨nL, hnL⟩ : ∃ n, n = L.size := ⟨_, rfl⟩
  obtain ⟨V, hV⟩ : ∃ V, V = w5.alloc (.cells #[.slice la ln lc] 29) := ⟨_, rfl⟩
  rw [← hV] at RS5 RT5 RU5 RA5 RL5 CS5 CT5 CU5 CA5 CL5 B5
  have HV := Lib.hid hV
  have kS := fun s : aid.Keep V => aid.keep_cell CS5 s
  have kT := fun s : aid.Keep V => aid.keep_cell CT5 s
  have kU := fun s : aid.Keep V => aid.keep_cell CU5 s
  have kA := fun s : aid.Keep V => aid.keep_cell CA5 s
  have kL := fun s : aid.Keep V => aid.keep_cell CL5 s
  have NS := Lib.hid (fun s : aid.Keep V => len_row RS5.out s.world)
  have NT := Lib.hid (fun s : aid.Keep V => len_row RT5.out s.world)
  have NU := Lib.hid (fun s : aid.Keep V => len_row RU5.out s.world)
  have NA := Lib.hid (fun s : aid.Keep V => len_row RA5.out s.world)
  have NL := Lib.hid (fun s : aid.Keep V => len_row RL5.out s.world)
  rw [← hnS] at NS hz1 hDs
  rw [← hnT] at NT hz2 hEs
  rw [← hnU] at NU hz2 hor
  rw [← hnA] at NA hz1
  rw [← hnL] at NL hz1 hz2
  have HND := Lib.hid hnS
  have HNE := Lib.hid hnT
  have HNU := Lib.hid hnU
  have HNA := Lib.hid hnA
  have HNL := Lib.hid hnL
  have g1 : ((nU : Int) != (nS : Int) + (nT : Int) - (nA : Int)) = false := by simp; omega
  have g2 : ((nL : Int) != (nS : Int) - (nA : Int)) = false := by simp; omega
  have hAs : nA ≤ 60 := by omega
  have hLs : nL ≤ 60 := by omega
  have HZ1 := Lib.hid hz1
  have HZ2 := Lib.hid hz2
  clear hz1 hz2
  clear CS5 CT5 CU5 CA5 CL5 hV hnS hnT hnU hnA hnL
  go_wp2_with fail
  rw [← HV.out]
  refine aid.wp_region_keep (by kernel_rfl) (by kernel_rfl) ?_
  repeat (go_big_quiet_step ((go_at_call 14; (first | (with_reducible exact aid.keep_call (NS.out _)) | (with_reducible exact aid.keep_call (NT.out _)) | (with_reducible exact aid.keep_call (NU.out _)) | (with_reducible exact aid.keep_call (NA.out _)) | (with_reducible exact aid.keep_call (NL.out _))))))
  refine wpQuiet_nil ?_
  rintro _ ⟨s6, rfl⟩
  have KLI := Lib.hid (list_any (.slice ua un uc) U s6.world (RU5.out.below s6.below) (by rw [← HNU.out]; omega))
  have cU := kU s6
  go_wp2_with fail
  refine KLI.out.mono ?_
  rintro e0 w7 ⟨⟨li, rfl, hli⟩, hb7⟩
  obtain ⟨al, cl, hls⟩ := pssame.IsRow.shape hli
  rw [← HNU.out] at hls
  subst hls
  have HL7 := Lib.hid hli
  have B7 := Lib.hid (aid.kb hb7 s6.below)
  clear hli hb7 cU KLI
  go_wp2_with fail
  go_loopw [13, 14, 75] (fun _ _ iv wr => ∃ k : Nat, k ≤ nU ∧ iv = .int .i64 k ∧ Hid (Below w7.heap.size w7 wr)) (fun _ _ iv _ => nU - (intOf iv).toNat)
  case atStart => exact ⟨0, by omega, rfl, Below.refl _ _⟩
  case round =>
    obtain ⟨k, hk, rfl, Bl⟩ := hrel
    by_cases hlt : k < nU
    · have hkd : k < U.size := by rw [← HNU.out]; exact hlt
      obtain ⟨b, o, rfl, RW⟩ : ∃ b o, al = some ⟨b, o, none⟩ ∧ Row w7 b o U := by
        rcases HL7.out with ⟨_, e⟩ | ⟨b, o, cp, e, r, _⟩
        · rw [e] at hkd; exact absurd hkd (Nat.not_lt_zero _)
        · simp only [Value.slice.injEq] at e
          exact ⟨b, o, e.1, r⟩
      have RR := RW.below Bl.out
      have k0 := (RR k hkd).1
      have k1 := (RR k hkd).2
      have hxm : U[k]! ∈ U.toList := mem_get.2 ⟨k, hkd, rfl⟩
      obtain ⟨⟨x1, x2⟩, hxx⟩ : ∃ y, y = U[k]! := ⟨_, rfl⟩
      rw [← hxx] at k0 k1 hxm
      dsimp only at k0 k1
      have hDE : (x1, x2) ∈ D.toList ∨ (x1, x2) ∈ E.toList := by rw [HU.out] at hxm; exact or_mem.1 hxm
      have BV := aid.kb Bl.out B7.out
      have bp : Below wr.heap.size wr (wr.alloc (.cells #[.int .u32 x1, .int .i64 x2] 26)) := (Below.refl _ _).alloc (Nat.le_refl _) _
      have BP := aid.kb bp BV
      obtain ⟨WP, hWP⟩ : ∃ W, W = wr.alloc (.cells #[.int .u32 x1, .int .i64 x2] 26) := ⟨_, rfl⟩
      have P0 : WP.cell? ⟨wr.heap.size, 0, none⟩ = some (.int .u32 x1) := by rw [hWP]; exact aid.new2a _ _ _ _
      have P1 : WP.cell? ⟨wr.heap.size, 1, none⟩ = some (.int .i64 x2) := by rw [hWP]; exact aid.new2b _ _ _ _
      rw [← hWP] at bp BP
      have cS := kS ⟨WP, BP⟩
      have cT := kT ⟨WP, BP⟩
      have cA := kA ⟨WP, BP⟩
      have cL := kL ⟨WP, BP⟩
      dsimp only at cS cT cA cL
      have rS := RS5.out.below BP
      have rT := RT5.out.below BP
      have rA := RA5.out.below BP
      have rL := RL5.out.below BP
      have ks := fun W (hb : Below WP.heap.size WP W) => has_set (.slice sa sn sc) D (x1, x2) W (rS.below hb) SD.out (by rw [← HND.out]; omega)
      have kt := fun W (hb : Below WP.heap.size WP W) => has_set (.slice ta tn tc) E (x1, x2) W (rT.below hb) SE.out (by rw [← HNE.out]; omega)
      have ka := fun W (hb : Below WP.heap.size WP W) => has_set (.slice aa an ac) A (x1, x2) W (rA.below hb) SA.out (by rw [← HNA.out]; omega)
      have kl := fun W (hb : Below WP.heap.size WP W) => has_set (.slice la ln lc) L (x1, x2) W (rL.below hb) SL.out (by rw [← HNL.out]; omega)
      dsimp only at ks kt ka kl
      have hA : decide ((x1, x2) ∈ A.toList) = (decide ((x1, x2) ∈ D.toList) && decide ((x1, x2) ∈ E.toList)) := by
        rw [← Bool.decide_and]; exact decide_eq_decide.2 (MA.out _)
      have hL : decide ((x1, x2) ∈ L.toList) = (decide ((x1, x2) ∈ D.toList) && !decide ((x1, x2) ∈ E.toList)) := by
        rw [← decide_not, ← Bool.decide_and]; exact decide_eq_decide.2 (ML.out _)
      have hne : (decide ((x1, x2) ∈ D.toList) || decide ((x1, x2) ∈ E.toList)) = true := by
        rw [← Bool.decide_or]; exact decide_eq_true hDE
      rw [hA] at ka
      rw [hL] at kl
      obtain ⟨bx, hbx⟩ : ∃ b, b = decide ((x1, x2) ∈ D.toList) := ⟨_, rfl⟩
      obtain ⟨bz, hbz⟩ : ∃ b, b = decide ((x1, x2) ∈ E.toList) := ⟨_, rfl⟩
      rw [← hbx] at ks ka kl hne
      rw [← hbz] at kt ka kl hne
      have KS := Lib.hid ks
      have KT := Lib.hid kt
      obtain ⟨ba, hba⟩ : ∃ b, b = (bx && bz) := ⟨_, rfl⟩
      obtain ⟨bl, hbl⟩ : ∃ b, b = (bx && !bz) := ⟨_, rfl⟩
      rw [← hba] at ka
      rw [← hbl] at kl
      have KA := Lib.hid ka
      have KL := Lib.hid kl
      have HWP := Lib.hid hWP
      have eS : (wr.alloc (.cells #[.int .u32 x1, .int .i64 x2] 26)).cell? ⟨w2.heap.size, 0, none⟩ = some (.slice sa sn sc) := hWP ▸ cS
      have eP0 : (wr.alloc (.cells #[.int .u32 x1, .int .i64 x2] 26)).cell? ⟨wr.heap.size, 0, none⟩ = some (.int .u32 x1) := hWP ▸ P0
      have eP1 : (wr.alloc (.cells #[.int .u32 x1, .int .i64 x2] 26)).cell? ⟨wr.heap.size, 1, none⟩ = some (.int .i64 x2) := hWP ▸ P1
      have BP2 := Lib.hid BP
      have bP := Lib.hid bp
      clear hbx hbz hA hL hxm hDE hxx RR RW BV BP bp hWP ks kt ka kl rS rT rA rL
      cases bx <;> cases bz <;> first | (exact absurd hne (by decide)) | skip
      all_goals
        simp only [Bool.and_true, Bool.and_false, Bool.true_and, Bool.false_and, Bool.not_true, Bool.not_false] at hba hbl
        subst hba hbl
        clear hne
        go_wp2_with fail
        rw [← HWP.out]
        refine (KS.out _ (Below.refl _ _)).mono ?_
        rintro e0 w8 ⟨rfl, hb8⟩
        have P0 := aid.kc hb8 P0
        have P1 := aid.kc hb8 P1
        have cT := aid.kc hb8 cT
        have cA := aid.kc hb8 cA
        have cL := aid.kc hb8 cL
        have B8 := Lib.hid hb8
        clear hb8 eS eP0 eP1 cS
        go_wp2_with fail
        refine (KT.out _ B8.out).mono ?_
        rintro e0 w9 ⟨rfl, hb9⟩
        have P0 := aid.kc hb9 P0
        have P1 := aid.kc hb9 P1
        have cA := aid.kc hb9 cA
        have cL := aid.kc hb9 cL
        have B9 := Lib.hid (aid.kb hb9 B8.out)
        clear hb9 cT
        go_wp2_with fail
        refine (KA.out _ B9.out).mono ?_
        rintro e0 wa ⟨rfl, hba⟩
        have P0 := aid.kc hba P0
        have P1 := aid.kc hba P1
        have cL := aid.kc hba cL
        have B10 := Lib.hid (aid.kb hba B9.out)
        clear hba cA
        go_wp2_with fail
        refine (KL.out _ B10.out).mono ?_
        rintro e0 wb ⟨rfl, hbb⟩
        have B11 := Lib.hid (aid.kb (aid.kb (aid.kb hbb B10.out) bP.out) Bl.out)
        clear hbb cL
        go_wp2_with fail
        go_roundw
        case rel => exact ⟨k + 1, by omega, by go_num, B11⟩
        case measure => simp [intOf]; omega
    · have hk' : k = nU := by omega
      subst hk'
      have BV := aid.kb Bl.out B7.out
      have cA := kA ⟨wr, BV⟩
      have cL := kL ⟨wr, BV⟩
      dsimp only at cA cL
      have hback := or_back SD.out MA.out ML.out
      have KO1 := or_ok (.slice la ln lc) (.slice aa an ac) L A wr (RL5.out.below BV) (RA5.out.below BV) QL.out QA.out SL.out SA.out (by rw [← HNL.out]; omega) (by rw [← HNA.out]; omega) (by rw [hback, ← HND.out]; omega)
      rw [hback] at KO1
      have K1 := Lib.hid KO1
      have B8 := Lib.hid BV
      clear hback KO1 BV Bl
      go_wp2_with fail
      refine K1.out.mono ?_
      rintro e0 w8 ⟨⟨o1, rfl, ho1⟩, hb8⟩
      obtain ⟨pa, pn, pc, rfl⟩ : ∃ a n c, o1 = Value.slice a n c := by
        obtain ⟨a, c, h⟩ := pssame.IsRow.shape ho1
        exact ⟨a, _, c, h⟩
      have y8 : Below w8.heap.size w8 (w8.alloc (.cells #[.slice pa pn pc] 29)) := (Below.refl _ _).alloc (Nat.le_refl _) _
      have RB := Lib.hid (ho1.below y8)
      have CB := show (w8.alloc (.cells #[.slice pa pn pc] 29)).cell? ⟨w8.heap.size, 0, none⟩ = some (.slice pa pn pc) by go_simp
      have bb8 := aid.kb y8 (aid.kb hb8 B8.out)
      have cS := kS ⟨_, bb8⟩
      have cT := kT ⟨_, bb8⟩
      dsimp only at cS cT
      have hcomm := or_comm D E
      have KO2 := or_ok (.slice ta tn tc) (.slice sa sn sc) E D _ (RT5.out.below bb8) (RS5.out.below bb8) QT.out QS.out SE.out SD.out (by rw [← HNE.out]; omega) (by rw [← HND.out]; omega) (by rw [hcomm, ← HU.out, ← HNU.out]; omega)
      rw [hcomm, ← HU.out] at KO2
      have K2 := Lib.hid KO2
      have B9 := Lib.hid bb8
      clear hb8 ho1 y8 bb8 hcomm KO2 B8 K1 cA cL
      go_wp2_with fail
      refine K2.out.mono ?_
      rintro e0 w9 ⟨⟨o2, rfl, ho2⟩, hb9⟩
      obtain ⟨ra, rn, rc, rfl⟩ : ∃ a n c, o2 = Value.slice a n c := by
        obtain ⟨a, c, h⟩ := pssame.IsRow.shape ho2
        exact ⟨a, _, c, h⟩
      have y9 : Below w9.heap.size w9 (w9.alloc (.cells #[.slice ra rn rc] 29)) := (Below.refl _ _).alloc (Nat.le_refl _) _
      obtain ⟨X, hX⟩ : ∃ X, X = w9.alloc (.cells #[.slice ra rn rc] 29) := ⟨_, rfl⟩
      have RK := ho2.below y9
      have CK := show (w9.alloc (.cells #[.slice ra rn rc] 29)).cell? ⟨w9.heap.size, 0, none⟩ = some (.slice ra rn rc) by go_simp
      have z9 := aid.kb y9 hb9
      have RB9 := RB.out.below z9
      have CB9 := aid.kc z9 CB
      have BX := aid.kb z9 B9.out
      rw [← hX] at RK CK RB9 CB9 BX
      have HX := Lib.hid hX
      clear hX
      have RSX := RS5.out.below BX
      have RTX := RT5.out.below BX
      have RUX := RU5.out.below BX
      have RLX := RL5.out.below BX
      have k1 := fun s : aid.Keep X => aid.keep_cell CB9 s
      have k2 := fun s : aid.Keep X => aid.keep_cell CK s
      have k3 := fun s : aid.Keep X => kS ⟨s.world, aid.kb s.below BX⟩
      have k4 := fun s : aid.Keep X => kT ⟨s.world, aid.kb s.below BX⟩
      have k5 := fun s : aid.Keep X => kU ⟨s.world, aid.kb s.below BX⟩
      have k6 := fun s : aid.Keep X => kL ⟨s.world, aid.kb s.below BX⟩
      dsimp only at k3 k4 k5 k6
      have m1 := fun s : aid.Keep X => pssame.same_set (.slice pa pn pc) (.slice sa sn sc) D D s.world (RB9.below s.below) (RSX.below s.below) (by rw [← HND.out]; omega)
      have m2 := fun s : aid.Keep X => pssame.same_set (.slice ra rn rc) (.slice ua un uc) U U s.world (RK.below s.below) (RUX.below s.below) (by rw [← HNU.out]; omega)
      have m3 := fun s : aid.Keep X => pssame.same_set (.slice sa sn sc) (.slice ta tn tc) D E s.world (RSX.below s.below) (RTX.below s.below) (by rw [← HND.out]; omega)
      have m4 := fun s : aid.Keep X => NL.out ⟨s.world, aid.kb s.below BX⟩
      have m5 := fun W (hb : Below X.heap.size X W) => less_ok (.slice ta tn tc) (.slice sa sn sc) E D W (RTX.below hb) (RSX.below hb) QT.out QS.out SE.out SD.out (by rw [← HNE.out]; omega) (by rw [← HND.out]; omega)
      dsimp only at m4
      have B5w := B5.out
      have BXW := Lib.hid (aid.kb BX B5.out)
      by_cases hz : nL = 0
      · subst hz
        obtain ⟨q, hq0⟩ : ∃ q, q = decide (D = E) := ⟨_, rfl⟩
        have hQ := Lib.hid hq0
        rw [← hq0] at m3
        clear hq0 B5w
        go_wp2_with fail
        rw [← HX.out]
        refine wp_region_noPanic ?_
        refine wp_region_held_drew (S := fun W => Below X.heap.size X W) (by kernel_rfl) ((Below.refl _ _).drew) (fun hSx => ?_)
        change wpAnyH _ _ _ _ _ 29 _ _ _
        have hS0 : Below X.heap.size X X.drew := hSx
        clear hSx
        refine wpAnyH_take (i := 0) (v := .int .i64 0) rfl (by kernel_rfl) (by kernel_rfl) (by kernel_rfl) (fun _ _ _ h => h) (.inl ⟨rfl, fun _ _ => rfl⟩) hS0 ?_
        try simp only [Act.put, List.setIfInBounds_toArray, List.set_cons_zero, List.set_cons_succ]
        refine wpAnyH_take (i := 1) (v := .bool true) rfl (by kernel_rfl) (by kernel_rfl) (by kernel_rfl) (fun _ _ _ h => h) (.inl ⟨rfl, fun _ _ => rfl⟩) hS0 ?_
        try simp only [Act.put, List.setIfInBounds_toArray, List.set_cons_zero, List.set_cons_succ]
        refine wpAnyH_take (i := 2) (v := .bool true) rfl (by kernel_rfl) (by kernel_rfl) (by kernel_rfl) (fun _ _ _ h => h) (.inl ⟨rfl, fun _ _ => rfl⟩) hS0 ?_
        try simp only [Act.put, List.setIfInBounds_toArray, List.set_cons_zero, List.set_cons_succ]
        refine wpAnyH_take (i := 3) (v := .agg #[.slice pa pn pc]) rfl (by kernel_rfl) (by kernel_rfl) (by kernel_rfl) (fun _ _ _ h => h) (psheld.yields_set rfl (.tmp 15) rfl (w8.heap.size) 0 rfl _ (fun W h => k1 ⟨W, h⟩)) hS0 ?_
        try simp only [Act.put, List.setIfInBounds_toArray, List.set_cons_zero, List.set_cons_succ]
        refine wpAnyH_take (i := 4) (v := .agg #[.slice sa sn sc]) rfl (by kernel_rfl) (by kernel_rfl) (by kernel_rfl) (fun _ _ _ h => h) (psheld.yields_set rfl (.tmp 5) rfl (w2.heap.size) 0 rfl _ (fun W h => k3 ⟨W, h⟩)) hS0 ?_
        try simp only [Act.put, List.setIfInBounds_toArray, List.set_cons_zero, List.set_cons_succ]
        refine wpAnyH_ready (rs := [5]) (by kernel_rfl) (by simp) ?_
        refine AllReadyH.cons rfl (fun K hK => ?_) AllReadyH.nil
        go_simp
        refine (m1 ⟨_, hS0⟩).mono ?_
        rintro e0 wb ⟨rfl, hbb⟩
        have hS1 := aid.kb hbb hS0
        simp only [decide_true]
        go_wp2_with fail
        refine hK.out _ _ hS1 (fun _ => ?_)
        clear hK K
        try simp only [Act.put, List.setIfInBounds_toArray, List.set_cons_zero, List.set_cons_succ]
        refine wpAnyH_take (i := 6) (v := .bool true) rfl (by kernel_rfl) (by kernel_rfl) (by kernel_rfl) (fun _ _ _ h => h) (.inl ⟨rfl, fun _ _ => rfl⟩) hS1 ?_
        try simp only [Act.put, List.setIfInBounds_toArray, List.set_cons_zero, List.set_cons_succ]
        refine wpAnyH_take (i := 7) (v := .bool true) rfl (by kernel_rfl) (by kernel_rfl) (by kernel_rfl) (fun _ _ _ h => h) (.inl ⟨rfl, fun _ _ => rfl⟩) hS1 ?_
        try simp only [Act.put, List.setIfInBounds_toArray, List.set_cons_zero, List.set_cons_succ]
        refine wpAnyH_take (i := 8) (v := .agg #[.slice ra rn rc]) rfl (by kernel_rfl) (by kernel_rfl) (by kernel_rfl) (fun _ _ _ h => h) (psheld.yields_set rfl (.tmp 17) rfl (w9.heap.size) 0 rfl _ (fun W h => k2 ⟨W, h⟩)) hS1 ?_
        try simp only [Act.put, List.setIfInBounds_toArray, List.set_cons_zero, List.set_cons_succ]
        refine wpAnyH_take (i := 9) (v := .agg #[.slice ua un uc]) rfl (by kernel_rfl) (by kernel_rfl) (by kernel_rfl) (fun _ _ _ h => h) (psheld.yields_set rfl (.tmp 7) rfl (w3.heap.size) 0 rfl _ (fun W h => k5 ⟨W, h⟩)) hS1 ?_
        try simp only [Act.put, List.setIfInBounds_toArray, List.set_cons_zero, List.set_cons_succ]
        refine wpAnyH_ready (rs := [10]) (by kernel_rfl) (by simp) ?_
        refine AllReadyH.cons rfl (fun K hK => ?_) AllReadyH.nil
        go_simp
        refine (m2 ⟨_, hS1⟩).mono ?_
        rintro e0 wc ⟨rfl, hbc⟩
        have hS2 := aid.kb hbc hS1
        simp only [decide_true]
        go_wp2_with fail
        refine hK.out _ _ hS2 (fun _ => ?_)
        clear hK K
        try simp only [Act.put, List.setIfInBounds_toArray, List.set_cons_zero, List.set_cons_succ]
        refine wpAnyH_take (i := 11) (v := .bool true) rfl (by kernel_rfl) (by kernel_rfl) (by kernel_rfl) (fun _ _ _ h => h) (.inl ⟨rfl, fun _ _ => rfl⟩) hS2 ?_
        try simp only [Act.put, List.setIfInBounds_toArray, List.set_cons_zero, List.set_cons_succ]
        refine wpAnyH_take (i := 12) (v := .bool true) rfl (by kernel_rfl) (by kernel_rfl) (by kernel_rfl) (fun _ _ _ h => h) (.inl ⟨rfl, fun _ _ => rfl⟩) hS2 ?_
        try simp only [Act.put, List.setIfInBounds_toArray, List.set_cons_zero, List.set_cons_succ]
        refine wpAnyH_take (i := 13) (v := .agg #[.slice sa sn sc]) rfl (by kernel_rfl) (by kernel_rfl) (by kernel_rfl) (fun _ _ _ h => h) (psheld.yields_set rfl (.tmp 5) rfl (w2.heap.size) 0 rfl _ (fun W h => k3 ⟨W, h⟩)) hS2 ?_
        try simp only [Act.put, List.setIfInBounds_toArray, List.set_cons_zero, List.set_cons_succ]
        refine wpAnyH_take (i := 14) (v := .agg #[.slice ta tn tc]) rfl (by kernel_rfl) (by kernel_rfl) (by kernel_rfl) (fun _ _ _ h => h) (psheld.yields_set rfl (.tmp 6) rfl (w2.heap.size + 1) 0 rfl _ (fun W h => k4 ⟨W, h⟩)) hS2 ?_
        try simp only [Act.put, List.setIfInBounds_toArray, List.set_cons_zero, List.set_cons_succ]
        refine wpAnyH_take (i := 16) (v := .agg #[.slice la ln lc]) rfl (by kernel_rfl) (by kernel_rfl) (by kernel_rfl) (fun _ _ _ h => h) (psheld.yields_set rfl (.tmp 10) rfl (w5.heap.size) 0 rfl _ (fun W h => k6 ⟨W, h⟩)) hS2 ?_
        try simp only [Act.put, List.setIfInBounds_toArray, List.set_cons_zero, List.set_cons_succ]
        refine wpAnyH_ready (rs := [15]) (by kernel_rfl) (by simp) ?_
        refine AllReadyH.cons rfl (fun K hK => ?_) AllReadyH.nil
        go_simp
        refine (m3 ⟨_, hS2⟩).mono ?_
        rintro e0 wd ⟨rfl, hbd⟩
        have hS3 := aid.kb hbd hS2
        go_wp2_with fail
        refine hK.out _ _ hS3 (fun _ => ?_)
        clear hK K
        try simp only [Act.put, List.setIfInBounds_toArray, List.set_cons_zero, List.set_cons_succ]
        refine wpAnyH_ready (rs := [17]) (by kernel_rfl) (by simp) ?_
        refine AllReadyH.cons rfl (fun K hK => ?_) AllReadyH.nil
        go_simp
        refine (m4 ⟨_, hS3⟩).mono ?_
        rintro e0 we ⟨rfl, hbe⟩
        have hS4 := aid.kb hbe hS3
        go_wp2_with fail
        refine hK.out _ _ hS4 (fun _ => ?_)
        clear hK K
        try simp only [Act.put, List.setIfInBounds_toArray, List.set_cons_zero, List.set_cons_succ]
        refine wpAnyH_take (i := 18) (v := .bool true) rfl (by kernel_rfl) (by kernel_rfl) (by kernel_rfl) (fun _ _ _ h => h) (.inl ⟨rfl, fun _ _ => rfl⟩) hS4 ?_
        try simp only [Act.put, List.setIfInBounds_toArray, List.set_cons_zero, List.set_cons_succ]
        refine wpAnyH_take (i := 19) (v := .bool true) rfl (by kernel_rfl) (by kernel_rfl) (by kernel_rfl) (fun _ _ _ h => h) (.inl ⟨rfl, fun _ _ => rfl⟩) hS4 ?_
        try simp only [Act.put, List.setIfInBounds_toArray, List.set_cons_zero, List.set_cons_succ]
        refine wpAnyH_take (i := 20) (v := .agg #[.slice ta tn tc]) rfl (by kernel_rfl) (by kernel_rfl) (by kernel_rfl) (fun _ _ _ h => h) (psheld.yields_set rfl (.tmp 6) rfl (w2.heap.size + 1) 0 rfl _ (fun W h => k4 ⟨W, h⟩)) hS4 ?_
        try simp only [Act.put, List.setIfInBounds_toArray, List.set_cons_zero, List.set_cons_succ]
        refine wpAnyH_take (i := 21) (v := .agg #[.slice sa sn sc]) rfl (by kernel_rfl) (by kernel_rfl) (by kernel_rfl) (fun _ _ _ h => h) (psheld.yields_set rfl (.tmp 5) rfl (w2.heap.size) 0 rfl _ (fun W h => k3 ⟨W, h⟩)) hS4 ?_
        try simp only [Act.put, List.setIfInBounds_toArray, List.set_cons_zero, List.set_cons_succ]
        refine wpAnyH_ready (rs := [22]) (by kernel_rfl) (by simp) ?_
        refine AllReadyH.cons rfl (fun K hK => ?_) AllReadyH.nil
        go_simp
        refine (m5 _ hS4).mono ?_
        rintro e0 wf ⟨⟨m, M, rfl, hm, _, sM, _, mM⟩, hbf⟩
        have hS5 := aid.kb hbf hS4
        go_wp2_with fail
        refine hK.out _ _ hS5 (fun _ => ?_)
        clear hK K
        try simp only [Act.put, List.setIfInBounds_toArray, List.set_cons_zero, List.set_cons_succ]
        have hsl := same_less SD.out SE.out ML.out mM
        rw [← HNL.out] at hsl
        obtain ⟨nM, hnM⟩ : ∃ n, n = M.size := ⟨_, rfl⟩
        rw [← hnM] at hsl
        rw [← hQ.out] at hsl
        have hq : (q = true ∧ ((nM : Int) == 0) = true ∧ (nM : Int) = 0) ∨ (q = false ∧ ((nM : Int) == 0) = false ∧ ¬ (nM : Int) = 0) := by
          rw [hsl]
          by_cases h : nM = 0
          · left; subst h; exact ⟨rfl, rfl, rfl⟩
          · right
            have h2 : ¬ (nM : Int) = 0 := by omega
            refine ⟨?_, beq_eq_false_iff_ne.2 h2, h2⟩
            rw [decide_eq_false h, Bool.and_false]
        clear hsl
        have HNM := Lib.hid hnM
        clear hnM
        refine wpAnyH_ready (rs := [23]) (by kernel_rfl) (by simp) ?_
        refine AllReadyH.cons rfl (fun K hK => ?_) AllReadyH.nil
        go_simp
        refine (len_row hm _).mono ?_
        rw [← HNM.out]
        rintro e0 wg ⟨rfl, hbg⟩
        have hS6 := aid.kb hbg hS5
        go_wp2_with fail
        refine hK.out _ _ hS6 (fun _ => ?_)
        clear hK K
        try simp only [Act.put, List.setIfInBounds_toArray, List.set_cons_zero, List.set_cons_succ]
        rcases hq with ⟨rfl, hM1, hM2⟩ | ⟨rfl, hM1, hM2⟩
        all_goals
          refine wpAnyH_ready (rs := [24]) (by kernel_rfl) (by simp) ?_
          refine AllReadyH.cons rfl (fun K hK => ?_) AllReadyH.nil
          go_simp
          refine hK.out _ _ hS6 (fun _ => ?_)
          clear hK K
          try simp only [Act.put, List.setIfInBounds_toArray, List.set_cons_zero, List.set_cons_succ]
          refine wpAnyH_ready (rs := [25]) (by kernel_rfl) (by simp) ?_
          refine AllReadyH.cons rfl (fun K hK => ?_) AllReadyH.nil
          go_simp
          refine hK.out _ _ hS6 (fun _ => ?_)
          clear hK K
          try simp only [Act.put, List.setIfInBounds_toArray, List.set_cons_zero, List.set_cons_succ]
          refine wpAnyH_ready (rs := [26]) (by kernel_rfl) (by simp) ?_
          refine AllReadyH.cons rfl (fun K hK => ?_) AllReadyH.nil
          go_simp
          refine hK.out _ _ hS6 (fun _ => ?_)
          clear hK K
          try simp only [Act.put, List.setIfInBounds_toArray, List.set_cons_zero, List.set_cons_succ]
          refine wpAnyH_ready (rs := [27]) (by kernel_rfl) (by simp) ?_
          refine AllReadyH.cons rfl (fun K hK => ?_) AllReadyH.nil
          go_simp
          refine hK.out _ _ hS6 (fun _ => ?_)
          clear hK K
          try simp only [Act.put, List.setIfInBounds_toArray, List.set_cons_zero, List.set_cons_succ]
          refine wpAnyH_ready (rs := [28]) (by kernel_rfl) (by simp) ?_
          refine AllReadyH.cons rfl (fun K hK => ?_) AllReadyH.nil
          go_simp
          refine hK.out _ _ hS6 (fun _ => ?_)
          clear hK K
          try simp only [Act.put, List.setIfInBounds_toArray, List.set_cons_zero, List.set_cons_succ]
          refine wpAnyH_done (by kernel_rfl) ?_ _
          refine NoPanic.normal ?_
          have B12 := Lib.hid (aid.kb hS6 BXW.out)
          clear hS0 hS1 hS2 hS3 hS4 hS5 hS6 hbb hbc hbd hbe hbf hbg hm sM mM
          go_wp2_with fail
          go_ret
          exact ⟨rfl, B12.out⟩
      · have hse : decide (D = E) = false := by
          refine decide_eq_false (fun h => hz ?_)
          rw [HNL.out]
          rcases Nat.eq_zero_or_pos L.size with h0 | h0
          · exact h0
          · have := (ML.out L[0]!).1 (mem_get.2 ⟨0, h0, rfl⟩)
            rw [h] at this
            exact absurd this.1 this.2
        rw [hse] at m3
        have hz0 : ((nL : Int) == 0) = false := by
          have : (nL : Int) ≠ 0 := by omega
          simpa using this
        simp only [decide_true] at m1 m2
        have M1 := Lib.hid m1
        have M2 := Lib.hid m2
        have M3 := Lib.hid m3
        have M4 := Lib.hid m4
        clear m1 m2 m3 m4 m5 B5w hse hz
        go_wp2_with fail
        rw [← HX.out]
        refine aid.wp_region_keep (by kernel_rfl) (by kernel_rfl) ?_
        repeat (go_big_quiet_step (first | (go_at_call 24; (first | (with_reducible exact aid.keep_call (M1.out _)) | (with_reducible exact aid.keep_call (M2.out _)) | (with_reducible exact aid.keep_call (M3.out _)))) | (go_at_call 14; (with_reducible exact aid.keep_call (M4.out _)))))
        refine wpQuiet_nil ?_
        rintro _ ⟨s, rfl⟩
        go_wp2_with fail
        go_ret
        exact ⟨rfl, aid.kbk BXW.out s⟩

set_option maxRecDepth 100000 in
theorem lifted (os : Os) (started : os.Started) (H : Type) (enc : TypeId × Value → H) :
    ReturnsInHanded {} Try.checked os 4 .any (Rows.psetMergesSpec.pre6 enc Try.prog Try.f4 Rows.psetMergesRow.domain false) (Rows.psetMergesSpec.post enc Try.prog Try.f4 false true false false) := by
  refine returnsInHanded_of_change (C := Try.checked) own started (by kernel_rfl) Try.func4
    (ChangeSpec.witness6 (enc := enc) (C := Try.checked) false ⟨#[], #[.slice none 0 0, .slice none 0 0], []⟩ 8 (by kernel_rfl) (by kernel_rfl) (by kernel_rfl) (by kernel_rfl)) ?_
  intro W base args ds gs before hval0 hW hcnd _
  have hval : ∀ (j : Nat) t v, Try.f4.params[j]? = some t → args[j]? = some v → Value.okWide Try.prog W .any base t v := hval0
  obtain ⟨p, q, hA0, _⟩ := id hW
  have hA : DataW.TrodAll enc Try.prog W 0 (fun _ => true) true Try.f4.params.toList args.toList ds p := hA0
  rw [Try.params4] at hA hval
  obtain ⟨v0, vs0, d0, ds0, p0, q0, hargs, rfl, rfl, h0, r0⟩ := trodAll_cons hA
  obtain ⟨v1, vs1, d1, ds1, p1, q1, rfl, rfl, rfl, h1, r1⟩ := trodAll_cons r0
  obtain ⟨rfl, rfl, rfl⟩ := trodAll_nil r1
  obtain rfl : args = #[v0, v1] := by cases args; simp_all
  obtain ⟨d, hd⟩ := psopen.open_row (hval 0 _ v0 rfl rfl) h0
  obtain ⟨e, he⟩ := psopen.open_row (hval 1 _ v1 rfl rfl) h1
  refine (walk v0 d v1 e W hd he).mono fun e W' ⟨he, hb⟩ => ⟨_, he, ?_⟩
  exact law_post laidOut rfl (by kernel_rfl) Try.underlying4 (by kernel_rfl) (fun ds h => by match ds, h with | [_, _], _ => rfl) hW hb

theorem over : Rows.psetMergesRow.holds Try.pinned (OpenSpec.ofChange Rows.psetMergesSpec) :=
  OpenClaim.holds_of_wide 4 Try.f4 rfl rfl rfl rfl rfl rfl rfl ⟨rfl, rfl, rfl, rfl, rfl⟩ rfl rfl rfl rfl rfl (by kernel_rfl) Try.func4 (by kernel_rfl)
    (of_decide_eq_true (by kernel_rfl)) (by unfold Func.isWrapper; first | (rw [if_pos (by decide +kernel)]; kernel_rfl) | (rw [if_neg (by decide +kernel)]; exact ⟨rfl, rfl⟩))
    (fun os started H enc _ => lifted os started H enc)

theorem proved : Rows.PsetMergesSaid := over
end Go.Proofs.Ytpnbbaocdbopiaa.lawPsetMerges
