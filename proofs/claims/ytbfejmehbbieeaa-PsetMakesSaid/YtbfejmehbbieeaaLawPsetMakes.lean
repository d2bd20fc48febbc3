/- PsetMakes: for any slice of prefixes, any prefix and any address the law answers true: the set of any prefixes, or why there is none; all in order, each once. No condition. -/
import Derived.Test.YtbfejmehbbieeaaPsIn
import Derived.Test.YtbfejmehbbieeaaFrame
import Derived.Deep.CutRange
set_option linter.unusedVariables false
set_option linter.unusedSimpArgs false
namespace Go.Proofs.Ytbfejmehbbieeaa.lawPsetMakes
open Go.ChangeShapes Go.WideShapes Go.ChangeAt Go.RowKit Go.Joins Go.Deep Go.Shelf Go.Lib Go.Sort Go.Proofs.Ytbfejmehbbieeaa.math1 Go.Proofs.Ytbfejmehbbieeaa.frame Go.Proofs.Ytbfejmehbbieeaa.pscmp Go.Proofs.Ytbfejmehbbieeaa.psfind Go.Proofs.Ytbfejmehbbieeaa.pssort Go.Proofs.Ytbfejmehbbieeaa.psuniq Go.Proofs.Ytbfejmehbbieeaa.pscompact Go.Proofs.Ytbfejmehbbieeaa.psof Go.Proofs.Ytbfejmehbbieeaa.psask Go.Proofs.Ytbfejmehbbieeaa.psopen Go.Proofs.Ytbfejmehbbieeaa.pshead Go.Proofs.Ytbfejmehbbieeaa.ref1 Go.Proofs.Ytbfejmehbbieeaa.tritem Go.Proofs.Ytbfejmehbbieeaa.psmakes

set_option maxRecDepth 100000 in
set_option maxHeartbeats 8000000 in
theorem walk (v0 : Value) (d : Array P2) (pa pn y : Int) (w : World) (hd : RowOk w v0 d) (hpa : U32 pa) (hpn : I64 pn) (hy : U32 y) : Calls Try.prog 3 #[v0, .agg #[.int .u32 pa, .int .i64 pn], .int .u32 y] w fun e w' => e = .returned (.bool true) ∧ Below w.heap.size w w' := by
  obtain ⟨hR, hml, hval⟩ := hd
  have hu : AllU d := fun j hj => (hval j hj).1
  obtain ⟨a1, c1, e1⟩ := pssame.IsRow.shape hR
  obtain ⟨N, hN⟩ : ∃ N, N = d.size := ⟨_, rfl⟩
  rw [← hN] at e1
  subst e1
  have ba : Below w.heap.size w (w.alloc (.cells #[.int .u32 pa, .int .i64 pn] 26)) := (Below.refl _ _).alloc (Nat.le_refl _) _
  obtain ⟨W0, hW0⟩ : ∃ W, W = w.alloc (.cells #[.int .u32 pa, .int .i64 pn] 26) := ⟨_, rfl⟩
  have b0 : W0.cell? ⟨w.heap.size, 0, none⟩ = some (.int .u32 pa) := by rw [hW0]; exact aid.new2a _ _ _ _
  have b1 : W0.cell? ⟨w.heap.size, 1, none⟩ = some (.int .i64 pn) := by rw [hW0]; exact aid.new2b _ _ _ _
  rw [← hW0] at ba
  have B0 := Lib.hid ba
  have HR := Lib.hid (hR.below ba)
  have HN := Lib.hid hN
  have HU := Lib.hid hu
  have HY := Lib.hid hy
  have HW0 := Lib.hid hW0
  have KH := Lib.hid (head_true W0)
  clear hR hml hval hu hN ba hW0 hpa hpn hy
  by_cases hbig : 60 < N
  · have g1 : (60 : Int) < (N : Int) := by omega
    go_enter Try.func3, Try.ntmps3
    go_wp2_with fail
    rw [← HW0.out]
    refine KH.out.mono ?_
    rintro e w1 ⟨rfl, hb1⟩
    have B1 := Lib.hid (aid.kb hb1 B0.out)
    clear hb1
    go_wp2_with fail
    go_ret
    exact ⟨rfl, B1.out⟩
  · have g1 : ¬ ((60 : Int) < (N : Int)) := by omega
    go_enter Try.func3, Try.ntmps3
    go_wp2_with fail
    rw [← HW0.out]
    refine KH.out.mono ?_
    rintro e w1 ⟨rfl, hb1⟩
    have B1 := Lib.hid (aid.kb hb1 B0.out)
    have p0 := aid.kc hb1 b0
    have p1 := aid.kc hb1 b1
    have R1 := Lib.hid (HR.out.below hb1)
    have K1 := Lib.hid (of_both _ d w1 R1.out (by rw [← HN.out]; omega) HU.out)
    clear hb1 KH HR b0 b1 B0 HW0
    go_wp2_with fail
    refine K1.out.mono ?_
    rintro e w2 ⟨⟨s'', ev, D, rfl, hs', hcase⟩, hb2⟩
    obtain ⟨sa, cs, hsh⟩ := pssame.IsRow.shape hs'
    obtain ⟨ns, hns⟩ : ∃ x, x = D.size := ⟨_, rfl⟩
    rw [← hns] at hsh
    subst hsh
    clear hns
    rw [← HN.out] at hcase
    have HC := Lib.hid hcase
    have bS : Below w2.heap.size w2 (w2.alloc (.cells #[(.slice sa ns cs)] 29)) := (Below.refl _ _).alloc (Nat.le_refl _) _
    have bI : Below (w2.alloc (.cells #[(.slice sa ns cs)] 29)).heap.size (w2.alloc (.cells #[(.slice sa ns cs)] 29)) ((w2.alloc (.cells #[(.slice sa ns cs)] 29)).alloc (.cells #[] 38)) := (Below.refl _ _).alloc (Nat.le_refl _) _
    have bAll := aid.kb bI bS
    obtain ⟨W3, hW3⟩ : ∃ W, W = (w2.alloc (.cells #[(.slice sa ns cs)] 29)).alloc (.cells #[] 38) := ⟨_, rfl⟩
    obtain ⟨sb, hsb⟩ : ∃ sb, sb = w2.heap.size := ⟨_, rfl⟩
    have sc : W3.cell? ⟨sb, 0, none⟩ = some (.slice sa ns cs) := by rw [hW3]; exact aid.ca _ (World.cell?_alloc_at _ _ _ _ hsb)
    have O3 : Hid (W3.ownsRow (sb + 1) 38 3 (.slice (some ⟨sb + 1, 0, none⟩) 0 0) 0 (fl3 (nubTo d 0))) := Lib.hid (by
      rw [hW3]
      have e : sb + 1 = (w2.alloc (.cells #[(.slice sa ns cs)] 29)).heap.size := by rw [hsb]; simp
      rw [e]
      exact own3_empty _ _ (Nat.le_refl _))
    rw [← hW3] at bAll
    have hb3 := aid.kb bAll hb2
    have B3 := Lib.hid (aid.kb hb3 B1.out)
    have R2 := Lib.hid (R1.out.below hb2)
    have S2 := Lib.hid hs'
    have BALL := Lib.hid (show Below sb w2 W3 from hsb ▸ bAll)
    have HSW : Hid (w.heap.size < sb) := Lib.hid (by rw [hsb]; exact Nat.lt_of_lt_of_le (World.block_lt_of_cell? _ _ p0) hb2.size)
    have q0 := aid.kc hb3 p0
    have q1 := aid.kc hb3 p1
    have HW3 := Lib.hid hW3
    have HSB := Lib.hid hsb
    obtain ⟨pb, hpb⟩ : ∃ pb, pb = w.heap.size := ⟨_, rfl⟩
    have HPB := Lib.hid hpb
    rw [← hpb] at q0 q1
    clear hcase bS bI bAll hW3 hsb hb2 hb3 p0 p1 K1 hs' R1 B1 hpb
    go_wp2_with fail
    rw [← HW3.out, ← HSB.out]
    go_loopw [9, 10, 11, 31] (fun s9 s10 s11 s31 wr => ∃ (k g z cap : Nat) (r c : Bool), s9 = .bool r ∧ s10 = .slice (some ⟨g, 0, none⟩) z cap ∧ s11 = .bool c ∧ s31 = .int .i64 k ∧ k ≤ N ∧ z ≤ k ∧ Hid (r = rTo d k ∧ c = cTo d y k ∧ z = (nubTo d k).size) ∧ Hid (wr.ownsRow (sb + 1) 38 3 (.slice (some ⟨g, 0, none⟩) z cap) z (fl3 (nubTo d k))) ∧ Hid (Below (sb + 1) W3 wr)) (fun _ _ _ s31 _ => N - (intOf s31).toNat)
    case atStart => exact ⟨0, sb + 1, 0, 0, true, false, by go_num, by go_num, by go_num, by go_num, by omega, by omega, Lib.hid ⟨rfl, rfl, rfl⟩, O3, Lib.hid (Below.refl _ _)⟩
    case round =>
      obtain ⟨k, g, z, cap, r, c, rfl, rfl, rfl, rfl, hk, hz, RC, O, BQ⟩ := hrel
      have BW := Lib.hid (show Below sb w2 wr from BALL.out.trans (BQ.out.mono (Nat.le_succ _)))
      by_cases hlt : k < N
      · as_aux_lemma =>
        have hlt2 : (k : Int) < (N : Int) := by omega
        have hkd : k < d.size := by rw [← HN.out]; exact hlt
        have hsw : sb + 1 ≤ wr.heap.size := by have := (owns_cap3 O.out); omega
        obtain ⟨b, o, rfl, _, k0, k1⟩ := row_at (R2.out.below (HSB.out ▸ BW.out)) hkd
        have hux := HU.out k hkd
        have e1 : rTo d (k + 1) = (rTo d k && rightB d[k]!.1 d[k]!.2) := rfl
        have e2 : cTo d y (k + 1) = (cTo d y k || hasB d[k]!.1 d[k]!.2 y) := rfl
        have e3 : nubTo d (k + 1) = if findI (nubTo d k) d[k]!.1 d[k]!.2 < 0 then (nubTo d k).push (d[k]!.1, d[k]!.2, 0) else nubTo d k := rfl
        obtain ⟨⟨x1, x2⟩, hx⟩ : ∃ x, x = d[k]! := ⟨_, rfl⟩
        rw [← hx] at k0 k1 hux e1 e2 e3
        dsimp only at k0 k1 hux e1 e2 e3
        rw [← RC.out.1] at e1
        rw [← RC.out.2.1] at e2
        have E1 := Lib.hid e1
        have E2 := Lib.hid e2
        have E3 := Lib.hid e3
        have HX := Lib.hid hux
        have BX : Below wr.heap.size wr (wr.alloc (.cells #[.int .u32 x1, .int .i64 x2] 26)) := (Below.refl _ _).alloc (Nat.le_refl _) _
        obtain ⟨W4, hW4⟩ : ∃ W, W = wr.alloc (.cells #[.int .u32 x1, .int .i64 x2] 26) := ⟨_, rfl⟩
        obtain ⟨xb, hxb⟩ : ∃ xb, xb = wr.heap.size := ⟨_, rfl⟩
        have m0 : W4.cell? ⟨xb, 0, none⟩ = some (.int .u32 x1) := by rw [hW4, hxb]; exact aid.new2a _ _ _ _
        have m1 : W4.cell? ⟨xb, 1, none⟩ = some (.int .i64 x2) := by rw [hW4, hxb]; exact aid.new2b _ _ _ _
        rw [← hW4] at BX
        have O4 := Lib.hid (own3_below O.out BX)
        have BQ4 := Lib.hid (BQ.out.trans (BX.mono hsw))
        have HW4 := Lib.hid hW4
        have HXB := Lib.hid hxb
        have HS4 : Hid (sb + 1 ≤ W4.heap.size) := Lib.hid (Nat.le_trans hsw BX.size)
        clear hx hux e1 e2 e3 hW4 hxb BX O BQ BW
        go_upto_region 12 with (fail)
        rw [← HW4.out, ← HXB.out]
        go_cut [9] from 32 to 67 (fun s9 wx => s9 = .bool (rTo d (k + 1)) ∧ Hid (Below W4.heap.size W4 wx))
        case first => as_aux_lemma =>
          cases r with
          | true =>
            have KR := Lib.hid (right_any x1 x2 W4 HX.out.1 HX.out.2)
            go_wp2_with fail
            refine KR.out.mono ?_
            rintro e v ⟨rfl, hb⟩
            have BV := Lib.hid hb
            clear hb
            go_wp2_with fail
            go_meet
            exact ⟨by rw [E1.out, Bool.true_and], BV⟩
          | false =>
            go_wp2_with fail
            go_meet
            exact ⟨by rw [E1.out, Bool.false_and], Lib.hid (Below.refl _ _)⟩
        case rest => as_aux_lemma =>
        obtain ⟨rfl, hbc⟩ := hcut
        have n0 := aid.kc hbc.out m0
        have n1 := aid.kc hbc.out m1
        have O5 := Lib.hid (own3_below O4.out hbc.out)
        have BQ5 := Lib.hid (BQ4.out.trans (hbc.out.mono HS4.out))
        have HS5 : Hid (sb + 1 ≤ wc.heap.size) := Lib.hid (Nat.le_trans HS4.out hbc.out.size)
        clear m0 m1 hbc O4 BQ4 HS4 HW4 HXB
        go_upto_region 13 with (fail)
        obtain ⟨W5, rfl⟩ : ∃ W, W = wc := ⟨_, rfl⟩
        go_cut [11] from 32 to 67 (fun s11 wx => s11 = .bool (cTo d y (k + 1)) ∧ Hid (Below W5.heap.size W5 wx))
        case first => as_aux_lemma =>
          cases c with
          | false =>
            have KR := Lib.hid (has_any x1 x2 y W5 HX.out.1 HX.out.2 HY.out.1 HY.out.2)
            go_wp2_with fail
            refine KR.out.mono ?_
            rintro e v ⟨rfl, hb⟩
            have BV := Lib.hid hb
            clear hb
            go_wp2_with fail
            go_meet
            exact ⟨by rw [E2.out, Bool.false_or], BV⟩
          | true =>
            go_wp2_with fail
            go_meet
            exact ⟨by rw [E2.out, Bool.true_or], Lib.hid (Below.refl _ _)⟩
        case rest => as_aux_lemma =>
        obtain ⟨rfl, hbd⟩ := hcut
        have t0 := aid.kc hbd.out n0
        have t1 := aid.kc hbd.out n1
        have o6 := own3_below O5.out hbd.out
        have O6 := Lib.hid o6
        have BQ6 := Lib.hid (BQ5.out.trans (hbd.out.mono HS5.out))
        have HS6 : Hid (sb + 1 ≤ wc.heap.size) := Lib.hid (Nat.le_trans HS5.out hbd.out.size)
        have hnz := nub_size d k
        have KF := find_any (.slice (some ⟨g, 0, none⟩) z cap) (nubTo d k) x1 x2 wc (items_of_own o6) (by omega)
        obtain ⟨F, hF⟩ : ∃ F, F = findI (nubTo d k) x1 x2 := ⟨_, rfl⟩
        rw [← hF] at KF E3
        have KFH := Lib.hid KF
        have RZ := Lib.hid RC.out.2.2
        clear n0 n1 hbd O5 BQ5 HS5 KF o6 hF RC hnz
        go_wp2_with fail
        refine KFH.out.mono ?_
        rintro e v7 ⟨rfl, hb7⟩
        have u0 := aid.kc hb7 t0
        have u1 := aid.kc hb7 t1
        have O7 := Lib.hid (own3_below O6.out hb7)
        have BQ7 := Lib.hid (BQ6.out.trans (hb7.mono HS6.out))
        have HS7 : Hid (sb + 1 ≤ v7.heap.size) := Lib.hid (Nat.le_trans HS6.out hb7.size)
        clear t0 t1 hb7 O6 BQ6 HS6 KFH
        by_cases hF0 : F < 0
        · have f0 : decide (F < 0) = true := decide_eq_true hF0
          obtain ⟨it, i1, i2, i3, i4⟩ := infoItem3
          have J1 := Lib.hid i1
          have J2 := Lib.hid i2
          have J3 := Lib.hid i3
          have J4 := Lib.hid i4
          have E4 := Lib.hid (show nubTo d (k + 1) = (nubTo d k).push (x1, x2, 0) by rw [E3.out, if_pos hF0])
          have OWN := Lib.hid (World.ownsRow.alloc O7.out (.cells #[.int .u32 x1, .int .i64 x2, .int .i64 0] 38))
          have hs7 := HS7.out
          have BC := Lib.hid (BQ7.out.alloc hs7 (.cells #[.int .u32 x1, .int .i64 x2, .int .i64 0] 38))
          have NW := Lib.hid (new3 v7 (x1, x2, 0) 38)
          have hgb := Lib.hid (O7.out.lt g rfl).1
          clear i1 i2 i3 i4 hF0
          go_wp2_with (at_builtin; refine wpList_append_lies _ rfl (.tmp 59) (.tmp 65) 33 rfl (sb + 1) 38 it (.agg #[.int .u32 0, .int .i64 0, .int .i64 0]) 3 24 Try.underlying33 J1.out J2.out J3.out J4.out rfl (by decide) (.slice (some ⟨g, 0, none⟩) z cap) z (fl3 (nubTo d k)) rfl OWN.out ⟨v7.heap.size, 0, none⟩ 1 1 (enc3 (x1, x2, 0)) rfl rfl NW.out (enc3_one _) (by decide) (by unfold maxLen; omega) (by omega) (by simp; omega) _ rfl ?_)
          intro g' cap' w8 hown8 hgrow8 hat8 hlt8
          have O8 := Lib.hid (show w8.ownsRow (sb + 1) 38 3 (.slice (some ⟨g', 0, none⟩) (z + 1) cap') (z + 1) (fl3 (nubTo d (k + 1))) from by
            rw [E4.out, fl3_push]; exact hown8)
          have B8 := Lib.hid (BC.out.grown hgrow8 (by simp; omega) (fun q hq => by
            simp only [Value.ownBlock, Option.some.injEq] at hq
            have := hgb.out
            omega))
          have RC8 : Hid (z + 1 = (nubTo d (k + 1)).size) := Lib.hid (by rw [E4.out, Array.size_push, ← RZ.out])
          clear hown8 hgrow8 hat8 hlt8
          go_wp2_with fail
          go_roundw
          case rel => exact ⟨k + 1, g', z + 1, cap', _, _, rfl, rfl, rfl, by go_num, by omega, by omega, Lib.hid ⟨rfl, rfl, RC8.out⟩, O8, B8⟩
          case measure => simp [intOf]; omega
        · have f0 : decide (F < 0) = false := decide_eq_false hF0
          have E4 := Lib.hid (show nubTo d (k + 1) = nubTo d k by rw [E3.out, if_neg hF0])
          have O8 := Lib.hid (show v7.ownsRow (sb + 1) 38 3 (.slice (some ⟨g, 0, none⟩) z cap) z (fl3 (nubTo d (k + 1))) from by rw [E4.out]; exact O7.out)
          have RC8 : Hid (z = (nubTo d (k + 1)).size) := Lib.hid (by rw [E4.out]; exact RZ.out)
          clear hF0
          go_wp2_with fail
          go_roundw
          case rel => exact ⟨k + 1, g, z, cap, _, _, rfl, rfl, rfl, by go_num, by omega, by omega, Lib.hid ⟨rfl, rfl, RC8.out⟩, O8, BQ7⟩
          case measure => simp [intOf]; omega
      · as_aux_lemma =>
        obtain rfl : N = k := by omega
        have S4 := S2.out.below (HSB.out ▸ BW.out)
        have sc4 := (BQ.out.cell (p := ⟨sb, 0, none⟩) (Nat.lt_succ_self _)).trans sc
        have q04 := (BQ.out.cell (p := ⟨pb, 0, none⟩) (by show pb < sb + 1; have := HSW.out; have := HPB.out; omega)).trans q0
        have q14 := (BQ.out.cell (p := ⟨pb, 1, none⟩) (by show pb < sb + 1; have := HSW.out; have := HPB.out; omega)).trans q1
        have R4 := Lib.hid (R2.out.below (HSB.out ▸ BW.out))
        have BF := Lib.hid (show Below w.heap.size w wr from B3.out.trans (BQ.out.mono (by have := HSW.out; omega)))
        have I4 := Lib.hid (items_of_own O.out)
        clear sc q0 q1 BQ O BALL B3 R2 O3
        rcases HC.out with ⟨hr, rfl, rfl⟩ | ⟨hr, rfl, rfl⟩
        · as_aux_lemma =>
          obtain rfl : r = true := by rw [RC.out.1, hr]
          have hok : AllOk d := fun j hj => (rTo_iff d N).1 hr j (by rw [HN.out]; exact hj)
          have hzN : z = (nubTo d d.size).size := by rw [← HN.out]; exact RC.out.2.2
          have hnu : ∀ j, j < (nubTo d d.size).size → 0 ≤ (nubTo d d.size)[j]!.1 ∧ (nubTo d d.size)[j]!.1 < 4294967296 := fun j hj => by
            obtain ⟨i, hi, e⟩ := (nub_all d d.size).1 (nubTo d d.size)[j]! (by rw [getElem!_pos _ j hj]; simp)
            rw [e]; exact HU.out i hi
          have i4 := I4.out
          rw [HN.out] at i4
          have KS := Lib.hid (sorted_any (some ⟨g, 0, none⟩) z cap (nubTo d d.size) 0 0 wr i4 hzN (by omega) (by decide) hnu)
          have HOK := Lib.hid hok
          have CC := Lib.hid (show coversD (mk d) y = c by rw [cov_mk, RC.out.2.1, HN.out])
          have S4H := Lib.hid S4
          clear hr hok hzN hnu i4 I4 S4 RC
          go_wp2_with fail
          refine KS.out.mono ?_
          rintro e v5 ⟨⟨g2, cap2, out, rfl, it5, pm5, od5⟩, hb5⟩
          have SM := sorted_mk HOK.out HU.out pm5 od5
          obtain ⟨M, hM⟩ : ∃ M, M = out.size := ⟨_, rfl⟩
          rw [← hM] at it5 ⊢
          have SMH := Lib.hid SM
          have HM := Lib.hid hM
          have I5 := Lib.hid it5
          have sc5 := aid.kc hb5 sc4
          have q05 := aid.kc hb5 q04
          have q15 := aid.kc hb5 q14
          have S5 := Lib.hid (S4H.out.below hb5)
          have R5 := Lib.hid (R4.out.below hb5)
          have BF5 := Lib.hid (aid.kb hb5 BF.out)
          have msz : (mk d).size = M := by rw [hM]; exact SM.1.symm
          have hM60 : M ≤ 60 := by have := mk_size d; have := HN.out; omega
          have MSZ := Lib.hid msz
          have KL := Lib.hid (list_any (.slice sa ns cs) (mk d) v5 S5.out (by omega))
          clear SM pm5 od5 it5 hM sc4 q04 q14 hb5 KS S4H R4 BF msz
          go_wp2_with fail
          refine KL.out.mono ?_
          rintro e v6 ⟨⟨s6, rfl, hs6⟩, hb6⟩
          obtain ⟨a6, c6, e6⟩ := pssame.IsRow.shape hs6
          rw [MSZ.out] at e6
          subst e6
          have L6 := Lib.hid hs6
          have sc6 := aid.kc hb6 sc5
          have q06 := aid.kc hb6 q05
          have q16 := aid.kc hb6 q15
          have S6 := Lib.hid (S5.out.below hb6)
          have R6 := Lib.hid (R5.out.below hb6)
          have I6 := Lib.hid (I5.out.below hb6)
          have BF6 := Lib.hid (aid.kb hb6 BF5.out)
          rw [HPB.out] at q06 q16
          have SC := aid.keep_cell sc6
          have Q0 := aid.keep_cell q06
          have Q1 := aid.keep_cell q16
          obtain ⟨h, hh⟩ : ∃ h, h = decide ((pa, pn) ∈ (mk d).toList) := ⟨_, rfl⟩
          have hh2 : h = decide ((pa, pn) ∈ d.toList) := by rw [hh, decide_eq_decide]; exact mk_mem d _
          have umk : AllU (mk d) := fun j hj => by
            obtain ⟨i, hi, e⟩ := mem_get.1 ((mk_mem d (mk d)[j]!).1 (mem_get.2 ⟨j, hj, rfl⟩))
            rw [← e]; exact HU.out i hi
          have K1 := fun s : aid.Keep v6 => len_any (.slice sa ns cs) s.world M (by
            rcases S6.out.below s.below with ⟨e, e2⟩ | ⟨b, o, cp, e, _⟩
            · exact .inl ⟨e, by rw [← MSZ.out, e2]; rfl⟩
            · exact .inr ⟨_, _, by rw [← MSZ.out]; exact e⟩)
          have K2 := fun s : aid.Keep v6 => has_set (.slice sa ns cs) (mk d) (pa, pn) s.world (S6.out.below s.below) (mk_strict d) (by have := MSZ.out; omega)
          have K3 := fun s : aid.Keep v6 => in_any _ d pa pn s.world (R6.out.below s.below) (by have := HN.out; omega)
          have K4 := fun s : aid.Keep v6 => covers_set (.slice sa ns cs) (mk d) y s.world (S6.out.below s.below) umk HY.out (by have := MSZ.out; omega)
          rw [CC.out] at K4
          dsimp only at K2
          rw [← hh] at K2
          rw [← hh2] at K3
          have K1H := Lib.hid K1
          have K2H := Lib.hid K2
          have K3H := Lib.hid K3
          have K4H := Lib.hid K4
          have mm : ((M : Int) == (M : Int)) = true := by simp
          have hq : (h == h) = true := by simp
          have cq : (c == c) = true := by simp
          clear hs6 hb6 sc5 q05 q15 S5 R5 I5 BF5 K1 K2 K3 K4 hh hh2 umk KL
          go_wp2_with fail
          refine aid.wp_region_keep (by kernel_rfl) (by kernel_rfl) ?_
          repeat (go_big_quiet_step ((first
            | (go_at_call 14; (with_reducible exact aid.keep_call (K1H.out _)))
            | (go_at_call 17; (with_reducible exact aid.keep_call (K2H.out _)))
            | (go_at_call 18; (with_reducible exact aid.keep_call (K3H.out _)))
            | (go_at_call 19; (with_reducible exact aid.keep_call (K4H.out _))))))
          refine wpQuiet_nil ?_
          rintro _ ⟨s, rfl⟩
          obtain ⟨W7, hW7⟩ : ∃ W, W = s.world := ⟨_, rfl⟩
          have L7 := Lib.hid (L6.out.below s.below)
          have I7 := Lib.hid (I6.out.below s.below)
          have BF7 := Lib.hid (aid.kb s.below BF6.out)
          rw [← hW7] at L7 I7 BF7 ⊢
          clear hW7 SC Q0 Q1 L6 I6 BF6 S6 R6 K1H K2H K3H K4H sc6 q06 q16
          go_wp2_with fail
          go_loopw [115] (fun s115 wq => ∃ k : Nat, k ≤ M ∧ s115 = .int .i64 k ∧ Hid (Below W7.heap.size W7 wq)) (fun s115 _ => M - (intOf s115).toNat)
          case atStart => exact ⟨0, by omega, rfl, Lib.hid (Below.refl _ _)⟩
          case round =>
            obtain ⟨k, hk, rfl, BL⟩ := hrel
            by_cases hlt : k < M
            · have hlt2 : (k : Int) < (M : Int) := by omega
              have hk0 : (0 : Int) ≤ (k : Int) := by omega
              obtain ⟨b8, o8, rfl, _, k0, k1⟩ := row_at (L7.out.below BL.out) (k := k) (by rw [MSZ.out]; exact hlt)
              have sm := SMH.out.2 k (by rw [← HM.out]; exact hlt)
              have i7 := I7.out.below BL.out
              obtain ⟨bi, oi, ei, j0, j1, _⟩ := i7.at (k := k) (by rw [← HM.out]; exact hlt)
              simp only [Option.some.injEq, Addr.mk.injEq, and_true] at ei
              obtain ⟨rfl, rfl⟩ := ei
              rw [sm.1] at j0
              rw [sm.2] at j1
              obtain ⟨⟨x1, x2⟩, hx⟩ : ∃ x, x = (mk d)[k]! := ⟨_, rfl⟩
              rw [← hx] at k0 k1 j0 j1
              dsimp only at k0 k1 j0 j1
              simp only [Nat.zero_add] at j0 j1
              have BXb : Below wr.heap.size wr (wr.alloc (.cells #[.int .u32 x1, .int .i64 x2] 26)) := (Below.refl _ _).alloc (Nat.le_refl _) _
              obtain ⟨W8, hW8⟩ : ∃ W, W = wr.alloc (.cells #[.int .u32 x1, .int .i64 x2] 26) := ⟨_, rfl⟩
              obtain ⟨xb, hxb⟩ : ∃ xb, xb = wr.heap.size := ⟨_, rfl⟩
              have m0 : W8.cell? ⟨xb, 0, none⟩ = some (.int .u32 x1) := by rw [hW8, hxb]; exact aid.new2a _ _ _ _
              have m1 : W8.cell? ⟨xb, 1, none⟩ = some (.int .i64 x2) := by rw [hW8, hxb]; exact aid.new2b _ _ _ _
              rw [← hW8] at BXb
              have M0 := aid.keep_cell m0
              have M1 := aid.keep_cell m1
              have J0 := aid.keep_cell (aid.kc BXb j0)
              have J1 := aid.keep_cell (aid.kc BXb j1)
              have BX := Lib.hid (aid.kb BXb BL.out)
              have HW8 := Lib.hid hW8
              have HXB := Lib.hid hxb
              have xx1 : (x1 == x1) = true := by simp
              have xx2 : (x2 == x2) = true := by simp
              clear hx hW8 hxb BXb m0 m1 j0 j1 sm i7
              go_upto_region 26 with (fail)
              rw [← HW8.out, ← HXB.out]
              refine aid.wp_region_keep (by kernel_rfl) (by kernel_rfl) ?_
              repeat (go_big_quiet_step (fail))
              refine wpQuiet_nil ?_
              rintro _ ⟨s2, rfl⟩
              have BY := Lib.hid (aid.kb s2.below BX.out)
              go_wp2_with fail
              go_roundw
              case rel => exact ⟨k + 1, by omega, by go_num, BY⟩
              case measure => simp [intOf]; omega
            · have FINB := Lib.hid (aid.kb BL.out BF7.out)
              have hkM : k = M := by omega
              subst hkM
              go_wp2_with fail
              go_ret
              exact ⟨rfl, FINB.out⟩
        · as_aux_lemma =>
          obtain rfl : r = false := by rw [RC.out.1, hr]
          have K1 := Lib.hid (len_any (.slice sa ns cs) wr 0 (by
            rcases S4 with ⟨e, _⟩ | ⟨b, o, cp, e, _⟩
            · exact .inl ⟨e, rfl⟩
            · exact .inr ⟨_, _, e⟩))
          clear hr RC S4
          go_wp2_with fail
          refine K1.out.mono ?_
          rintro e v9 ⟨rfl, hb9⟩
          have B9 := Lib.hid (aid.kb hb9 BF.out)
          clear hb9 K1
          go_wp2_with fail
          go_ret
          exact ⟨rfl, B9.out⟩

set_option maxRecDepth 100000 in
theorem lifted (os : Os) (started : os.Started) (H : Type) (enc : TypeId × Value → H) :
    ReturnsInHanded {} Try.checked os 3 .any (Rows.psetMakesSpec.pre6 enc Try.prog Try.f3 Rows.psetMakesRow.domain false) (Rows.psetMakesSpec.post enc Try.prog Try.f3 false true false false) := by
  refine returnsInHanded_of_change (C := Try.checked) own started (by kernel_rfl) Try.func3
    (ChangeSpec.witness6 (enc := enc) (C := Try.checked) false ⟨#[], #[.slice none 0 0, .agg #[.int .u32 0, .int .i64 0], .int .u32 0], []⟩ 8 (by kernel_rfl) (by kernel_rfl) (by kernel_rfl) (by kernel_rfl)) ?_
  intro W base args ds gs before hval0 hW hcnd _
  have hval : ∀ (j : Nat) t v, Try.f3.params[j]? = some t → args[j]? = some v → Value.okWide Try.prog W .any base t v := hval0
  obtain ⟨p, q, hA0, _⟩ := id hW
  have hA : DataW.TrodAll enc Try.prog W 0 (fun _ => true) true Try.f3.params.toList args.toList ds p := hA0
  rw [Try.params3] at hA hval
  obtain ⟨v0, vs0, d0, ds0, p0, q0, hargs, rfl, rfl, h0, r0⟩ := trodAll_cons hA
  obtain ⟨v1, vs1, d1, ds1, p1, q1, rfl, rfl, rfl, h1, r1⟩ := trodAll_cons r0
  obtain ⟨v2, vs2, d2, ds2, p2, q2, rfl, rfl, rfl, h2, r2⟩ := trodAll_cons r1
  obtain ⟨rfl, rfl, rfl⟩ := trodAll_nil r2
  obtain rfl : args = #[v0, v1, v2] := by cases args; simp_all
  obtain ⟨d, hd⟩ := psopen.open_row (hval 0 _ v0 rfl rfl) h0
  obtain ⟨pa, pn, rfl, hpa, hpn⟩ := open_pfx (hval 1 _ v1 rfl rfl) h1
  obtain ⟨y, rfl, hy⟩ := open_u32 Try.underlying24 (hval 2 _ v2 rfl rfl) h2
  refine (walk v0 d pa pn y W hd hpa hpn hy).mono fun e W' ⟨he, hb⟩ => ⟨_, he, ?_⟩
  exact law_post laidOut rfl (by kernel_rfl) Try.underlying4 (by kernel_rfl) (fun ds h => by match ds, h with | [_, _, _], _ => rfl) hW hb

theorem over : Rows.psetMakesRow.holds Try.pinned (OpenSpec.ofChange Rows.psetMakesSpec) :=
  OpenClaim.holds_of_wide 3 Try.f3 rfl rfl rfl rfl rfl rfl rfl ⟨rfl, rfl, rfl, rfl, rfl⟩ rfl rfl rfl rfl rfl (by kernel_rfl) Try.func3 (by kernel_rfl)
    (of_decide_eq_true (by kernel_rfl)) (by unfold Func.isWrapper; first | (rw [if_pos (by decide +kernel)]; kernel_rfl) | (rw [if_neg (by decide +kernel)]; exact ⟨rfl, rfl⟩))
    (fun os started H enc _ => lifted os started H enc)

theorem proved : Rows.PsetMakesSaid := over

end Go.Proofs.Ytbfejmehbbieeaa.lawPsetMakes
