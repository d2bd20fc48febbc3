/- ClockRuns: for any slice of steps the law answers true: whatever is set, stopped and asked for. No condition. -/
import Derived.Test.YthcbhehdilaejaaCkRuns
set_option linter.unusedVariables false
set_option linter.unusedSimpArgs false
namespace Go.Proofs.Ythcbhehdilaejaa.lawClockRuns
open Go.ChangeShapes Go.WideShapes Go.ChangeAt Go.RowKit Go.Lib Go.Shelf Go.Proofs.Ythcbhehdilaejaa.frame Go.Proofs.Ythcbhehdilaejaa.ckmath Go.Proofs.Ythcbhehdilaejaa.ck Go.Proofs.Ythcbhehdilaejaa.ckopen Go.Proofs.Ythcbhehdilaejaa.lawClockLate Go.Proofs.Ythcbhehdilaejaa.ckall

set_option maxRecDepth 100000 in
set_option maxHeartbeats 16000000 in
theorem walk (v0 : Value) (d : Array I4) (w : World) (hd : RowO w v0 d ∧ ∀ j, j < d.size → I64 d[j]!.1 ∧ I64 d[j]!.2.1 ∧ I64 d[j]!.2.2.1 ∧ I64 d[j]!.2.2.2) : Calls Try.prog 3 #[v0] w fun e w' => e = .returned (.bool true) ∧ Below w.heap.size w w' := by
  obtain ⟨hR, hI⟩ := hd
  obtain ⟨a1, c1, e1⟩ := hR.shape
  obtain ⟨N, hN⟩ : ∃ N, N = d.size := ⟨_, rfl⟩
  rw [← hN] at e1
  subst e1
  have HR := Lib.hid hR
  have HN := Lib.hid hN
  have KH := Lib.hid (head_true w)
  clear hR hI hN
  go_enter Try.func3, Try.ntmps3
  go_wp2_with fail
  refine KH.out.mono ?_
  rintro e w1 ⟨rfl, b1⟩
  have B1 := Lib.hid b1
  have K0 := Lib.hid (new_any w1.heap.size w1 (Nat.le_refl _))
  clear b1 KH
  go_wp2_with fail
  refine K0.out.mono ?_
  rintro e w2 ⟨rfl, c2, b2⟩
  have BA : Below w2.heap.size w2 (w2.alloc (.cells #[] 30)) := (Below.refl _ _).alloc (Nat.le_refl _) _
  have S0 : Hid (St w w1.heap.size 0 [] w2.heap.size 0 (.slice none 0 0) (w2.alloc (.cells #[] 30))) := Lib.hid ⟨c2.below BA, World.ownsRow_made w2 #[] 0 (by have := b2.size; have := B1.out.size; omega) (by unfold maxLen; omega) rfl, fun hm => by
    obtain ⟨l, h, _⟩ := c2.ex
    have := (h.hp.ownLt hm).2
    omega, aid.kb BA (aid.kb b2 B1.out), B1.out.size⟩
  obtain ⟨cb, hcb⟩ : ∃ cb, cb = w1.heap.size := ⟨_, rfl⟩
  rw [← hcb] at S0 ⊢
  clear b2 c2 K0 hcb BA
  go_wp2_with fail
  go_loopw [4, 5, 6] (fun s4 s5 s6 wr => ∃ (i : Nat) (now : Int) (al : List E) (g n cap : Nat) (v : Value), s4 = .int .i64 now ∧ s5 = .slice (some ⟨g, 0, none⟩) n cap ∧ s6 = .int .i64 i ∧ i ≤ N ∧ i ≤ 80 ∧ n ≤ i ∧ Hid (n = al.length) ∧ Hid (St w cb now al g cap v wr)) (fun _ _ s6 _ => N - (intOf s6).toNat)
  case atStart => exact ⟨0, 0, [], w2.heap.size, 0, 0, _, by go_num, by go_num, by go_num, by omega, by omega, by omega, Lib.hid rfl, S0⟩
  case round => as_aux_lemma =>
    obtain ⟨i, now, al, g, n, cap, v, rfl, rfl, rfl, hi, hi80, hni, AL, S⟩ := hrel
    by_cases hlt : i < N
    · have hlt2 : (i : Int) < (N : Int) := by omega
      have hlt3 : decide ((i : Int) < (N : Int)) = true := decide_eq_true hlt2
      by_cases h80 : i < 80
      · have h80' : decide ((i : Int) < 80) = true := decide_eq_true (by omega)
        obtain ⟨rb, ro, rfl, hrb, r0, r1, r2, r3⟩ := HR.out.at (k := i) (by rw [← HN.out]; exact hlt)
        have q0 := (S.out.bl.cell (p := ⟨rb, ro + i * 4, none⟩) hrb).trans r0
        have q1 := (S.out.bl.cell (p := ⟨rb, ro + i * 4 + 1, none⟩) hrb).trans r1
        have q2 := (S.out.bl.cell (p := ⟨rb, ro + i * 4 + 2, none⟩) hrb).trans r2
        have q3 := (S.out.bl.cell (p := ⟨rb, ro + i * 4 + 3, none⟩) hrb).trans r3
        obtain ⟨⟨K, name, by_, at_⟩, hx⟩ : ∃ x, x = d[i]! := ⟨_, rfl⟩
        rw [← hx] at q0 q1 q2 q3
        dsimp only at q0 q1 q2 q3
        clear r0 r1 r2 r3 hx
        obtain ⟨ob, hob⟩ : ∃ ob, ob = wr.heap.size := ⟨_, rfl⟩
        have BO : Below wr.heap.size wr (wr.alloc (.cells #[.int .i64 K, .int .i64 name, .int .i64 by_, .int .i64 at_] 28)) := (Below.refl _ _).alloc (Nat.le_refl _) _
        have S1 := Lib.hid (S.out.below BO)
        have o0 : (wr.alloc (.cells #[.int .i64 K, .int .i64 name, .int .i64 by_, .int .i64 at_] 28)).cell? ⟨ob, 0, none⟩ = some (.int .i64 K) := World.cell?_alloc_at _ _ _ _ hob
        have o1 : (wr.alloc (.cells #[.int .i64 K, .int .i64 name, .int .i64 by_, .int .i64 at_] 28)).cell? ⟨ob, 1, none⟩ = some (.int .i64 name) := World.cell?_alloc_at _ _ _ _ hob
        have OBN : Hid (ob ≠ g ∧ ¬ mine cb v ob) := Lib.hid ⟨fun e => by have := (owns_cap S.out.own).2.1; omega, fun hm => by
          obtain ⟨l, h, _⟩ := S.out.ck.ex
          have := (h.hp.ownLt hm).2
          omega⟩
        have OBW : Hid (w.heap.size ≤ ob) := Lib.hid (by rw [hob]; exact S.out.bl.size)
        have HOB := Lib.hid hob
        obtain ⟨W1, hW1⟩ : ∃ W, W = wr.alloc (.cells #[.int .i64 K, .int .i64 name, .int .i64 by_, .int .i64 at_] 28) := ⟨_, rfl⟩
        rw [← hW1] at S1 o0 o1
        have HW1 := Lib.hid hW1
        clear BO S hob hW1
        go_upto_if 45 with (fail)
        rw [← HW1.out, ← HOB.out]
        go_cut [8] from 24 to 257 (fun s8 wx => (∃ t : Int, s8 = .int .i64 t) ∧ wx = W1)
        case first => as_aux_lemma =>
          have o3 : W1.cell? ⟨ob, 3, none⟩ = some (.int .i64 at_) := by rw [HW1.out]; exact World.cell?_alloc_at _ _ _ _ HOB.out
          by_cases h4 : 4 ≤ K
          · have h4' : decide (4 ≤ K) = true := decide_eq_true h4
            go_wp2_with fail
            go_meet
            exact ⟨⟨_, rfl⟩, rfl⟩
          · have h4' : decide (4 ≤ K) = false := decide_eq_false h4
            go_wp2_with fail
            go_meet
            exact ⟨⟨_, rfl⟩, rfl⟩
        case rest => as_aux_lemma =>
          obtain ⟨⟨t, rfl⟩, rfl⟩ := hcut
          have hng : n ≤ 80 := by omega
          go_wp2_with fail
          go_loopw [9, 50] (fun s9 s50 wq => ∃ (j : Nat) (k : Int), s9 = .int .i64 k ∧ s50 = .int .i64 j ∧ j ≤ n ∧ Hid (kOf al name j k) ∧ Hid (Below wc.heap.size wc wq)) (fun _ s50 _ => n - (intOf s50).toNat)
          case atStart => exact ⟨0, -1, by go_num, by go_num, by omega, Lib.hid (.inl ⟨rfl, fun j hj => by omega⟩), Lib.hid (Below.refl _ _)⟩
          case round =>
            obtain ⟨j, k, rfl, rfl, hj, KO, BQ⟩ := hrel
            by_cases hjn : j < n
            · as_aux_lemma =>
              have hjn2 : (j : Int) < (n : Int) := by omega
              have hjl : j < al.length := by rw [← AL.out]; exact hjn
              have rr := (ownS_row (S1.out.below BQ.out).own).2 j hjl
              obtain ⟨p0, p1⟩ := rr
              have ks := kOf_step KO.out hjl
              obtain ⟨⟨y1, y2⟩, hy⟩ : ∃ y, y = al[j]! := ⟨_, rfl⟩
              rw [← hy] at p0 p1 ks
              dsimp only at p0 p1 ks
              have t1 := (BQ.out.cell (World.block_lt_of_cell? _ _ o1)).trans o1
              have BX := Lib.hid (aid.kb ((Below.refl wr.heap.size wr).alloc (Nat.le_refl _) (.cells #[.int .i64 y2, .int .i64 y1] 30)) BQ.out)
              clear hy
              by_cases he : y2 = name
              · subst he
                have t1' := aid.ca (.cells #[.int .i64 y2, .int .i64 y1] 30) t1
                have he' : (y2 == y2) = true := by simp
                rw [if_pos rfl] at ks
                have KS := Lib.hid ks
                clear ks
                go_wp2_with fail
                go_roundw
                case rel => exact ⟨j + 1, j, by go_num, by go_num, by omega, KS, BX⟩
                case measure => simp [intOf]; omega
              · have t1' := aid.ca (.cells #[.int .i64 y2, .int .i64 y1] 30) t1
                have he' : (y2 == name) = false := by simp [he]
                rw [if_neg he] at ks
                have KS := Lib.hid ks
                clear ks
                go_wp2_with fail
                go_roundw
                case rel => exact ⟨j + 1, k, by go_num, by go_num, by omega, KS, BX⟩
                case measure => simp [intOf]; omega
            · as_aux_lemma =>
              obtain rfl : n = j := by omega
              have S2 := Lib.hid (S1.out.below BQ.out)
              have t0 := (BQ.out.cell (World.block_lt_of_cell? _ _ o0)).trans o0
              have t1 := (BQ.out.cell (World.block_lt_of_cell? _ _ o1)).trans o1
              clear BQ S1 o0 o1 HW1 HOB
              have HCB := Lib.hid S2.out.hB
              have KC := Lib.hid (kOf_cases (by rw [← AL.out]; exact KO.out))
              clear KO
              go_upto_block 4 with (fail)
              go_cut [4, 5] from 24 to 257 (fun s4 s5 wx => ∃ (now2 : Int) (g2 n2 cap2 : Nat) (v2 : Value) (al2 : List E), s4 = .int .i64 now2 ∧ s5 = .slice (some ⟨g2, 0, none⟩) n2 cap2 ∧ Hid (n2 = al2.length) ∧ n2 ≤ i + 1 ∧ Hid (St w cb now2 al2 g2 cap2 v2 wx))
              case first => as_aux_lemma =>
                by_cases hK : K = 0 ∨ K = 4
                · as_aux_lemma =>
                  go_upto_if 64 with (fail)
                  go_cut [64] from 24 to 257 (fun s64 wx => s64 = .bool true ∧ wx = wr)
                  case first => as_aux_lemma =>
                    rcases hK with rfl | rfl
                    · go_wp2_with fail
                      go_meet
                      exact ⟨rfl, rfl⟩
                    · go_wp2_with fail
                      go_meet
                      exact ⟨rfl, rfl⟩
                  case rest =>
                  obtain ⟨rfl, rfl⟩ := hcut
                  clear hK
                  by_cases hbad : t < now ∨ 1073741824 < t
                  · as_aux_lemma =>
                    have K1 := Lib.hid (set_bad S2.out.ck name t hbad)
                    by_cases hb1 : t < now
                    · have d1 : decide (t < now) = true := decide_eq_true hb1
                      clear hbad
                      go_wp2_with fail
                      refine K1.out.mono ?_
                      rintro e w3 ⟨rfl, rfl⟩
                      have S4 := S2
                      clear K1
                      go_wp2_with fail
                      go_meet
                      exact ⟨now, g, n, cap, v, al, rfl, rfl, AL, by omega, S4⟩
                    · have d1 : decide (t < now) = false := decide_eq_false hb1
                      have d2 : decide (1073741824 < t) = true := decide_eq_true (by omega)
                      clear hbad
                      go_wp2_with fail
                      refine K1.out.mono ?_
                      rintro e w3 ⟨rfl, rfl⟩
                      have S4 := S2
                      clear K1
                      go_wp2_with fail
                      go_meet
                      exact ⟨now, g, n, cap, v, al, rfl, rfl, AL, by omega, S4⟩
                  · have d1 : decide (t < now) = false := decide_eq_false (by omega)
                    have d2 : decide (1073741824 < t) = false := decide_eq_false (by omega)
                    have hb1 : now ≤ t := by omega
                    have hb2 : t ≤ 1073741824 := by omega
                    rcases KC.out with ⟨rfl, hno⟩ | ⟨j, a, rfl, hj, hx, hp⟩
                    · as_aux_lemma =>
                      have K1 := Lib.hid (set_new S2.out.ck hno (by have := AL.out; omega) t hb1 hb2)
                      clear hbad hno
                      go_wp2_with fail
                      refine K1.out.mono ?_
                      rintro e w3 ⟨rfl, v3, c3, t3⟩
                      have S3 := Lib.hid (S2.out.call c3 t3)
                      have n1 := (t3.kept.cell t1 OBN.out.2)
                      obtain ⟨it, i1, i2, i3, i4⟩ := infoDueS
                      have J1 := Lib.hid i1
                      have J2 := Lib.hid i2
                      have J3 := Lib.hid i3
                      have J4 := Lib.hid i4
                      have OW := S3.out.2.1
                      rw [← AL.out] at OW
                      have OWN := Lib.hid (OW.alloc (.cells #[.int .i64 name, .int .i64 t] 30))
                      have HB3 : w.heap.size ≤ w3.heap.size + 1 := by have := S3.out.2.2.2.size; omega
                      have E1 : ∀ u ∈ encS (t, name), u.oneCell' = true := fun u hu => by simp [encS] at hu; rcases hu with rfl | rfl <;> rfl
                      have NW := Lib.hid (show ∀ (q : Nat) u, (encS (t, name))[q]? = some u → (w3.alloc (.cells #[.int .i64 name, .int .i64 t] 30)).cell? ((⟨w3.heap.size, 0, none⟩ : Addr).add q) = some u from fun q u hu => by
                        rw [Addr.add_mid]
                        match q, hu with
                        | 0, hu => simp [encS] at hu; rw [← hu]; exact aid.new2a w3 _ _ _
                        | 1, hu => simp [encS] at hu; rw [← hu]; exact aid.new2b w3 _ _ _
                        | q + 2, hu => simp [encS] at hu)
                      have hn9 : n ≤ 80 := by omega
                      clear c3 t3 i1 i2 i3 i4 OW K1
                      go_wp2_with (at_builtin; refine wpList_append_lies _ rfl (.tmp 72) (.tmp 77) 26 rfl w.heap.size 30 it (.agg #[.int .i64 0, .int .i64 0]) 2 16 Try.underlying26 J1.out J2.out J3.out J4.out rfl (by decide) (.slice (some ⟨g, 0, none⟩) n cap) n (flS al) rfl OWN.out ⟨w3.heap.size, 0, none⟩ 1 1 (encS (t, name)) rfl rfl NW.out E1 (by decide) (by unfold maxLen; omega) (by omega) (by simp; omega) _ rfl ?_)
                      intro g2 cap2 w4 hown4 hgrow4 hat4 hlt4
                      have o4 := hown4
                      rw [AL.out] at o4
                      have S4 := Lib.hid (St.more HCB.out S3.out o4 hgrow4 hat4)
                      have AL4 : Hid (n + 1 = (al ++ [(t, name)]).length) := Lib.hid (by rw [List.length_append, AL.out]; rfl)
                      clear hown4 hgrow4 hat4 o4
                      go_wp2_with fail
                      go_meet
                      exact ⟨now, g2, n + 1, cap2, v3, _, rfl, rfl, AL4, by omega, S4⟩
                    · as_aux_lemma =>
                      have K1 := Lib.hid (set_old (S2.out.ck.perm hp) t hb1 hb2)
                      have HX := Lib.hid hx
                      have HJ := Lib.hid hj
                      clear hbad hx hp
                      go_wp2_with fail
                      refine K1.out.mono ?_
                      rintro e w3 ⟨rfl, c3, t3⟩
                      have S3 := Lib.hid (show Ck w3 cb cb v now ((t, name) :: al.eraseIdx j) ∧ w3.ownsRow w.heap.size 30 2 (.slice (some ⟨g, 0, none⟩) al.length cap) al.length (flS al) ∧ ¬ mine cb v g ∧ Below w.heap.size w w3 from S2.out.call c3 t3)
                      have rr := ((ownS_row S3.out.2.1).2 j HJ.out).2
                      have fz := S3.out.2.1.frozenAt (j * 2 + 1)
                      have jn : j < n := by have := AL.out; omega
                      have j1 : (0 : Int) ≤ (j : Int) := by omega
                      have j2 : (j : Int) < (n : Int) := by omega
                      have S4 := Lib.hid (St.turn HCB.out HJ.out HX.out S3.out)
                      have AL4 : Hid (n = (al.set j (t, name)).length) := Lib.hid (by rw [List.length_set, AL.out])
                      obtain ⟨z, hz⟩ : ∃ z, z = al[j]!.1 := ⟨_, rfl⟩
                      rw [← hz] at rr
                      clear c3 t3 hz K1 hj
                      go_wp2_with fail
                      go_meet
                      exact ⟨now, g, n, cap, v, _, rfl, rfl, AL4, by omega, S4⟩

                by_cases hK : K = 1
                · as_aux_lemma =>
                  subst hK
                  rcases KC.out with ⟨rfl, hno⟩ | ⟨j, a, rfl, hj, hx, hp⟩
                  · have K1 := Lib.hid (stop_no S2.out.ck hno)
                    clear hno
                    go_wp2_with fail
                    refine K1.out.mono ?_
                    rintro e w3 ⟨rfl, b3⟩
                    have S4 := Lib.hid (S2.out.below b3)
                    clear b3 K1
                    go_wp2_with fail
                    go_meet
                    exact ⟨now, g, n, cap, v, al, rfl, rfl, AL, by omega, S4⟩
                  · have K1 := Lib.hid (stop_yes (S2.out.ck.perm hp))
                    have HJ := Lib.hid hj
                    have j1 : (0 : Int) ≤ (j : Int) := by omega
                    clear hx hp hj
                    go_wp2_with fail
                    refine K1.out.mono ?_
                    rintro e w3 ⟨rfl, v3, c3, t3⟩
                    have S3 := S2.out.call c3 t3
                    have C3 := Lib.hid S3.1
                    have O3 := Lib.hid S3.2.1
                    have B3 := Lib.hid S3.2.2.2
                    clear c3 t3 S3 K1
                    go_wp2_with fail
                    obtain ⟨it, i1, i2, i3, i4⟩ := infoDueS
                    have J1 := Lib.hid i1
                    have J2 := Lib.hid i2
                    have J3 := Lib.hid i3
                    have J4 := Lib.hid i4
                    have jn : j < n := by have := HJ.out; have := AL.out; omega
                    have ncap := (owns_cap O3.out).1
                    rw [← AL.out] at ncap
                    have jz0 : (0 : Int) ≤ (j : Int) := by omega
                    have jz1 : (j : Int) ≤ (cap : Int) := by omega
                    have jz2 : (j : Int) ≤ (n : Int) := by omega
                    have jz3 : (j : Int) + 1 ≤ (n : Int) := by omega
                    have jz4 : (n : Int) ≤ (cap : Int) := by omega
                    have jz5 : (0 : Int) ≤ (j : Int) + 1 := by omega
                    have jz6 : ((j : Int) + 1).toNat = j + 1 := by omega
                    have jz7 : ((j : Int)).toNat = j := rfl
                    have jz8 : j ≤ cap := by omega
                    have jw : IntKind.i64.wrap ((j : Int) + 1) = (j : Int) + 1 := IntWalk.i64_in _ (by omega)
                    have OE := Lib.hid (World.ownsRow.drew (World.ownsRow_made w3 (e := 30) (size := 2) #[] 0 (Nat.le_refl _) (by unfold maxLen; omega) rfl))
                    have BE := Lib.hid (((Below.refl w3.heap.size w3).alloc (Nat.le_refl _) (.cells #[] 30)).drew)
                    have RB := Lib.hid (show RowS (w3.alloc (.cells #[] 30)).drew g al from (ownS_row (ownS_same O3.out (BE.out.block g (owns_cap O3.out).2.1))).2)
                    have glt : g < w3.heap.size := (owns_cap O3.out).2.1
                    have T1 := Lib.hid (rowS_part RB.out 0 j (by have := HJ.out; omega))
                    have L1 : (flS ((al.drop 0).take j)).length = j * 2 := by rw [flS_len, List.length_take, List.length_drop]; have := HJ.out; omega
                    have L2 : (flS ((al.drop (j + 1)).take (al.length - (j + 1)))).length = (n - (j + 1)) * 2 := by rw [flS_len, List.length_take, List.length_drop, ← AL.out]; omega
                    have GLT : g < (w3.alloc (.cells #[] 30)).drew.heap.size := by simp; omega
                    have GNE : g ≠ w3.heap.size := by omega
                    have T2 := Lib.hid (fun (w' : World) (h : (w3.alloc (.cells #[] 30)).drew.grownBy w' (some w3.heap.size)) => rowS_part (RowS.grown RB.out h GLT GNE) (j + 1) (al.length - (j + 1)) (by have := HJ.out; omega))
                    have FIN := Lib.hid (fun (w5 : World) (g2 cap2 mm : Nat) (o : w5.ownsRow w3.heap.size 30 2 (.slice (some ⟨g2, 0, none⟩) mm cap2) mm (([] ++ flS ((al.drop 0).take j)) ++ flS ((al.drop (j + 1)).take (al.length - (j + 1))))) (b : Below w3.heap.size w3 w5) => St.drop HCB.out HJ.out C3.out B3.out o b)
                    have HSZ0 : Hid (al.length - (j + 1) = n - (j + 1)) := Lib.hid (by rw [AL.out])
                    clear i1 i2 i3 i4
                    by_cases hcz : cap = j + 1
                    · have hnz : n - (j + 1) = 0 := by omega
                      rw [hnz] at L2
                      have NV := Lib.hid (show ∀ W : World, ∀ (q : Nat) u, (flS ((al.drop (j + 1)).take (al.length - (j + 1))))[q]? = some u → W.cell? ((⟨g, 0, none⟩ : Addr).add q) = some u from fun W q u hu => by
                        have := (List.getElem?_eq_some_iff.1 hu).1
                        rw [L2] at this
                        omega)
                      obtain ⟨nz, hnz2⟩ : ∃ x, x = n := ⟨_, rfl⟩
                      obtain rfl : n = j + 1 := by omega
                      subst hcz
                      clear hnz hnz2 T2 HSZ0
                      go_region_held_law (fun _ => True) (trivial) (first
                        | (refine step_append_any (by rfl) (.tmp 111) (.tmp 114) 26 (by rfl) w3.heap.size 30 it (.agg #[.int .i64 0, .int .i64 0]) 2 16 Try.underlying26 J1.out J2.out J3.out J4.out rfl (by decide) w3.heap.size 0 0 [] (by rfl) OE.out ⟨g, 0, none⟩ j (j + 1) (flS ((al.drop 0).take j)) (by rfl) L1 (by simpa using T1.out) (flS_one _) (by unfold maxLen; omega) (by omega) (by simp) ?_; intro g1 cap1 w4 hown4 hgrow4)
                        | (refine step_append_any (by rfl) (.tmp 115) (.tmp 119) 26 (by rfl) w3.heap.size 30 it (.agg #[.int .i64 0, .int .i64 0]) 2 16 Try.underlying26 J1.out J2.out J3.out J4.out rfl (by decide) g1 cap1 (0 + j) ([] ++ flS ((al.drop 0).take j)) (by rfl) hown4 ⟨g, 0, none⟩ 0 0 (flS ((al.drop (j + 1)).take (al.length - (j + 1)))) (by rfl) L2 (NV.out _) (flS_one _) (by unfold maxLen; omega) (by omega) (by have := (BE.out.grown hgrow4 (by simp) (fun q hq => by have := Option.some.inj hq; omega)).size; omega) ?_; intro g2 cap2 w5 hown5 hgrow5))
                      all_goals
                        have b4 := BE.out.grown hgrow4 (by simp) (fun q hq => by have := Option.some.inj hq; omega)
                        have b5 := b4.grown hgrow5 b4.size (fun q hq => by have := Option.some.inj hq; have := (hown4.lt g1 rfl).1; omega)
                        have RES := Lib.hid (FIN.out _ _ _ _ hown5 b5)
                        clear b4 b5 hown4 hown5 hgrow4 hgrow5
                        simp only [Act.put, List.getElem_toArray, List.getElem_cons_zero, List.getElem_cons_succ, List.setIfInBounds_toArray, List.set_cons_zero, List.set_cons_succ]
                        go_wp2_with fail
                        go_meet
                        exact ⟨_, _, _, _, _, al.eraseIdx j, rfl, rfl, Lib.hid (by have := RES.out.2; omega), by omega, Lib.hid RES.out.1⟩
                    · go_region_held_law (fun _ => True) (trivial) (first
                        | (refine step_append_any (by rfl) (.tmp 111) (.tmp 114) 26 (by rfl) w3.heap.size 30 it (.agg #[.int .i64 0, .int .i64 0]) 2 16 Try.underlying26 J1.out J2.out J3.out J4.out rfl (by decide) w3.heap.size 0 0 [] (by rfl) OE.out ⟨g, 0, none⟩ j cap (flS ((al.drop 0).take j)) (by rfl) L1 (by simpa using T1.out) (flS_one _) (by unfold maxLen; omega) (by omega) (by simp) ?_; intro g1 cap1 w4 hown4 hgrow4)
                        | (refine step_append_any (by rfl) (.tmp 115) (.tmp 119) 26 (by rfl) w3.heap.size 30 it (.agg #[.int .i64 0, .int .i64 0]) 2 16 Try.underlying26 J1.out J2.out J3.out J4.out rfl (by decide) g1 cap1 (0 + j) ([] ++ flS ((al.drop 0).take j)) (by rfl) hown4 ⟨g, (j + 1) * 2, none⟩ (n - (j + 1)) (cap - (j + 1)) (flS ((al.drop (j + 1)).take (al.length - (j + 1)))) (by rfl) L2 (T2.out _ hgrow4) (flS_one _) (by unfold maxLen; omega) (by omega) (by have := (BE.out.grown hgrow4 (by simp) (fun q hq => by have := Option.some.inj hq; omega)).size; omega) ?_; intro g2 cap2 w5 hown5 hgrow5))
                      all_goals
                        have b4 := BE.out.grown hgrow4 (by simp) (fun q hq => by have := Option.some.inj hq; omega)
                        have b5 := b4.grown hgrow5 b4.size (fun q hq => by have := Option.some.inj hq; have := (hown4.lt g1 rfl).1; omega)
                        have RES := Lib.hid (FIN.out _ _ _ _ hown5 b5)
                        clear b4 b5 hown4 hown5 hgrow4 hgrow5
                        simp only [Act.put, List.getElem_toArray, List.getElem_cons_zero, List.getElem_cons_succ, List.setIfInBounds_toArray, List.set_cons_zero, List.set_cons_succ]
                        go_wp2_with fail
                        go_meet
                        exact ⟨_, _, _, _, _, al.eraseIdx j, rfl, rfl, Lib.hid (by have := RES.out.2; omega), by omega, Lib.hid RES.out.1⟩

                by_cases hK : K = 2
                · as_aux_lemma =>
                  subst hK
                  rcases KC.out with ⟨rfl, hno⟩ | ⟨j, a, rfl, hj, hx, hp⟩
                  · have K1 := Lib.hid (when_no S2.out.ck hno)
                    clear hno
                    go_wp2_with fail
                    refine K1.out.mono ?_
                    rintro e w3 ⟨rfl, b3⟩
                    have S4 := Lib.hid (S2.out.below b3)
                    clear b3 K1
                    go_wp2_with fail
                    go_meet
                    exact ⟨now, g, n, cap, v, al, rfl, rfl, AL, by omega, S4⟩
                  · have K1 := Lib.hid (when_yes (S2.out.ck.perm hp))
                    have jn : j < n := by have := AL.out; omega
                    have j1 : (0 : Int) ≤ (j : Int) := by omega
                    have j2 : (j : Int) < (n : Int) := by omega
                    have rr := ((ownS_row S2.out.own).2 j hj).2
                    rw [hx] at rr
                    dsimp only at rr
                    have aa : (a == a) = true := by simp
                    clear hx hp hj
                    go_wp2_with fail
                    refine K1.out.mono ?_
                    rintro e w3 ⟨rfl, b3⟩
                    have S4 := Lib.hid (S2.out.below b3)
                    have r4 := (b3.cell (World.block_lt_of_cell? _ _ rr)).trans rr
                    clear b3 K1
                    go_wp2_with fail
                    go_meet
                    exact ⟨now, g, n, cap, v, al, rfl, rfl, AL, by omega, S4⟩

                by_cases hK : K = 3 ∨ K = 5
                · as_aux_lemma =>
                  have hk0 : (K == 0) = false := by simp; omega
                  have hk1 : (K == 1) = false := by simp; omega
                  have hk2 : (K == 2) = false := by simp; omega
                  have hk4 : (K == 4) = false := by simp; omega
                  go_upto_if 154 with (fail)
                  go_cut [154] from 24 to 257 (fun s64 wx => s64 = .bool true ∧ wx = wr)
                  case first => as_aux_lemma =>
                    rcases hK with rfl | rfl
                    · go_wp2_with fail
                      go_meet
                      exact ⟨rfl, rfl⟩
                    · go_wp2_with fail
                      go_meet
                      exact ⟨rfl, rfl⟩
                  case rest =>
                  obtain ⟨rfl, rfl⟩ := hcut
                  clear hK hk0 hk1 hk2 hk4
                  have hnow : now ≤ 1073741824 := S2.out.ck.t1
                  go_upto_if 159 with (fail)
                  go_cut [8] from 24 to 257 (fun s8 wx => (∃ t1 : Int, s8 = .int .i64 t1 ∧ now ≤ t1) ∧ wx = wc)
                  case first => as_aux_lemma =>
                    by_cases h1 : t < now
                    · have d1 : decide (t < now) = true := decide_eq_true h1
                      go_wp2_with fail
                      go_meet
                      exact ⟨⟨_, rfl, Int.le_refl _⟩, rfl⟩
                    · have d1 : decide (t < now) = false := decide_eq_false h1
                      go_wp2_with fail
                      go_meet
                      exact ⟨⟨_, rfl, by omega⟩, rfl⟩
                  case rest =>
                  obtain ⟨⟨t2, rfl, ht2⟩, rfl⟩ := hcut
                  go_upto_if 162 with (fail)
                  go_cut [8] from 24 to 257 (fun s8 wx => (∃ t1 : Int, s8 = .int .i64 t1 ∧ now ≤ t1 ∧ t1 ≤ 1073741824) ∧ wx = wc)
                  case first => as_aux_lemma =>
                    by_cases h1 : 1073741824 < t2
                    · have d1 : decide (1073741824 < t2) = true := decide_eq_true h1
                      go_wp2_with fail
                      go_meet
                      exact ⟨⟨_, rfl, hnow, Int.le_refl _⟩, rfl⟩
                    · have d1 : decide (1073741824 < t2) = false := decide_eq_false h1
                      go_wp2_with fail
                      go_meet
                      exact ⟨⟨_, rfl, ht2, by omega⟩, rfl⟩
                  case rest =>
                  obtain ⟨⟨U, rfl, hU1, hU2⟩, rfl⟩ := hcut
                  go_wp2_with fail
                  go_loopw [15, 165] (fun s15 s165 wq => ∃ (j : Nat) (f : Int), s15 = .int .i64 f ∧ s165 = .int .i64 j ∧ j ≤ n ∧ Hid (fOf al U j f) ∧ Hid (Below wc.heap.size wc wq)) (fun _ s165 _ => n - (intOf s165).toNat)
                  case atStart => exact ⟨0, -1, by go_num, by go_num, by omega, Lib.hid (.inl ⟨rfl, fun q hq => by omega⟩), Lib.hid (Below.refl _ _)⟩
                  case round =>
                    obtain ⟨j, f, rfl, rfl, hj, FO, BQ⟩ := hrel
                    by_cases hjn : j < n
                    · as_aux_lemma =>
                      have hjn2 : (j : Int) < (n : Int) := by omega
                      have hjl : j < al.length := by rw [← AL.out]; exact hjn
                      have RW := (ownS_row (S2.out.below BQ.out).own).2
                      obtain ⟨p0, p1⟩ := RW j hjl
                      have fskip := Lib.hid (fun h => fOf_skip (i := j) FO.out h)
                      obtain ⟨⟨y1, y2⟩, hy⟩ : ∃ y, y = al[j]! := ⟨_, rfl⟩
                      rw [← hy] at p0 p1
                      dsimp only at p0 p1
                      have HY := Lib.hid hy
                      have BXb := (Below.refl wr.heap.size wr).alloc (Nat.le_refl _) (.cells #[.int .i64 y2, .int .i64 y1] 30)
                      have BX := Lib.hid (aid.kb BXb BQ.out)
                      clear hy
                      obtain ⟨bx, hbx⟩ : ∃ bx, bx = wr.heap.size := ⟨_, rfl⟩
                      have m0 : (wr.alloc (.cells #[.int .i64 y2, .int .i64 y1] 30)).cell? ⟨bx, 0, none⟩ = some (.int .i64 y2) := World.cell?_alloc_at _ _ _ _ hbx
                      have m1 : (wr.alloc (.cells #[.int .i64 y2, .int .i64 y1] 30)).cell? ⟨bx, 1, none⟩ = some (.int .i64 y1) := World.cell?_alloc_at _ _ _ _ hbx
                      have HBX := Lib.hid hbx
                      obtain ⟨WX, hWX⟩ : ∃ W, W = wr.alloc (.cells #[.int .i64 y2, .int .i64 y1] 30) := ⟨_, rfl⟩
                      have HWX := Lib.hid hWX
                      rw [← hWX] at m0 m1 BX
                      clear hbx hWX BXb
                      have M0 := aid.keep_cell m0
                      have M1 := aid.keep_cell m1
                      by_cases hle : y1 ≤ U
                      · have c0 : decide (y1 ≤ U) = true := decide_eq_true hle
                        rcases FO.out with ⟨rfl, hq⟩ | ⟨m, rfl, hm, hmU, hq⟩
                        · have FS := Lib.hid (fOf_new FO.out (by rw [← HY.out]; exact hle))
                          have g0 : decide ((-1 : Int) < 0) = true := by decide
                          clear FO fskip hq RW
                          go_upto_region 51 with (fail)
                          rw [← HWX.out, ← HBX.out]
                          refine aid.wp_region_keep (by kernel_rfl) (by kernel_rfl) ?_
                          repeat (go_big_quiet_step (fail))
                          refine wpQuiet_nil ?_
                          rintro _ ⟨s, rfl⟩
                          have BY := Lib.hid (aid.kb s.below BX.out)
                          go_wp2_with fail
                          go_roundw
                          case rel => exact ⟨j + 1, j, by go_num, by go_num, by omega, FS, BY⟩
                          case measure => simp [intOf]; omega

                        · have hml : m < al.length := by omega
                          obtain ⟨u0, u1⟩ := RW m hml
                          obtain ⟨⟨z1, z2⟩, hz⟩ : ∃ z, z = al[m]! := ⟨_, rfl⟩
                          rw [← hz] at u0 u1
                          dsimp only at u0 u1
                          have HZ := Lib.hid hz
                          have FL := Lib.hid (fun h => fOf_less FO.out (by rw [← HY.out]; exact hle) h)
                          have FK := Lib.hid (fun h => fOf_keep FO.out h)
                          have u0' : WX.cell? ⟨g, m * 2, none⟩ = some (.int .i64 z2) := by rw [HWX.out]; exact aid.ca _ u0
                          have u1' : WX.cell? ⟨g, m * 2 + 1, none⟩ = some (.int .i64 z1) := by rw [HWX.out]; exact aid.ca _ u1
                          have U0 := aid.keep_cell u0'
                          have U1 := aid.keep_cell u1'
                          have g0 : decide ((m : Int) < 0) = false := decide_eq_false (by omega)
                          have g1 : (0 : Int) ≤ (m : Int) := by omega
                          have g2 : (m : Int) < (n : Int) := by omega
                          have e1 : ltE al[j]! al[m]! = ltE (y1, y2) (z1, z2) := by rw [← HY.out, ← HZ.out]
                          have E1 := Lib.hid e1
                          clear hz FO fskip hq RW e1
                          by_cases h1 : y1 < z1
                          · have d1 : decide (y1 < z1) = true := decide_eq_true h1
                            have FS := Lib.hid (FL.out (by rw [E1.out, ltE_iff]; exact .inl h1))
                            go_upto_region 51 with (fail)
                            rw [← HWX.out, ← HBX.out]
                            refine aid.wp_region_keep (by kernel_rfl) (by kernel_rfl) ?_
                            repeat (go_big_quiet_step (fail))
                            refine wpQuiet_nil ?_
                            rintro _ ⟨s, rfl⟩
                            have BY := Lib.hid (aid.kb s.below BX.out)
                            go_wp2_with fail
                            go_roundw
                            case rel => exact ⟨j + 1, j, by go_num, by go_num, by omega, FS, BY⟩
                            case measure => simp [intOf]; omega

                          · have d1 : decide (y1 < z1) = false := decide_eq_false h1
                            by_cases h2 : y1 = z1
                            · subst h2
                              have d2 : (y1 == y1) = true := by simp
                              by_cases h3 : y2 < z2
                              · have d3 : decide (y2 < z2) = true := decide_eq_true h3
                                have FS := Lib.hid (FL.out (by rw [E1.out, ltE_iff]; exact .inr ⟨rfl, h3⟩))
                                go_upto_region 51 with (fail)
                                rw [← HWX.out, ← HBX.out]
                                refine aid.wp_region_keep (by kernel_rfl) (by kernel_rfl) ?_
                                repeat (go_big_quiet_step (fail))
                                refine wpQuiet_nil ?_
                                rintro _ ⟨s, rfl⟩
                                have BY := Lib.hid (aid.kb s.below BX.out)
                                go_wp2_with fail
                                go_roundw
                                case rel => exact ⟨j + 1, j, by go_num, by go_num, by omega, FS, BY⟩
                                case measure => simp [intOf]; omega

                              · have d3 : decide (y2 < z2) = false := decide_eq_false h3
                                have FS := Lib.hid (FK.out (by rw [E1.out, geE_iff]; dsimp only; omega))
                                go_upto_region 51 with (fail)
                                rw [← HWX.out, ← HBX.out]
                                refine aid.wp_region_keep (by kernel_rfl) (by kernel_rfl) ?_
                                repeat (go_big_quiet_step (fail))
                                refine wpQuiet_nil ?_
                                rintro _ ⟨s, rfl⟩
                                have BY := Lib.hid (aid.kb s.below BX.out)
                                go_wp2_with fail
                                go_roundw
                                case rel => exact ⟨j + 1, m, by go_num, by go_num, by omega, FS, BY⟩
                                case measure => simp [intOf]; omega

                            · have d2 : (y1 == z1) = false := by simp [h2]
                              have FS := Lib.hid (FK.out (by rw [E1.out, geE_iff]; dsimp only; omega))
                              go_upto_region 51 with (fail)
                              rw [← HWX.out, ← HBX.out]
                              refine aid.wp_region_keep (by kernel_rfl) (by kernel_rfl) ?_
                              repeat (go_big_quiet_step (fail))
                              refine wpQuiet_nil ?_
                              rintro _ ⟨s, rfl⟩
                              have BY := Lib.hid (aid.kb s.below BX.out)
                              go_wp2_with fail
                              go_roundw
                              case rel => exact ⟨j + 1, m, by go_num, by go_num, by omega, FS, BY⟩
                              case measure => simp [intOf]; omega

                      · have c0 : decide (y1 ≤ U) = false := decide_eq_false hle
                        have FS := Lib.hid (fskip.out (by rw [← HY.out]; dsimp only; omega))
                        clear FO fskip RW
                        go_upto_region 51 with (fail)
                        rw [← HWX.out, ← HBX.out]
                        refine aid.wp_region_keep (by kernel_rfl) (by kernel_rfl) ?_
                        repeat (go_big_quiet_step (fail))
                        refine wpQuiet_nil ?_
                        rintro _ ⟨s, rfl⟩
                        have BY := Lib.hid (aid.kb s.below BX.out)
                        go_wp2_with fail
                        go_roundw
                        case rel => exact ⟨j + 1, f, by go_num, by go_num, by omega, FS, BY⟩
                        case measure => simp [intOf]; omega

                    · as_aux_lemma =>
                      obtain rfl : n = j := by omega
                      have S5 := Lib.hid (S2.out.below BQ.out)
                      have FE := FO.out
                      rw [AL.out] at FE
                      rcases fOf_end FE with ⟨rfl, hall⟩ | ⟨m, a, nm, rfl, hm, hx, hle, hp, hmin⟩
                      · as_aux_lemma =>
                        clear FE FO
                        by_cases hnil : al = []
                        · have K1 := Lib.hid (next_empty (hnil ▸ S5.out.ck) U hU1 hU2)
                          have ALN := Lib.hid hnil
                          clear hnil hall
                          go_wp2_with fail
                          refine K1.out.mono ?_
                          rintro e w3 ⟨rfl, c3, t3⟩
                          have S6 := S5.out.call c3 t3
                          have S4 : Hid (St w cb U al g cap v w3) := Lib.hid ⟨by rw [ALN.out]; exact S6.1, S6.2.1, S6.2.2.1, S6.2.2.2, HCB.out⟩
                          clear c3 t3 S6 K1
                          go_wp2_with fail
                          go_meet
                          exact ⟨U, g, n, cap, v, al, rfl, rfl, AL, by omega, S4⟩
                        · have K1 := Lib.hid (next_wait S5.out.ck hnil U hU1 hU2 hall)
                          clear hnil hall
                          go_wp2_with fail
                          refine K1.out.mono ?_
                          rintro e w3 ⟨rfl, c3, t3⟩
                          have S6 := S5.out.call c3 t3
                          have S4 : Hid (St w cb U al g cap v w3) := Lib.hid ⟨S6.1, S6.2.1, S6.2.2.1, S6.2.2.2, HCB.out⟩
                          clear c3 t3 S6 K1
                          go_wp2_with fail
                          go_meet
                          exact ⟨U, g, n, cap, v, al, rfl, rfl, AL, by omega, S4⟩
                      · as_aux_lemma =>
                        have K1 := Lib.hid (next_some (S5.out.ck.perm hp) hmin U hU1 hU2 hle)
                        have HJ := Lib.hid hm
                        have mn : m < n := by have := AL.out; omega
                        have m1 : (0 : Int) ≤ (m : Int) := by omega
                        have m2 : (m : Int) < (n : Int) := by omega
                        have HX := Lib.hid hx
                        have aa : (nm == nm) = true := by simp
                        clear FE FO hx hp hmin hm
                        go_wp2_with fail
                        refine K1.out.mono ?_
                        rintro e w3 ⟨rfl, v3, c3, t3⟩
                        have S6 := S5.out.call c3 t3
                        have C3 := Lib.hid S6.1
                        have O3 := Lib.hid S6.2.1
                        have B3 := Lib.hid S6.2.2.2
                        obtain ⟨r5, r6⟩ := (ownS_row O3.out).2 m HJ.out
                        rw [HX.out] at r5 r6
                        dsimp only at r5 r6
                        clear c3 t3 S6 K1
                        go_wp2_with fail
                        obtain ⟨it, i1, i2, i3, i4⟩ := infoDueS
                        have J1 := Lib.hid i1
                        have J2 := Lib.hid i2
                        have J3 := Lib.hid i3
                        have J4 := Lib.hid i4
                        have jn : m < n := by have := HJ.out; have := AL.out; omega
                        have ncap := (owns_cap O3.out).1
                        rw [← AL.out] at ncap
                        have jz0 : (0 : Int) ≤ (m : Int) := by omega
                        have jz1 : (m : Int) ≤ (cap : Int) := by omega
                        have jz2 : (m : Int) ≤ (n : Int) := by omega
                        have jz3 : (m : Int) + 1 ≤ (n : Int) := by omega
                        have jz4 : (n : Int) ≤ (cap : Int) := by omega
                        have jz5 : (0 : Int) ≤ (m : Int) + 1 := by omega
                        have jz6 : ((m : Int) + 1).toNat = m + 1 := by omega
                        have jz7 : ((m : Int)).toNat = m := rfl
                        have jz8 : m ≤ cap := by omega
                        have jw : IntKind.i64.wrap ((m : Int) + 1) = (m : Int) + 1 := IntWalk.i64_in _ (by omega)
                        have OE := Lib.hid (World.ownsRow.drew (World.ownsRow_made w3 (e := 30) (size := 2) #[] 0 (Nat.le_refl _) (by unfold maxLen; omega) rfl))
                        have BE := Lib.hid (((Below.refl w3.heap.size w3).alloc (Nat.le_refl _) (.cells #[] 30)).drew)
                        have RB := Lib.hid (show RowS (w3.alloc (.cells #[] 30)).drew g al from (ownS_row (ownS_same O3.out (BE.out.block g (owns_cap O3.out).2.1))).2)
                        have glt : g < w3.heap.size := (owns_cap O3.out).2.1
                        have T1 := Lib.hid (rowS_part RB.out 0 m (by have := HJ.out; omega))
                        have L1 : (flS ((al.drop 0).take m)).length = m * 2 := by rw [flS_len, List.length_take, List.length_drop]; have := HJ.out; omega
                        have L2 : (flS ((al.drop (m + 1)).take (al.length - (m + 1)))).length = (n - (m + 1)) * 2 := by rw [flS_len, List.length_take, List.length_drop, ← AL.out]; omega
                        have GLT : g < (w3.alloc (.cells #[] 30)).drew.heap.size := by simp; omega
                        have GNE : g ≠ w3.heap.size := by omega
                        have T2 := Lib.hid (fun (w' : World) (h : (w3.alloc (.cells #[] 30)).drew.grownBy w' (some w3.heap.size)) => rowS_part (RowS.grown RB.out h GLT GNE) (m + 1) (al.length - (m + 1)) (by have := HJ.out; omega))
                        have FIN := Lib.hid (fun (w5 : World) (g2 cap2 mm : Nat) (o : w5.ownsRow w3.heap.size 30 2 (.slice (some ⟨g2, 0, none⟩) mm cap2) mm (([] ++ flS ((al.drop 0).take m)) ++ flS ((al.drop (m + 1)).take (al.length - (m + 1))))) (b : Below w3.heap.size w3 w5) => St.drop HCB.out HJ.out C3.out B3.out o b)
                        have HSZ0 : Hid (al.length - (m + 1) = n - (m + 1)) := Lib.hid (by rw [AL.out])
                        clear i1 i2 i3 i4
                        by_cases hcz : cap = m + 1
                        · have hnz : n - (m + 1) = 0 := by omega
                          rw [hnz] at L2
                          have NV := Lib.hid (show ∀ W : World, ∀ (q : Nat) u, (flS ((al.drop (m + 1)).take (al.length - (m + 1))))[q]? = some u → W.cell? ((⟨g, 0, none⟩ : Addr).add q) = some u from fun W q u hu => by
                            have := (List.getElem?_eq_some_iff.1 hu).1
                            rw [L2] at this
                            omega)
                          obtain ⟨nz, hnz2⟩ : ∃ x, x = n := ⟨_, rfl⟩
                          obtain rfl : n = m + 1 := by omega
                          subst hcz
                          clear hnz hnz2 T2 HSZ0
                          go_region_held_law (fun _ => True) (trivial) (first
                            | (refine step_append_any (by rfl) (.tmp 237) (.tmp 240) 26 (by rfl) w3.heap.size 30 it (.agg #[.int .i64 0, .int .i64 0]) 2 16 Try.underlying26 J1.out J2.out J3.out J4.out rfl (by decide) w3.heap.size 0 0 [] (by rfl) OE.out ⟨g, 0, none⟩ m (m + 1) (flS ((al.drop 0).take m)) (by rfl) L1 (by simpa using T1.out) (flS_one _) (by unfold maxLen; omega) (by omega) (by simp) ?_; intro g1 cap1 w4 hown4 hgrow4)
                            | (refine step_append_any (by rfl) (.tmp 241) (.tmp 245) 26 (by rfl) w3.heap.size 30 it (.agg #[.int .i64 0, .int .i64 0]) 2 16 Try.underlying26 J1.out J2.out J3.out J4.out rfl (by decide) g1 cap1 (0 + m) ([] ++ flS ((al.drop 0).take m)) (by rfl) hown4 ⟨g, 0, none⟩ 0 0 (flS ((al.drop (m + 1)).take (al.length - (m + 1)))) (by rfl) L2 (NV.out _) (flS_one _) (by unfold maxLen; omega) (by omega) (by have := (BE.out.grown hgrow4 (by simp) (fun q hq => by have := Option.some.inj hq; omega)).size; omega) ?_; intro g2 cap2 w5 hown5 hgrow5))
                          all_goals
                            have b4 := BE.out.grown hgrow4 (by simp) (fun q hq => by have := Option.some.inj hq; omega)
                            have b5 := b4.grown hgrow5 b4.size (fun q hq => by have := Option.some.inj hq; have := (hown4.lt g1 rfl).1; omega)
                            have RES := Lib.hid (FIN.out _ _ _ _ hown5 b5)
                            clear b4 b5 hown4 hown5 hgrow4 hgrow5
                            simp only [Act.put, List.getElem_toArray, List.getElem_cons_zero, List.getElem_cons_succ, List.setIfInBounds_toArray, List.set_cons_zero, List.set_cons_succ]
                            go_wp2_with fail
                            go_meet
                            exact ⟨_, _, _, _, _, al.eraseIdx m, rfl, rfl, Lib.hid (by have := RES.out.2; omega), by omega, Lib.hid RES.out.1⟩
                        · go_region_held_law (fun _ => True) (trivial) (first
                            | (refine step_append_any (by rfl) (.tmp 237) (.tmp 240) 26 (by rfl) w3.heap.size 30 it (.agg #[.int .i64 0, .int .i64 0]) 2 16 Try.underlying26 J1.out J2.out J3.out J4.out rfl (by decide) w3.heap.size 0 0 [] (by rfl) OE.out ⟨g, 0, none⟩ m cap (flS ((al.drop 0).take m)) (by rfl) L1 (by simpa using T1.out) (flS_one _) (by unfold maxLen; omega) (by omega) (by simp) ?_; intro g1 cap1 w4 hown4 hgrow4)
                            | (refine step_append_any (by rfl) (.tmp 241) (.tmp 245) 26 (by rfl) w3.heap.size 30 it (.agg #[.int .i64 0, .int .i64 0]) 2 16 Try.underlying26 J1.out J2.out J3.out J4.out rfl (by decide) g1 cap1 (0 + m) ([] ++ flS ((al.drop 0).take m)) (by rfl) hown4 ⟨g, (m + 1) * 2, none⟩ (n - (m + 1)) (cap - (m + 1)) (flS ((al.drop (m + 1)).take (al.length - (m + 1)))) (by rfl) L2 (T2.out _ hgrow4) (flS_one _) (by unfold maxLen; omega) (by omega) (by have := (BE.out.grown hgrow4 (by simp) (fun q hq => by have := Option.some.inj hq; omega)).size; omega) ?_; intro g2 cap2 w5 hown5 hgrow5))
                          all_goals
                            have b4 := BE.out.grown hgrow4 (by simp) (fun q hq => by have := Option.some.inj hq; omega)
                            have b5 := b4.grown hgrow5 b4.size (fun q hq => by have := Option.some.inj hq; have := (hown4.lt g1 rfl).1; omega)
                            have RES := Lib.hid (FIN.out _ _ _ _ hown5 b5)
                            clear b4 b5 hown4 hown5 hgrow4 hgrow5
                            simp only [Act.put, List.getElem_toArray, List.getElem_cons_zero, List.getElem_cons_succ, List.setIfInBounds_toArray, List.set_cons_zero, List.set_cons_succ]
                            go_wp2_with fail
                            go_meet
                            exact ⟨_, _, _, _, _, al.eraseIdx m, rfl, rfl, Lib.hid (by have := RES.out.2; omega), by omega, Lib.hid RES.out.1⟩


                have S4 := S2
                have k0 : (K == 0) = false := by simp; omega
                have k1 : (K == 1) = false := by simp; omega
                have k2 : (K == 2) = false := by simp; omega
                have k3 : (K == 3) = false := by simp; omega
                have k4 : (K == 4) = false := by simp; omega
                have k5 : (K == 5) = false := by simp; omega
                go_wp2_with fail
                go_meet
                exact ⟨now, g, n, cap, v, al, rfl, rfl, AL, by omega, S4⟩
              case rest => as_aux_lemma =>
                obtain ⟨now2, g2, n2, cap2, v2, al2, rfl, rfl, AL2, hn2, S9⟩ := hcut
                have K1 := Lib.hid (now_any S9.out.ck)
                have K2 := Lib.hid (clen_any S9.out.ck n2 AL2.out.symm)
                have aa : (now2 == now2) = true := by simp
                have bb : ((n2 : Int) == (n2 : Int)) = true := by simp
                clear KC S2 AL OBN
                go_wp2_with fail
                refine K1.out.mono ?_
                rintro e w3 ⟨rfl, rfl⟩
                go_wp2_with fail
                refine K2.out.mono ?_
                rintro e w3 ⟨rfl, rfl⟩
                go_wp2_with fail
                go_roundw
                case rel => exact ⟨i + 1, now2, al2, g2, n2, cap2, v2, rfl, rfl, by go_num, by omega, by omega, by omega, AL2, S9⟩
                case measure => simp [intOf]; omega
      · have h80' : decide ((i : Int) < 80) = false := decide_eq_false (by omega)
        go_wp2_with fail
        go_ret
        exact ⟨rfl, S.out.bl⟩
    · have hlt3 : decide ((i : Int) < (N : Int)) = false := decide_eq_false (by omega)
      go_wp2_with fail
      go_ret
      exact ⟨rfl, S.out.bl⟩

set_option maxRecDepth 100000 in
theorem lifted (os : Os) (started : os.Started) (H : Type) (enc : TypeId × Value → H) :
    ReturnsInHanded {} Try.checked os 3 .any (Rows.clockRunsSpec.pre6 enc Try.prog Try.f3 Rows.clockRunsRow.domain false) (Rows.clockRunsSpec.post enc Try.prog Try.f3 false true false false) := by
  refine returnsInHanded_of_change (C := Try.checked) own started (by kernel_rfl) Try.func3
    (ChangeSpec.witness6 (enc := enc) (C := Try.checked) false ⟨#[], #[.slice none 0 0], []⟩ 8 (by kernel_rfl) (by kernel_rfl) (by kernel_rfl) (by kernel_rfl)) ?_
  intro W base args ds gs before hval0 hW hcnd _
  have hval : ∀ (j : Nat) t v, Try.f3.params[j]? = some t → args[j]? = some v → Value.okWide Try.prog W .any base t v := hval0
  obtain ⟨p, q, hA0, _⟩ := id hW
  have hA : DataW.TrodAll enc Try.prog W 0 (fun _ => true) true Try.f3.params.toList args.toList ds p := hA0
  rw [Try.params3] at hA hval
  obtain ⟨v0, vs0, d0, ds0, p0, q0, hargs, rfl, rfl, h0, r0⟩ := trodAll_cons hA
  obtain ⟨rfl, rfl, rfl⟩ := trodAll_nil r0
  obtain rfl : args = #[v0] := by cases args; simp_all
  obtain ⟨d, hd⟩ := ckopen.open_ops (hval 0 _ v0 rfl rfl) h0
  refine (walk v0 d W hd).mono fun e W' ⟨he, hb⟩ => ⟨_, he, ?_⟩
  exact law_post laidOut rfl (by kernel_rfl) Try.underlying4 (by kernel_rfl) (fun ds h => by match ds, h with | [_], _ => rfl) hW hb

theorem over : Rows.clockRunsRow.holds Try.pinned (OpenSpec.ofChange Rows.clockRunsSpec) :=
  OpenClaim.holds_of_wide 3 Try.f3 rfl rfl rfl rfl rfl rfl rfl ⟨rfl, rfl, rfl, rfl, rfl⟩ rfl rfl rfl rfl rfl (by kernel_rfl) Try.func3 (by kernel_rfl)
    (of_decide_eq_true (by kernel_rfl)) (by unfold Func.isWrapper; first | (rw [if_pos (by decide +kernel)]; kernel_rfl) | (rw [if_neg (by decide +kernel)]; exact ⟨rfl, rfl⟩))
    (fun os started H enc _ => lifted os started H enc)

theorem proved : Rows.ClockRunsSaid := over
end Go.Proofs.Ythcbhehdilaejaa.lawClockRuns
