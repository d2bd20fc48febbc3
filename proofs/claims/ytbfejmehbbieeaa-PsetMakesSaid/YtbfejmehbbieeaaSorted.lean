import Derived.Test.YtbfejmehbbieeaaSortMath
import Derived.Test.YtbfejmehbbieeaaTrRef
/- The reference's Sorted. -/
set_option linter.unusedVariables false
set_option linter.unusedSimpArgs false
namespace Go.Proofs.Ytbfejmehbbieeaa.tritem
open Go.RowKit Go.Lib Go.Proofs.Ytbfejmehbbieeaa.math1 Go.Proofs.Ytbfejmehbbieeaa.ref1

theorem owns_cap3 {w : World} {B g n cap : Nat} {e : TypeId} {s : Nat} {xs : List Value} (h : w.ownsRow B e s (.slice (some ⟨g, 0, none⟩) n cap) n xs) : n ≤ cap ∧ g < w.heap.size ∧ B ≤ g := by
  have lt := h.lt g rfl
  rcases h.2 with ⟨hv, _⟩ | ⟨g', cap', cur, hv, hb, hg, hc, _⟩
  · cases hv
  · simp only [Value.slice.injEq, Option.some.injEq, Addr.mk.injEq, and_true, true_and] at hv
    obtain ⟨rfl, rfl⟩ := hv
    exact ⟨hc, lt.2, lt.1⟩
theorem owns_mono3 {w : World} {B B' g n cap : Nat} {e : TypeId} {s : Nat} {xs : List Value} (h : w.ownsRow B e s (.slice (some ⟨g, 0, none⟩) n cap) n xs) (hb : B' ≤ B) : w.ownsRow B' e s (.slice (some ⟨g, 0, none⟩) n cap) n xs := by
  refine ⟨h.1, ?_⟩
  rcases h.2 with hn | ⟨g', cap', cur, hv, hb1, rest⟩
  · exact .inl hn
  · exact .inr ⟨g', cap', cur, hv, Nat.le_trans hb hb1, rest⟩
def lenOfS : Value → Nat
  | .slice _ n _ => n
  | _ => 0
/-- the two rows of the second loop -/
structure Two (w wr : World) (F : List I3) (left out : Array I3) (gl cl go co : Nat) : Prop where
  ol : wr.ownsRow w.heap.size 38 3 (.slice (some ⟨gl, 0, none⟩) left.size cl) left.size (fl3 left)
  oo : wr.ownsRow w.heap.size 38 3 (.slice (some ⟨go, 0, none⟩) out.size co) out.size (fl3 out)
  ne : gl ≠ go
  bl : Below w.heap.size w wr
  sel : Sel F out left
theorem Two.below {w wr wr' : World} {F : List I3} {left out : Array I3} {gl cl go co : Nat} (h : Two w wr F left out gl cl go co) (hb : Below wr.heap.size wr wr') : Two w wr' F left out gl cl go co :=
  ⟨own3_below h.ol hb, own3_below h.oo hb, h.ne, aid.kb hb h.bl, h.sel⟩

set_option maxRecDepth 100000 in
set_option maxHeartbeats 4000000 in
theorem sorted_any (a1 : Option Addr) (N c1 : Nat) (d : Array I3) (a n : Int) (w : World) (hR : IsItems w (.slice a1 N c1) d) (hN : N = d.size) (hm : N ≤ 1000) (ha : 0 ≤ a ∧ a < 4294967296) (hu : ∀ j, j < d.size → 0 ≤ d[j]!.1 ∧ d[j]!.1 < 4294967296) :
    Calls Try.prog 15 #[.slice a1 N c1, .int .u32 a, .int .i64 n] w fun e w' => (∃ (g cap : Nat) (out : Array I3), e = .returned (.slice (some ⟨g, 0, none⟩) out.size cap) ∧ IsItems w' (.slice (some ⟨g, 0, none⟩) out.size cap) out ∧ out.toList.Perm (d.toList.filter (fun x => coversB a n x.1 x.2.1)) ∧ ∀ i j, i < j → j < out.size → lessB out[j]! out[i]! = false) ∧ Below w.heap.size w w' := by
  obtain ⟨it, i1, i2, i3, i4⟩ := infoItem3
  have J1 := Lib.hid i1
  have J2 := Lib.hid i2
  have J3 := Lib.hid i3
  have J4 := Lib.hid i4
  have HN := Lib.hid hN
  have HR := Lib.hid hR
  have HA := Lib.hid ha
  have HU := Lib.hid hu
  have O0 := Lib.hid (own3_empty w w.heap.size (Nat.le_refl _))
  have B0 := Lib.hid ((Below.refl w.heap.size w).alloc (Nat.le_refl _) (.cells #[] 38))
  clear hN hR ha hu i1 i2 i3 i4
  go_enter Try.func15, Try.ntmps15
  go_wp2_with fail
  go_loopw [7, 16] (fun s7 s16 wr => ∃ (k g z cap : Nat), s7 = .slice (some ⟨g, 0, none⟩) z cap ∧ s16 = .int .i64 k ∧ k ≤ N ∧ z ≤ k ∧ Hid (z = (covTo d a n k).size) ∧ Hid (wr.ownsRow w.heap.size 38 3 (.slice (some ⟨g, 0, none⟩) z cap) z (fl3 (covTo d a n k))) ∧ Hid (Below w.heap.size w wr)) (fun _ s16 _ => N - (intOf s16).toNat)
  case atStart => exact ⟨0, w.heap.size, 0, 0, by go_num, by go_num, by omega, by omega, Lib.hid rfl, O0, B0⟩
  case round =>
    obtain ⟨k, g, z, cap, rfl, rfl, hk, hz, HZ, O, Bl⟩ := hrel
    by_cases hlt : k < N
    · have hkd : k < d.size := by rw [← HN.out]; exact hlt
      have hlt2 : (k : Int) < (N : Int) := by omega
      obtain ⟨b, o, rfl, k0, k1, k2⟩ := (HR.out.below Bl.out).at hkd
      have hux := HU.out k hkd
      obtain ⟨⟨x1, x2, x3⟩, hx⟩ : ∃ x, x = d[k]! := ⟨_, rfl⟩
      rw [← hx] at k0 k1 k2 hux
      dsimp only at k0 k1 k2 hux
      have hst : covTo d a n (k + 1) = if coversB a n x1 x2 = true then (covTo d a n k).push (x1, x2, x3) else covTo d a n k := by rw [covTo, ← hx]
      have HST := Lib.hid hst
      obtain ⟨W1, hW1⟩ : ∃ W, W = wr.alloc (.cells #[.int .u32 x1, .int .i64 x2, .int .i64 x3] 38) := ⟨_, rfl⟩
      have BW : Below wr.heap.size wr W1 := by rw [hW1]; exact (Below.refl _ _).alloc (Nat.le_refl _) _
      have m0 : W1.cell? ⟨wr.heap.size, 0, none⟩ = some (.int .u32 x1) := by rw [hW1]; exact World.cell?_alloc_at _ _ _ _ rfl
      have m1 : W1.cell? ⟨wr.heap.size, 1, none⟩ = some (.int .i64 x2) := by rw [hW1]; exact World.cell?_alloc_at _ _ _ _ rfl
      have m2 : W1.cell? ⟨wr.heap.size, 2, none⟩ = some (.int .i64 x3) := by rw [hW1]; exact World.cell?_alloc_at _ _ _ _ rfl
      have K1 := Lib.hid (covers_any a n x1 x2 W1 HA.out.1 HA.out.2 hux.1 hux.2)
      have OA := Lib.hid (own3_below O.out BW)
      have BA := Lib.hid (aid.kb BW Bl.out)
      have HW1 := Lib.hid hW1
      clear hx hst BW O Bl hW1 hux
      obtain ⟨cv, hcv⟩ : ∃ cv, cv = coversB a n x1 x2 := ⟨_, rfl⟩
      rw [← hcv] at K1 HST
      clear hcv
      go_wp2_with fail
      rw [← HW1.out]
      refine K1.out.mono ?_
      rintro e v2 ⟨rfl, hb2⟩
      have p0 := aid.kc hb2 m0
      have p1 := aid.kc hb2 m1
      have p2 := aid.kc hb2 m2
      have OB := Lib.hid (own3_below OA.out hb2)
      have BB := Lib.hid (aid.kb hb2 BA.out)
      clear hb2 m0 m1 m2 K1 OA BA HW1
      cases cv with
      | true =>
        have OWN := Lib.hid (World.ownsRow.alloc OB.out (.cells #[.int .u32 x1, .int .i64 x2, .int .i64 x3] 38))
        have hsv := BB.out.size
        have BC := Lib.hid (BB.out.alloc hsv (.cells #[.int .u32 x1, .int .i64 x2, .int .i64 x3] 38))
        have NW := Lib.hid (new3 v2 (x1, x2, x3) 38)
        have hgb := Lib.hid (OB.out.lt g rfl).1
        go_wp2_with (at_builtin; refine wpList_append_lies _ rfl (.tmp 27) (.tmp 29) 33 rfl w.heap.size 38 it (.agg #[.int .u32 0, .int .i64 0, .int .i64 0]) 3 24 Try.underlying33 J1.out J2.out J3.out J4.out rfl (by decide) (.slice (some ⟨g, 0, none⟩) z cap) z (fl3 (covTo d a n k)) rfl OWN.out ⟨v2.heap.size, 0, none⟩ 1 1 (enc3 (x1, x2, x3)) rfl rfl NW.out (enc3_one _) (by decide) (by unfold maxLen; omega) (by omega) (by simp; omega) _ rfl ?_)
        intro g' cap' w3 hown3 hgrow3 hat3 hlt3
        have O3 := Lib.hid (show w3.ownsRow w.heap.size 38 3 (.slice (some ⟨g', 0, none⟩) (z + 1) cap') (z + 1) (fl3 (covTo d a n (k + 1))) from by
          have e := HST.out
          simp only [if_true] at e
          rw [e, fl3_push]; exact hown3)
        have B3 := Lib.hid (BC.out.grown hgrow3 (by simp; omega) (fun q hq => by
          simp only [Value.ownBlock, Option.some.injEq] at hq
          have := hgb.out
          omega))
        have HZ3 : Hid (z + 1 = (covTo d a n (k + 1)).size) := Lib.hid (by
          have e := HST.out
          simp only [if_true] at e
          rw [e, Array.size_push, ← HZ.out])
        clear hown3 hgrow3 hat3 hlt3
        go_wp2_with fail
        go_roundw
        case rel => exact ⟨k + 1, g', z + 1, cap', by go_num, by go_num, by omega, by omega, HZ3, O3, B3⟩
        case measure => simp [intOf]; omega
      | false =>
        have O3 := Lib.hid (show v2.ownsRow w.heap.size 38 3 (.slice (some ⟨g, 0, none⟩) z cap) z (fl3 (covTo d a n (k + 1))) from by
          rw [HST.out, if_neg (by simp)]; exact OB.out)
        have HZ3 : Hid (z = (covTo d a n (k + 1)).size) := Lib.hid (by rw [HST.out, if_neg (by simp)]; exact HZ.out)
        go_wp2_with fail
        go_roundw
        case rel => exact ⟨k + 1, g, z, cap, by go_num, by go_num, by omega, by omega, HZ3, O3, BB⟩
        case measure => simp [intOf]; omega
    · obtain rfl : N = k := by omega
      have BW : Below wr.heap.size wr (wr.alloc (.cells #[] 38)) := (Below.refl _ _).alloc (Nat.le_refl _) _
      have TW : Hid (Two w (wr.alloc (.cells #[] 38)) (d.toList.filter (fun x => coversB a n x.1 x.2.1)) (covTo d a n N) #[] g cap wr.heap.size 0) := Lib.hid
        ⟨by have := own3_below O.out BW; rw [HZ.out] at this; exact this, own3_empty wr w.heap.size Bl.out.size, by have := (O.out.lt g rfl).2; omega, aid.kb BW Bl.out, by rw [HN.out]; exact Sel.first d a n⟩
      clear O Bl BW
      go_wp2_with fail
      go_loopw [7, 10] (fun s7 s10 wr => ∃ (left out : Array I3) (gl zl cl go zo co : Nat), s7 = .slice (some ⟨gl, 0, none⟩) zl cl ∧ s10 = .slice (some ⟨go, 0, none⟩) zo co ∧ zl + zo ≤ N ∧ Hid (zl = left.size) ∧ Hid (zo = out.size) ∧ Hid (Two w wr (d.toList.filter (fun x => coversB a n x.1 x.2.1)) left out gl cl go co)) (fun s7 _ _ => lenOfS s7)
      case atStart => exact ⟨_, #[], g, z, cap, wr.heap.size, 0, 0, by go_num, by go_num, by omega, HZ, Lib.hid rfl, TW⟩
      case round =>
        obtain ⟨left, out, gl, zl, cl, go, zo, co, rfl, rfl, hzz, HL, HO, T⟩ := hrel
        by_cases h0 : 0 < zl
        · have h0' : (0 : Int) < (zl : Int) := by omega
          obtain ⟨W2, rfl⟩ : ∃ W, W = wr := ⟨_, rfl⟩
          have ol := T.out.ol
          rw [← HL.out] at ol
          have RL := Lib.hid (own3_row ol).2
          clear ol
          have hzl : zl ≤ 1000 := by omega
          go_wp2_with fail
          go_loopw [11, 38] (fun s11 s38 wq => ∃ (q K : Nat), s11 = .int .i64 K ∧ s38 = .int .i64 q ∧ q ≤ zl ∧ K < zl ∧ Hid (∀ j, j < q → lessB left[j]! left[K]! = false) ∧ Hid (Below W2.heap.size W2 wq)) (fun _ s38 _ => zl - (intOf s38).toNat)
          case atStart => exact ⟨0, 0, by go_num, by go_num, by omega, h0, Lib.hid (fun j hj => by omega), Lib.hid (Below.refl _ _)⟩
          case round =>
            obtain ⟨q, K, rfl, rfl, hq, hK, MIN, BQ⟩ := hrel
            by_cases hlt : q < zl
            · have hlt2 : (q : Int) < (zl : Int) := by omega
              have hK2 : (K : Int) < (zl : Int) := by omega
              have hK1 : (0 : Int) ≤ (K : Int) := by omega
              have hq1 : (0 : Int) ≤ (q : Int) := by omega
              have RQ := RL.out.below BQ.out
              obtain ⟨p0, p1, p2⟩ := RQ q (by rw [← HL.out]; exact hlt)
              obtain ⟨r0, r1, r2⟩ := RQ K (by rw [← HL.out]; exact hK)
              simp only [Nat.zero_add] at p0 p1 p2 r0 r1 r2
              obtain ⟨⟨x1, x2, x3⟩, hx⟩ : ∃ x, x = left[q]! := ⟨_, rfl⟩
              obtain ⟨⟨y1, y2, y3⟩, hy⟩ : ∃ x, x = left[K]! := ⟨_, rfl⟩
              rw [← hx] at p0 p1 p2
              rw [← hy] at r0 r1 r2
              dsimp only at p0 p1 p2 r0 r1 r2
              have P0 := aid.keep_cell p0
              have P1 := aid.keep_cell p1
              have P2 := aid.keep_cell p2
              have R0 := aid.keep_cell r0
              have R1 := aid.keep_cell r1
              have R2 := aid.keep_cell r2
              obtain ⟨bb, hb⟩ : ∃ b, b = lessB (x1, x2, x3) (y1, y2, y3) := ⟨_, rfl⟩
              have KL := Lib.hid (fun s : aid.Keep wr => less_any (x1, x2, x3) (y1, y2, y3) s.world)
              rw [← hb] at KL
              rw [hx, hy] at hb
              have HB := Lib.hid hb
              clear hx hy hb RQ p0 p1 p2 r0 r1 r2
              go_wp2_with fail
              refine aid.wp_region_keep (by kernel_rfl) (by kernel_rfl) ?_
              repeat (go_big_quiet_step ((go_at_call 37; (with_reducible exact aid.keep_call (KL.out _)))))
              refine wpQuiet_nil ?_
              rintro _ ⟨s, rfl⟩
              have BY := Lib.hid (aid.kb s.below BQ.out)
              cases bb with
              | true =>
                have MIN2 := Lib.hid (show ∀ j, j < q + 1 → lessB left[j]! left[q]! = false from fun j hj => by
                  by_cases e : j = q
                  · rw [e]; exact ge_refl _
                  · exact ge_trans (MIN.out j (by omega)) (less_asymm HB.out.symm))
                go_wp2_with fail
                go_roundw
                case rel => exact ⟨q + 1, q, by go_num, by go_num, by omega, hlt, MIN2, BY⟩
                case measure => simp [intOf]; omega
              | false =>
                have MIN2 := Lib.hid (show ∀ j, j < q + 1 → lessB left[j]! left[K]! = false from fun j hj => by
                  by_cases e : j = q
                  · rw [e]; exact HB.out.symm
                  · exact MIN.out j (by omega))
                go_wp2_with fail
                go_roundw
                case rel => exact ⟨q + 1, K, by go_num, by go_num, by omega, hK, MIN2, BY⟩
                case measure => simp [intOf]; omega
            · obtain rfl : zl = q := by omega
              have T2 := T.out.below BQ.out
              have kl : K < left.size := by rw [← HL.out]; exact hK
              obtain ⟨r0, r1, r2⟩ := (RL.out.below BQ.out) K kl
              simp only [Nat.zero_add] at r0 r1 r2
              obtain ⟨⟨y1, y2, y3⟩, hy⟩ : ∃ x, x = left[K]! := ⟨_, rfl⟩
              rw [← hy] at r0 r1 r2
              dsimp only at r0 r1 r2
              have HY := Lib.hid hy
              have oo := T2.oo
              rw [← HO.out] at oo
              have ol := T2.ol
              rw [← HL.out] at ol
              have hK2 : (K : Int) < (zl : Int) := by omega
              have hK1 : (0 : Int) ≤ (K : Int) := by omega
              have BW : Below wr.heap.size wr (wr.alloc (.cells #[.int .u32 y1, .int .i64 y2, .int .i64 y3] 38)) := (Below.refl _ _).alloc (Nat.le_refl _) _
              have OWN := Lib.hid (World.ownsRow.alloc oo (.cells #[.int .u32 y1, .int .i64 y2, .int .i64 y3] 38))
              have OLA := Lib.hid (own3_below ol BW)
              have hws := T2.bl.size
              have BC := Lib.hid (aid.kb BW T2.bl)
              have NW := Lib.hid (new3 wr (y1, y2, y3) 38)
              have hgb := Lib.hid (oo.lt go rfl)
              have hgl := Lib.hid (ol.lt gl rfl)
              have NE := Lib.hid T2.ne
              have SEL := Lib.hid T2.sel
              clear hy oo ol BW T2 T BQ RL
              go_wp2_with (at_builtin; refine wpList_append_lies _ rfl (.tmp 52) (.tmp 57) 33 rfl w.heap.size 38 it (.agg #[.int .u32 0, .int .i64 0, .int .i64 0]) 3 24 Try.underlying33 J1.out J2.out J3.out J4.out rfl (by decide) (.slice (some ⟨go, 0, none⟩) zo co) zo (fl3 out) rfl OWN.out ⟨wr.heap.size, 0, none⟩ 1 1 (enc3 (y1, y2, y3)) rfl rfl NW.out (enc3_one _) (by decide) (by unfold maxLen; omega) (by omega) (by simp; omega) _ rfl ?_)
              intro g2 co2 w3 hown3 hgrow3 hat3 hlt3
              have OO3 := Lib.hid (show w3.ownsRow w.heap.size 38 3 (.slice (some ⟨g2, 0, none⟩) (zo + 1) co2) (zo + 1) (fl3 (out.push (y1, y2, y3))) from by
                rw [fl3_push]; exact hown3)
              have OL3 := Lib.hid (OLA.out.kept hgrow3 (.inr (fun e => NE.out (by simpa [Value.ownBlock] using e))))
              have B3 := Lib.hid (BC.out.grown hgrow3 (by simp; omega) (fun q hq => by
                simp only [Value.ownBlock, Option.some.injEq] at hq
                have := hgb.out
                omega))
              have HLT3 := Lib.hid hlt3
              have HO3 : Hid (zo + 1 = (out.push (y1, y2, y3)).size) := Lib.hid (by rw [Array.size_push, ← HO.out])
              clear hown3 hgrow3 hat3 hlt3
              go_wp2_with fail
              have glt : gl < w3.heap.size := (OL3.out.lt gl rfl).2
              have zcap := (owns_cap3 OL3.out).1
              have OE := Lib.hid (World.ownsRow.drew (own3_empty w3 w3.heap.size (Nat.le_refl _)))
              have BE := Lib.hid (((Below.refl w3.heap.size w3).alloc (Nat.le_refl _) (.cells #[] 38)).drew)
              have RB := Lib.hid ((own3_row OL3.out).2.below (((Below.refl w3.heap.size w3).alloc (Nat.le_refl _) (.cells #[] 38)).drew))
              have t1 := row_take RB.out K (by rw [← HL.out]; omega)
              have T1 := Lib.hid t1
              have L1 : ((left.toList.take K).flatMap enc3).length = K * 3 := by rw [flat_len, List.length_take, Array.length_toList, ← HL.out]; omega
              have L2 : ((left.toList.drop (K + 1)).flatMap enc3).length = (zl - (K + 1)) * 3 := by rw [flat_len, List.length_drop, Array.length_toList, ← HL.out]
              have GLT : gl < (w3.alloc (.cells #[] 38)).drew.heap.size := by simp; omega
              have GNE : gl ≠ w3.heap.size := by omega
              have KA := Lib.hid (show (keepTo left K left.size).toList = left.toList.take K ++ left.toList.drop (K + 1) from keepTo_all left K kl)
              have HSZ : (keepTo left K left.size).size = zl - 1 := by
                rw [← Array.length_toList, KA.out, List.length_append, List.length_take, List.length_drop, Array.length_toList, ← HL.out]; omega
              have HSZH := Lib.hid HSZ
              have HFL := Lib.hid (show fl3 (keepTo left K left.size) = ([] ++ (left.toList.take K).flatMap enc3) ++ (left.toList.drop (K + 1)).flatMap enc3 by
                rw [fl3, KA.out, List.flatMap_append, List.nil_append])
              have SEL2 := Lib.hid (show Sel (d.toList.filter (fun x => coversB a n x.1 x.2.1)) (out.push (y1, y2, y3)) (keepTo left K left.size) from by
                have := SEL.out.step kl (fun q hq => MIN.out q (by rw [HL.out]; exact hq)) KA.out
                rw [← HY.out] at this
                exact this)
              have jz2 : (K : Int) ≤ (zl : Int) := by omega
              have jz1 : (K : Int) ≤ (cl : Int) := by omega
              have jz3 : (K : Int) + 1 ≤ (zl : Int) := by omega
              have jz4 : (zl : Int) ≤ (cl : Int) := by omega
              have jz5 : (0 : Int) ≤ (K : Int) + 1 := by omega
              have jz6 : ((K : Int) + 1).toNat = K + 1 := by omega
              have jz7 : ((K : Int)).toNat = K := rfl
              have jz8 : K ≤ cl := by omega
              have jw : IntKind.i64.wrap ((K : Int) + 1) = (K : Int) + 1 := IntWalk.i64_in _ (by omega)
              have FIN := Lib.hid (fun (w5 : World) (g3 cap3 mm : Nat) (o : w5.ownsRow w3.heap.size 38 3 (.slice (some ⟨g3, 0, none⟩) mm cap3) mm (([] ++ (left.toList.take K).flatMap enc3) ++ (left.toList.drop (K + 1)).flatMap enc3)) (b : Below w3.heap.size w3 w5) (hmm : mm = zl - 1) => show Two w w5 (d.toList.filter (fun x => coversB a n x.1 x.2.1)) (keepTo left K left.size) (out.push (y1, y2, y3)) g3 cap3 g2 co2 from by
                have hsz := HSZH.out
                rw [← HFL.out, hmm, ← hsz] at o
                have hb3 := owns_cap3 o
                refine ⟨owns_mono3 o B3.out.size, ?_, fun e => by have := HLT3.out; omega, aid.kb b B3.out, SEL2.out⟩
                have := own3_below OO3.out b
                rw [HO3.out] at this
                exact this)
              have HM1 := Lib.hid (show zl - 1 = (keepTo left K left.size).size from HSZ.symm)
              clear t1 HSZ kl
              by_cases hcz : cl = K + 1
              · have hnz : zl - (K + 1) = 0 := by omega
                rw [hnz] at L2
                have NV := Lib.hid (show ∀ W : World, ∀ (q : Nat) u, ((left.toList.drop (K + 1)).flatMap enc3)[q]? = some u → W.cell? ((⟨gl, 0, none⟩ : Addr).add q) = some u from fun W q u hu => by
                  have := (List.getElem?_eq_some_iff.1 hu).1
                  rw [L2] at this
                  omega)
                obtain rfl : zl = K + 1 := by omega
                subst hcz
                clear hnz
                go_region_held_law (fun _ => True) (trivial) (first
                  | (refine step_append_any (by rfl) (.tmp 59) (.tmp 62) 33 (by rfl) w3.heap.size 38 it (.agg #[.int .u32 0, .int .i64 0, .int .i64 0]) 3 24 Try.underlying33 J1.out J2.out J3.out J4.out rfl (by decide) w3.heap.size 0 0 [] (by rfl) OE.out ⟨gl, 0, none⟩ K (K + 1) ((left.toList.take K).flatMap enc3) (by rfl) L1 T1.out (flat_one _) (by unfold maxLen; omega) (by omega) (by simp) ?_; intro g4 cap4 w4 hown4 hgrow4)
                  | (refine step_append_any (by rfl) (.tmp 63) (.tmp 67) 33 (by rfl) w3.heap.size 38 it (.agg #[.int .u32 0, .int .i64 0, .int .i64 0]) 3 24 Try.underlying33 J1.out J2.out J3.out J4.out rfl (by decide) g4 cap4 (0 + K) ([] ++ (left.toList.take K).flatMap enc3) (by rfl) hown4 ⟨gl, 0, none⟩ 0 0 ((left.toList.drop (K + 1)).flatMap enc3) (by rfl) L2 (NV.out _) (flat_one _) (by unfold maxLen; omega) (by omega) (by have := (BE.out.grown hgrow4 (by simp) (fun q hq => by have := Option.some.inj hq; omega)).size; omega) ?_; intro g5 cap5 w5 hown5 hgrow5))
                all_goals
                  have b4 := BE.out.grown hgrow4 (by simp) (fun q hq => by have := Option.some.inj hq; omega)
                  have b5 := b4.grown hgrow5 b4.size (fun q hq => by have := Option.some.inj hq; have := (hown4.lt g4 rfl).1; omega)
                  have RES := Lib.hid (FIN.out _ _ _ _ hown5 b5 (by omega))
                  clear b4 b5 hown4 hown5 hgrow4 hgrow5
                  simp only [Act.put, List.getElem_toArray, List.getElem_cons_zero, List.getElem_cons_succ, List.setIfInBounds_toArray, List.set_cons_zero, List.set_cons_succ]
                  go_wp2_with fail
                  go_roundw
                  case rel => exact ⟨_, _, _, _, _, _, _, _, rfl, rfl, by omega, Lib.hid (by have := HM1.out; omega), HO3, RES⟩
                  case measure => simp [lenOfS]
              · have T2 := Lib.hid (fun (w' : World) (h : (w3.alloc (.cells #[] 38)).drew.grownBy w' (some w3.heap.size)) => show ∀ (j : Nat) u, ((left.toList.drop (K + 1)).flatMap enc3)[j]? = some u → w'.cell? ((⟨gl, (K + 1) * 3, none⟩ : Addr).add j) = some u from by
                  have := row_drop (RB.out.grown h GLT GNE) (K + 1)
                  rw [Nat.zero_add] at this
                  exact this)
                go_region_held_law (fun _ => True) (trivial) (first
                  | (refine step_append_any (by rfl) (.tmp 59) (.tmp 62) 33 (by rfl) w3.heap.size 38 it (.agg #[.int .u32 0, .int .i64 0, .int .i64 0]) 3 24 Try.underlying33 J1.out J2.out J3.out J4.out rfl (by decide) w3.heap.size 0 0 [] (by rfl) OE.out ⟨gl, 0, none⟩ K cl ((left.toList.take K).flatMap enc3) (by rfl) L1 T1.out (flat_one _) (by unfold maxLen; omega) (by omega) (by simp) ?_; intro g4 cap4 w4 hown4 hgrow4)
                  | (refine step_append_any (by rfl) (.tmp 63) (.tmp 67) 33 (by rfl) w3.heap.size 38 it (.agg #[.int .u32 0, .int .i64 0, .int .i64 0]) 3 24 Try.underlying33 J1.out J2.out J3.out J4.out rfl (by decide) g4 cap4 (0 + K) ([] ++ (left.toList.take K).flatMap enc3) (by rfl) hown4 ⟨gl, (K + 1) * 3, none⟩ (zl - (K + 1)) (cl - (K + 1)) ((left.toList.drop (K + 1)).flatMap enc3) (by rfl) L2 (T2.out _ hgrow4) (flat_one _) (by unfold maxLen; omega) (by omega) (by have := (BE.out.grown hgrow4 (by simp) (fun q hq => by have := Option.some.inj hq; omega)).size; omega) ?_; intro g5 cap5 w5 hown5 hgrow5))
                all_goals
                  have b4 := BE.out.grown hgrow4 (by simp) (fun q hq => by have := Option.some.inj hq; omega)
                  have b5 := b4.grown hgrow5 b4.size (fun q hq => by have := Option.some.inj hq; have := (hown4.lt g4 rfl).1; omega)
                  have RES := Lib.hid (FIN.out _ _ _ _ hown5 b5 (by omega))
                  clear b4 b5 hown4 hown5 hgrow4 hgrow5
                  simp only [Act.put, List.getElem_toArray, List.getElem_cons_zero, List.getElem_cons_succ, List.setIfInBounds_toArray, List.set_cons_zero, List.set_cons_succ]
                  go_wp2_with fail
                  go_roundw
                  case rel => exact ⟨_, _, _, _, _, _, _, _, rfl, rfl, by omega, Lib.hid (by have := HM1.out; omega), HO3, RES⟩
                  case measure => simp [lenOfS]; omega
        · have hz0 : zl = 0 := by omega
          subst hz0
          have DONE := Lib.hid (T.out.sel.done HL.out.symm)
          have IT := Lib.hid (items_of_own T.out.oo)
          have BF := Lib.hid T.out.bl
          clear T
          go_wp2_with fail
          go_ret
          exact ⟨⟨go, co, out, by rw [← HO.out]; rfl, IT.out, DONE.out.1, DONE.out.2⟩, BF.out⟩
end Go.Proofs.Ytbfejmehbbieeaa.tritem
