import Derived.Test.YtbfejmehbbieeaaPsGroup1
import Derived.Deep.RegionLaw
/- Package pset: Group. -/
set_option linter.unusedVariables false
set_option linter.unusedSimpArgs false
namespace Go.Proofs.Ytbfejmehbbieeaa.psgroup
open Go.RowKit Go.Shelf Go.Lib Go.Sort Go.Proofs.Ytbfejmehbbieeaa.math1 Go.Proofs.Ytbfejmehbbieeaa.pscmp Go.Proofs.Ytbfejmehbbieeaa.psfind Go.Proofs.Ytbfejmehbbieeaa.pssort Go.Proofs.Ytbfejmehbbieeaa.psuniq Go.Proofs.Ytbfejmehbbieeaa.pscompact Go.Proofs.Ytbfejmehbbieeaa.psof Go.Proofs.Ytbfejmehbbieeaa.psask Go.Proofs.Ytbfejmehbbieeaa.psmarks Go.Proofs.Ytbfejmehbbieeaa.psplaces

theorem infoSet : (Try.prog.info? 29).map (fun i => (i.zero, i.size, i.bytes)) = some (some (.agg #[.slice none 0 0]), 1, 24) := by kernel_rfl

set_option maxRecDepth 100000 in
set_option maxHeartbeats 1000000 in
theorem group_some (b o cap : Nat) (d : Array P2) (b2 o2 n cap2 : Nat) (ss2 : Nat → Value) (ds : Nat → Array P2) (w : World) (hR : Row w b o d) (hd : d.size ≤ 4096) (hS : Sets w b2 o2 n ss2 ds) (hG : psplaces.Good n ds) (hn : n ≤ 4096) :
    Calls Try.prog 27 #[.agg #[.slice (some ⟨b, o, none⟩) d.size cap], .slice (some ⟨b2, o2, none⟩) n cap2] w fun e w' => (∃ ov sl, e = .returned ov ∧ Mem w' w.heap.size (w.heap.size + 1) ov sl (groupTo ds n d d.size)) ∧ Below w.heap.size w w' := by
  obtain ⟨N, hNN⟩ : ∃ N, N = d.size := ⟨_, rfl⟩
  rw [← hNN] at hd ⊢
  have HN := Lib.hid hNN
  have HR := Lib.hid hR
  have HS := Lib.hid hS
  have HG := Lib.hid hG
  obtain ⟨ip0, hi, hz0, hz1, hz2⟩ : ∃ i, Try.prog.info? 26 = some i ∧ i.zero = some (.agg #[.int .u32 0, .int .i64 0]) ∧ i.size = 2 ∧ i.bytes = 16 := by
    have h := infoPfx
    cases h2 : Try.prog.info? 26 with
    | none => rw [h2] at h; cases h
    | some i => rw [h2] at h; simp at h; exact ⟨i, rfl, h.1, h.2.1, h.2.2⟩
  have I1 := Lib.hid hi
  have I2 := Lib.hid hz0
  have I3 := Lib.hid hz1
  have I4 := Lib.hid hz2
  clear hi hz0 hz1 hz2
  obtain ⟨is0, hi, hz0, hz1, hz2⟩ : ∃ i, Try.prog.info? 29 = some i ∧ i.zero = some (.agg #[.slice none 0 0]) ∧ i.size = 1 ∧ i.bytes = 24 := by
    have h := infoSet
    cases h2 : Try.prog.info? 29 with
    | none => rw [h2] at h; cases h
    | some i => rw [h2] at h; simp at h; exact ⟨i, rfl, h.1, h.2.1, h.2.2⟩
  have J1 := Lib.hid hi
  have J2 := Lib.hid hz0
  have J3 := Lib.hid hz1
  have J4 := Lib.hid hz2
  clear hNN hR hS hG hi hz0 hz1 hz2
  go_enter Try.func27, Try.ntmps27
  go_wp2_with fail
  rw [run_makeMap]
  have B0 := Lib.hid (((Below.refl w.heap.size w).alloc (Nat.le_refl _) (.cells #[.slice (some ⟨b, o, none⟩) N cap] 29)).alloc (by simp) (.map #[] 0))
  have M0 := Lib.hid (World.ownsMap_made (H := Unit) (w.alloc (.cells #[.slice (some ⟨b, o, none⟩) N cap] 29)) Try.prog 9 (plainElem Try.prog 3))
  have G0 : (w.alloc (.cells #[.slice (some ⟨b, o, none⟩) N cap] 29)).heap.size = w.heap.size + 1 := by simp
  have S0 : ((w.alloc (.cells #[.slice (some ⟨b, o, none⟩) N cap] 29)).alloc (.map #[] 0)).cell? ⟨w.heap.size, 0, none⟩ = some (.slice (some ⟨b, o, none⟩) N cap) := aid.ca _ (by go_simp)
  have L0 : w.heap.size + 1 < ((w.alloc (.cells #[.slice (some ⟨b, o, none⟩) N cap] 29)).alloc (.map #[] 0)).heap.size := by simp
  rw [G0] at M0 ⊢
  obtain ⟨W0, hW0⟩ : ∃ W0, W0 = (w.alloc (.cells #[.slice (some ⟨b, o, none⟩) N cap] 29)).alloc (.map #[] 0) := ⟨_, rfl⟩
  rw [← hW0] at M0 B0 S0 L0 ⊢
  clear hW0 G0
  go_wp2_with fail
  go_loopw [5, 16] (fun gv iv wr => ∃ (k : Nat) (sl : List Value) (D : DataW Unit), k ≤ N ∧ iv = .int .i64 k ∧ Hid (Mem wr w.heap.size (w.heap.size + 1) gv sl (groupTo ds n d k)) ∧ Hid (MapOk n D (groupTo ds n d k)) ∧ Hid (wr.ownsMap Try.prog 9 (plainElem Try.prog 3) (w.heap.size + 1) k D) ∧ w.heap.size + 1 < wr.heap.size ∧ Hid (Below w.heap.size w wr)) (fun _ iv _ => N - (intOf iv).toNat)
  case atStart =>
    exact ⟨0, [], .map [], by omega, rfl, Lib.hid ⟨World.ownsRow_nil _ _ _ _, by simp [Value.ownBlock], fun i hi => absurd hi (Nat.not_lt_zero i), fun i hi => absurd hi (Nat.not_lt_zero i), fun i j hi => absurd hi (Nat.not_lt_zero i)⟩, Lib.hid (mapOk_nil n), M0, L0, B0⟩
  case round =>
    obtain ⟨k, sl, D, hk, rfl, M, MO, OM, hlt0, Bl⟩ := hrel
    by_cases hlt : k < N
    · have hkd : k < d.size := by rw [← HN.out]; exact hlt
      have RR := HR.out.below Bl.out
      have k0 := (RR k hkd).1
      have k1 := (RR k hkd).2
      obtain ⟨⟨x1, x2⟩, hx⟩ : ∃ x, x = d[k]! := ⟨_, rfl⟩
      rw [← hx] at k0 k1
      dsimp only at k0 k1
      have HX := Lib.hid hx
      have SW := HS.out.below Bl.out
      have K := Lib.hid (fun W (hW : Below wr.heap.size wr W) => places_any (x1, x2) b2 o2 n cap2 ss2 ds W (SW.below hW) HG.out hn)
      have BA := Lib.hid (fun o' : Obj => (Below.refl wr.heap.size wr).alloc (Nat.le_refl _) o')
      clear RR SW hx
      go_wp2_with fail
      refine (K.out _ (BA.out _)).mono ?_
      rintro e w1 ⟨rfl, hb⟩
      have hbw := aid.kb hb (BA.out (.cells #[.int .u32 x1, .int .i64 x2] 26))
      have M1 := M.out.below hbw
      have POL : ∀ g, (u5 : Value).ownBlock = some g → g < wr.heap.size := fun g hg => own_block_lt M.out.outer hg
      have PL : ∀ i, i < (groupTo ds n d k).length → ∀ g, (sl.getD i undef).ownBlock = some g → g < wr.heap.size := fun i hi g hg => own_block_lt (M.out.inner i hi) hg
      have OM1 := Lib.hid (map_below OM.out hbw)
      have q0 := aid.kc hb (aid.new2a wr (.int .u32 x1) (.int .i64 x2) 26)
      have q1 := aid.kc hb (aid.new2b wr (.int .u32 x1) (.int .i64 x2) 26)
      have hlt1 : w.heap.size + 1 < w1.heap.size := Nat.lt_of_lt_of_le hlt0 hbw.size
      have B1 := Lib.hid (aid.kb hbw Bl.out)
      have PB : wr.heap.size < w1.heap.size := by have := hb.size; simp at this; omega
      obtain ⟨P, hP⟩ : ∃ P, P = wr.heap.size := ⟨_, rfl⟩
      have hPm : w.heap.size + 1 < P := by rw [hP]; exact hlt0
      rw [← hP] at q0 q1 PB PL POL ⊢
      have TD := tidy_to ds n d k
      have SZ := size_to ds n d k
      obtain ⟨gs, hgs⟩ : ∃ gs, gs = groupTo ds n d k := ⟨_, rfl⟩
      obtain ⟨m, hm⟩ : ∃ m, m = marks ds n (x1, x2) := ⟨_, rfl⟩
      have hml : m.length = n := by rw [hm]; simp [marks]
      have hstep : groupTo ds n d (k + 1) = addG gs m (x1, x2) := by rw [groupTo, ← HX.out, hgs, hm]
      rw [← hgs] at M1 TD SZ PL
      have MO1 := MO.out
      rw [← hgs] at MO1
      have hkey : keyOf Try.prog 9 (.string (keyOfMarks (inB ds (x1, x2)) n)) = some (.string (kb m)) := by
        rw [WideMaps.keyOf_string_mk Try.underlying9 (by rw [key_size]; unfold maxLen; omega), kb_marks, ← hm]
      obtain ⟨key, hkk⟩ : ∃ key, key = Value.string (keyOfMarks (inB ds (x1, x2)) n) := ⟨_, rfl⟩
      rw [← hkk] at hkey ⊢
      have HK := Lib.hid hkey
      have HST := Lib.hid hstep
      have zI : ∀ w : World, (zeroValue 3).run Try.prog w = .ok (.int .i64 0) w := fun w => by kernel_rfl
      have ZI := Lib.hid zI
      have hgs0 := Lib.hid hgs
      clear M MO OM hb hbw hkey hkk hm hgs hstep hP BA K zI
      by_cases hf : gs.findIdx (fun g => g.1 == m) < gs.length
      · have hfk := find_key hf
        obtain ⟨j, hj⟩ : ∃ j, j = gs.findIdx (fun g => g.1 == m) := ⟨_, rfl⟩
        have hadd : addG gs m (x1, x2) = gs.set j (m, (gs.getD j default).2.push (x1, x2)) := by rw [addG, if_pos hf, ← hj]
        rw [← hj] at hf hfk
        have hhas := (MO1.has m hml).2 ⟨j, hf, hfk⟩
        have hat := MO1.key j hf
        rw [hfk] at hat
        obtain ⟨ob, capo, rfl, hob1, hob2⟩ := M1.outer.form (by omega)
        have HADD := Lib.hid hadd
        have MH := Lib.hid M1
        have MOH := Lib.hid MO1
        have HAT := Lib.hid hat
        have TDH := Lib.hid TD
        clear hadd hj M1 MO1 hat TD
        go_wp2_with (at_lookup; refine wpList_lookup_own_ok_int _ rfl (.tmp 24) (.tmp 25) 81 rfl 9 3 .i64 (Maps.string_keyed Try.underlying9) Try.underlying81 Try.underlying3 (ZI.out _) _ _ D rfl OM1.out _ _ rfl HK.out ?_)
        intro c hc hwc
        obtain rfl : c = (j : Int) := by
          have := (HAT.out (.lit (.int .i64 0))).symm.trans hc
          simpa using this.symm
        clear hc hwc hhas
        have hpos := TDH.out.pos j hf
        obtain ⟨xs, hxs⟩ : ∃ xs, xs = (gs.getD j default).2 := ⟨_, rfl⟩
        have hszb : xs.size ≤ k := by rw [hxs]; exact SZ j
        have hin := MH.out.inner j hf
        rw [← hxs] at hin hpos
        obtain ⟨g0, c0, hg0, _, _⟩ := hin.form hpos
        rw [hg0] at hin
        have hcell : w1.cell? ⟨ob, j, none⟩ = some (.slice (some ⟨g0, 0, none⟩) xs.size c0) := by
          rw [MH.out.outer.cellAt j (by omega)]
          have hl := MH.out.len
          rw [List.getD_eq_getElem?_getD, List.getElem?_eq_getElem (by omega)] at hg0
          rw [List.getElem?_eq_getElem (by omega)]
          simpa using hg0
        have hfroz : w1.frozen? ⟨ob, j, none⟩ = false := by
          rcases MH.out.outer.2 with ⟨e, _⟩ | ⟨_, _, _, hv, _, hh, _⟩
          · cases e
          · cases hv; unfold World.frozen?; rw [hh]; simp
        have OWN := Lib.hid (show (w1.alloc (.cells #[.int .u32 x1, .int .i64 x2] 26)).drew.ownsRow w.heap.size 26 2 (.slice (some ⟨g0, 0, none⟩) xs.size c0) xs.size (fl xs) from World.ownsRow.alloc (w := w1) hin _)
        have HG0 := Lib.hid hg0
        have HXS := Lib.hid hxs
        have NW := Lib.hid (show ∀ (j : Nat) u, (enc (x1, x2))[j]? = some u → (w1.alloc (.cells #[.int .u32 x1, .int .i64 x2] 26)).drew.cell? ((⟨w1.heap.size, 0, none⟩ : Addr).add j) = some u from fun j u hu => by
          rw [Addr.add_mid]
          match j, hu with
          | 0, hu => simp [enc] at hu; rw [← hu]; exact aid.new2a w1 _ _ _
          | 1, hu => simp [enc] at hu; rw [← hu]; exact aid.new2b w1 _ _ _
          | j + 2, hu => simp [enc] at hu)
        have E1 : ∀ u ∈ enc (x1, x2), u.oneCell' = true := fun u hu => by simp [enc] at hu; rcases hu with rfl | rfl <;> rfl
        clear hin hg0 hxs
        have JB : j < gs.length := hf
        have hog : g0 ≠ ob := fun e => (MH.out.ino j hf).1 (by rw [HG0.out, e]; rfl)
        have hgp : g0 < P := PL j hf g0 (by rw [HG0.out]; rfl)
        have CA0 : (w1.alloc (.cells #[.int .u32 x1, .int .i64 x2] 26)).drew.cell? ⟨ob, j, none⟩ = some (.slice (some ⟨g0, 0, none⟩) xs.size c0) := aid.ca _ hcell
        have FA0 : (w1.alloc (.cells #[.int .u32 x1, .int .i64 x2] 26)).drew.frozen? ⟨ob, j, none⟩ = false := (((Below.refl w1.heap.size w1).alloc (Nat.le_refl _) _).frozen (p := ⟨ob, j, none⟩) hob2).trans hfroz
        have CP0 : (w1.alloc (.cells #[.int .u32 x1, .int .i64 x2] 26)).drew.cell? ⟨P, 0, none⟩ = some (.int .u32 x1) := aid.ca _ q0
        have CP1 : (w1.alloc (.cells #[.int .u32 x1, .int .i64 x2] 26)).drew.cell? ⟨P, 1, none⟩ = some (.int .i64 x2) := aid.ca _ q1
        have LA : ∀ b, b < w1.heap.size → b < (w1.alloc (.cells #[.int .u32 x1, .int .i64 x2] 26)).drew.heap.size := fun b hb => by simp; omega
        have NB : ∀ b, b ≠ g0 → some b ≠ (Value.slice (some ⟨g0, 0, none⟩) xs.size c0).ownBlock := fun b hb e => hb (by simpa [Value.ownBlock] using e)
        go_wp2_with fail
        go_region_law
          (refine step_append_lies _ (by rfl) (.tmp 46) (.tmp 48) 22 (by rfl) w.heap.size 26 ip0 (.agg #[.int .u32 0, .int .i64 0]) 2 16 Try.underlying22 I1.out I2.out I3.out I4.out rfl (by decide) _ xs.size (fl xs) rfl OWN.out ⟨w1.heap.size, 0, none⟩ 1 1 (enc (x1, x2)) rfl rfl NW.out E1 (by decide) (by unfold maxLen; omega) (by omega) (by simp; omega) _ rfl ?_; intro g cap' w3 hown3 hgrow3 hat3 hlt3; have cw3 := (hgrow3.cell_far ⟨ob, j, none⟩ (LA _ hob2) (NB _ (Ne.symm hog))).trans CA0; have fw3 := (hgrow3.frozen_far ⟨ob, j, none⟩ (LA _ hob2) (NB _ (Ne.symm hog))).trans FA0)
        all_goals
          have hg4 : (w1.alloc (.cells #[.int .u32 x1, .int .i64 x2] 26)).drew.grownBy w3 (sl.getD j undef).ownBlock := by rw [HG0.out]; exact hgrow3
          have ha4 : (sl.getD j undef).ownBlock = some g ∨ g = (w1.alloc (.cells #[.int .u32 x1, .int .i64 x2] 26)).drew.heap.size := by rw [HG0.out]; exact hat3
          rw [HXS.out] at hown3
          obtain ⟨r1, r2, r3, r4⟩ := push_all (m := m) (.cells #[.int .u32 x1, .int .i64 x2] 26) MH.out hf hlt1 B1.out OM1.out hown3 hg4 ha4
          rw [← HADD.out, ← HST.out] at r1
          rw [← HXS.out] at r1 r2 r3 r4
          have R1 := Lib.hid r1
          have R2 := Lib.hid r2
          have R4 := Lib.hid r4
          have R5 := Lib.hid (mapOk_set MOH.out hf hfk ((gs.getD j default).2.push (x1, x2)))
          rw [← HADD.out, ← HST.out] at R5
          clear r1 r2 r4 hg4 ha4 hown3 hgrow3 hat3 hlt3 cw3 fw3
          go_wp2_with fail
          go_roundw
          case rel => exact ⟨k + 1, _, D, by omega, by go_num, R1, R5, Lib.hid (R2.out.mono (Nat.le_succ k)), r3, R4⟩
          case measure => simp [intOf]; omega
      · have hne := find_none hf
        have hadd : addG gs m (x1, x2) = gs ++ [(m, #[(x1, x2)])] := by rw [addG, if_neg hf]
        have hhas : Maps.has D (.string (kb m)) = false := by
          cases h : Maps.has D (.string (kb m))
          · rfl
          · obtain ⟨i, h1, h2⟩ := (MO1.has m hml).1 h
            exact absurd h2 (hne i h1)
        have hgl : gs.length ≤ k := by rw [hgs0.out]; exact len_to ds n d k
        obtain ⟨ga, gc, hgv⟩ : ∃ a c, u5 = Value.slice a gs.length c := by
          rcases M1.outer.2 with ⟨e, h0⟩ | ⟨g, c, _, e, _⟩
          · exact ⟨none, 0, by rw [h0]; exact e⟩
          · exact ⟨_, _, e⟩
        subst hgv
        have hwf : (Lit.int .i64 (gs.length : Int)).wf = true := by
          have h1 : IntKind.i64.min = -9223372036854775808 := by decide
          have h2 : IntKind.i64.max = 9223372036854775807 := by decide
          simp only [Lit.wf, Bool.and_eq_true, decide_eq_true_eq, h1, h2]
          omega
        have HADD := Lib.hid hadd
        have MH := Lib.hid M1
        have MOH := Lib.hid MO1
        have TDH := Lib.hid TD
        have HNE := Lib.hid hne
        have HWF := Lib.hid (plainElem_int (H := Unit) Try.underlying3 hwf)
        clear hadd M1 MO1 TD hne hf hwf
        go_wp2_with (at_lookup; refine wpList_lookup_own_ok_int _ rfl (.tmp 24) (.tmp 25) 81 rfl 9 3 .i64 (Maps.string_keyed Try.underlying9) Try.underlying81 Try.underlying3 (ZI.out _) _ _ D rfl OM1.out _ _ rfl HK.out ?_)
        intro c hc hwc
        clear hc hwc hhas
        go_wp2_with (at_mapUpdate; refine wpList_mapUpdate_own _ rfl (.tmp 33) (.tmp 34) (.tmp 35) 81 rfl 9 3 (Maps.string_keyed Try.underlying9) Try.underlying81 _ _ k D rfl OM1.out (by unfold maxLen; omega) _ _ _ rfl rfl HK.out _ _ HWF.out ?_)
        intro w2 hown2 hgrow2
        have b2 : Below w1.heap.size w1 w1 := Below.refl _ _
        have M2 := MH.out.kept hgrow2
        have B2 := B1.out.grown hgrow2 B1.out.size (fun k hk => by cases hk; omega)
        have hlt2 : w.heap.size + 1 < w2.heap.size := Nat.lt_of_lt_of_le hlt1 hgrow2.size
        have q02 := (hgrow2.cell_far ⟨P, 0, none⟩ PB (fun e => by simp at e; omega)).trans q0
        have q12 := (hgrow2.cell_far ⟨P, 1, none⟩ PB (fun e => by simp at e; omega)).trans q1
        have PB2 : P < w2.heap.size := Nat.lt_of_lt_of_le PB hgrow2.size
        have bA : Below w2.heap.size w2 (w2.alloc (.cells #[.slice none 0 0] 29)) := (Below.refl _ _).alloc (Nat.le_refl _) _
        have M2a := M2.below bA
        have OWO := Lib.hid M2a.outer
        have OM2 := Lib.hid hown2
        have NWO := Lib.hid (show ∀ (j : Nat) u, ([.slice none 0 0] : List Value)[j]? = some u → (w2.alloc (.cells #[.slice none 0 0] 29)).cell? ((⟨w2.heap.size, 0, none⟩ : Addr).add j) = some u from fun j u hu => by
          rw [Addr.add_mid]
          match j, hu with
          | 0, hu => simp at hu; rw [← hu]; go_simp
          | j + 1, hu => simp at hu)
        have hws2 : w.heap.size ≤ w2.heap.size := B2.size
        have M2H := Lib.hid M2a
        have B2H := Lib.hid (B2.trans (bA.mono hws2))
        clear hgrow2 hown2 b2 M2 M2a B2 bA OM1 MH
        go_wp2_with (at_builtin; refine wpList_append_lies _ rfl (.tmp 36) (.tmp 38) 56 rfl w.heap.size 29 is0 (.agg #[.slice none 0 0]) 1 24 Try.underlying56 J1.out J2.out J3.out J4.out rfl (by decide) _ gs.length sl rfl OWO.out ⟨w2.heap.size, 0, none⟩ 1 1 [.slice none 0 0] rfl rfl NWO.out (fun u hu => by simp at hu; rw [hu]; rfl) (by decide) (by unfold maxLen; omega) (by omega) (by simp; omega) _ rfl ?_)
        intro g1 cap1 w4 hown4 hgrow4 hat4 hlt4
        have hg5 : (w2.alloc (.cells #[.slice none 0 0] 29)).grownBy w4 (Value.slice ga gs.length gc).ownBlock := hgrow4
        have ha5 : (Value.slice ga gs.length gc).ownBlock = some g1 ∨ g1 = (w2.alloc (.cells #[.slice none 0 0] 29)).heap.size := by
          rw [show (w2.alloc (.cells #[.slice none 0 0] 29)).heap.size = w2.heap.size + 1 by simp]
          exact hat4
        have hl2 : w.heap.size + 1 < (w2.alloc (.cells #[.slice none 0 0] 29)).heap.size := by simp; omega
        have hlP : P < (w2.alloc (.cells #[.slice none 0 0] 29)).heap.size := by simp; omega
        have M4 := mem_new (m := m) M2H.out TDH.out.pos hl2 hown4 hg5 ha5
        have hrow : ∀ q, (Value.slice ga gs.length gc).ownBlock = some q → w.heap.size ≤ q ∧ q ≠ P ∧ q ≠ w.heap.size + 1 := fun q hq =>
          ⟨(M2H.out.outer.lt q hq).1, fun e => absurd (POL q hq) (by omega), fun e => M2H.out.omb (by rw [hq, e])⟩
        have B4 := B2H.out.grown hg5 B2H.out.size (fun q hq => (hrow q hq).1)
        have OM4 := (OM2.out.alloc (.cells #[.slice none 0 0] 29)).kept hg5 (fun e => (hrow _ e.symm).2.2 rfl)
        have q04 := (hg5.cell_far ⟨P, 0, none⟩ hlP (fun e => (hrow _ e.symm).2.1 rfl)).trans (aid.ca (.cells #[.slice none 0 0] 29) q02)
        have q14 := (hg5.cell_far ⟨P, 1, none⟩ hlP (fun e => (hrow _ e.symm).2.1 rfl)).trans (aid.ca (.cells #[.slice none 0 0] 29) q12)
        have hlt5 : w.heap.size + 1 < w4.heap.size := Nat.lt_of_lt_of_le hl2 hg5.size
        have PB4 : P < w4.heap.size := Nat.lt_of_lt_of_le hlP hg5.size
        have hlen := M2H.out.len
        have hg0 : (sl ++ [Value.slice none 0 0]).getD gs.length undef = .slice none 0 0 := by rw [getD_snoc_v, if_pos hlen.symm]
        have hxs : ((gs ++ [(m, (#[] : Array P2))]).getD gs.length default).2 = #[] := by rw [getD_snoc, if_pos rfl]
        have hcell : w4.cell? ⟨g1, gs.length, none⟩ = some (.slice none 0 0) := by
          rw [hown4.cellAt gs.length (by omega), List.getElem?_append_right (by omega), hlen]
          simp
        have hfroz : w4.frozen? ⟨g1, gs.length, none⟩ = false := by
          rcases hown4.2 with ⟨e, _⟩ | ⟨_, _, _, hv, _, hh, _⟩
          · cases e
          · cases hv; unfold World.frozen?; rw [hh]; simp
        have CA0 : (w4.alloc (.cells #[.int .u32 x1, .int .i64 x2] 26)).drew.cell? ⟨g1, gs.length, none⟩ = some (.slice none 0 0) := aid.ca _ hcell
        have FA0 : (w4.alloc (.cells #[.int .u32 x1, .int .i64 x2] 26)).drew.frozen? ⟨g1, gs.length, none⟩ = false := (((Below.refl w4.heap.size w4).alloc (Nat.le_refl _) _).frozen (p := ⟨g1, gs.length, none⟩) hlt4).trans hfroz
        have LA : ∀ b, b < w4.heap.size → b < (w4.alloc (.cells #[.int .u32 x1, .int .i64 x2] 26)).drew.heap.size := fun b hb => by simp; omega
        have NB : ∀ b, some b ≠ (Value.slice none 0 0).ownBlock := fun b e => by simp [Value.ownBlock] at e
        have OWN := Lib.hid (World.ownsRow_nil (w4.alloc (.cells #[.int .u32 x1, .int .i64 x2] 26)).drew w.heap.size 26 2)
        have NW := Lib.hid (show ∀ (j : Nat) u, (enc (x1, x2))[j]? = some u → (w4.alloc (.cells #[.int .u32 x1, .int .i64 x2] 26)).drew.cell? ((⟨w4.heap.size, 0, none⟩ : Addr).add j) = some u from fun j u hu => by
          rw [Addr.add_mid]
          match j, hu with
          | 0, hu => simp [enc] at hu; rw [← hu]; exact aid.new2a w4 _ _ _
          | 1, hu => simp [enc] at hu; rw [← hu]; exact aid.new2b w4 _ _ _
          | j + 2, hu => simp [enc] at hu)
        have E1 : ∀ u ∈ enc (x1, x2), u.oneCell' = true := fun u hu => by simp [enc] at hu; rcases hu with rfl | rfl <;> rfl
        have M4H := Lib.hid M4
        have B4H := Lib.hid B4
        have OM4H := Lib.hid OM4
        have HG0 := Lib.hid hg0
        have HXS := Lib.hid hxs
        have hw4 : w.heap.size ≤ w4.heap.size := by omega
        have hlt1 := hlt5
        have JB : ((gs.length : Int) < (gs.length : Int) + 1) := by omega
        have JC : (0 : Int) ≤ (gs.length : Int) := by omega
        clear hown4 hgrow4 hat4 hg5 ha5 M4 B4 OM4 hg0 hxs q0 q1 q02 q12 OWO NWO M2H B2H OM2 hrow
        go_wp2_with fail
        go_region_law
          (refine step_append_lies _ (by rfl) (.tmp 46) (.tmp 48) 22 (by rfl) w.heap.size 26 ip0 (.agg #[.int .u32 0, .int .i64 0]) 2 16 Try.underlying22 I1.out I2.out I3.out I4.out rfl (by decide) _ 0 [] rfl OWN.out ⟨w4.heap.size, 0, none⟩ 1 1 (enc (x1, x2)) rfl rfl NW.out E1 (by decide) (by unfold maxLen; omega) (by omega) (by simp; omega) _ rfl ?_; intro g cap' w3 hown3 hgrow3 hat3 hlt3; have cw3 := (hgrow3.cell_far ⟨g1, gs.length, none⟩ (LA _ hlt4) (NB _)).trans CA0; have fw3 := (hgrow3.frozen_far ⟨g1, gs.length, none⟩ (LA _ hlt4) (NB _)).trans FA0)
        all_goals
          obtain ⟨r1, r2, r3, r4⟩ := push_new (x := (x1, x2)) (.cells #[.int .u32 x1, .int .i64 x2] 26) M4H.out hlen hlt5 B4H.out OM4H.out hown3 hgrow3 (hat3.resolve_left (fun e => nomatch (show (none : Option Nat) = some g from e)))
          rw [← HADD.out, ← HST.out] at r1
          have R1 := Lib.hid r1
          have R2 := Lib.hid r2
          have R4 := Lib.hid r4
          have R5 := Lib.hid (mapOk_put MOH.out TDH.out hml HNE.out (x1, x2))
          rw [← HADD.out, ← HST.out] at R5
          clear r1 r2 r4 hown3 hgrow3 hat3 hlt3 cw3 fw3
          go_wp2_with fail
          go_roundw
          case rel => exact ⟨k + 1, _, _, by omega, by go_num, R1, R5, R2, r3, R4⟩
          case measure => simp [intOf]; omega
    · have hk' : k = N := by omega
      subst hk'
      go_wp2_with fail
      go_ret
      exact ⟨⟨_, _, rfl, M.out⟩, Bl.out⟩
end Go.Proofs.Ytbfejmehbbieeaa.psgroup
