/- HeadOrders: for every two headers the law answers true. The widths lie as the program's text lays them (the card ties them); no other condition. -/
import Derived.Test.YtedlclgimeafeaaDoorHead8
import Derived.Test.YtedlclgimeafeaaDoorCards
import Derived.SevenTiedAt
set_option linter.unusedVariables false
set_option linter.unusedSimpArgs false
namespace Go.Proofs.YtedlclgimeafeaaDoor.lawOrders
open Go.ChangeShapes Go.WideShapes Go.ChangeAt Go.RowKit Go.Proofs.YtedlclgimeafeaaDoor.frame Go.Proofs.YtedlclgimeafeaaDoor.hmath Go.Proofs.YtedlclgimeafeaaDoor.head1 Go.Proofs.YtedlclgimeafeaaDoor.hrow Go.Proofs.YtedlclgimeafeaaDoor.head3 Go.Proofs.YtedlclgimeafeaaDoor.head5 Go.Proofs.YtedlclgimeafeaaDoor.head6 Go.Proofs.YtedlclgimeafeaaDoor.head7 Go.Proofs.YtedlclgimeafeaaDoor.head8

theorem cmp3_neg (x y : Int) : cmp3 y x = - cmp3 x y := by unfold cmp3; repeat' split
                                                           all_goals omega
theorem cmpFrom_neg (h g : Hd) : ∀ m k, cmpFrom g h m k = - cmpFrom h g m k
  | 0, _ => by simp [cmpFrom]
  | m + 1, k => by
    unfold cmpFrom
    rw [cmp3_neg (getI h k) (getI g k), cmpFrom_neg h g m (k + 1)]
    by_cases e : cmp3 (getI h k) (getI g k) = 0
    · rw [if_pos e, if_pos (by omega)]
    · rw [if_neg e, if_neg (by omega)]
theorem cmpH_neg (h g : Hd) : cmpH g h = - cmpH h g := cmpFrom_neg h g 9 0

def hdP (n : Int) : Hd := { zeroHd with p := n }
theorem hdP_ok (n : Int) (k : hmath.I64 n) : (hdP n).ok := by
  obtain ⟨-, a, b, c, d, e, f, g, i⟩ := zero_ok
  exact ⟨k, a, b, c, d, e, f, g, i⟩
theorem build_1 (w : World) : (Instr.build 33 #[(0, .int .i64 1)]).run Tryd.prog w = .ok (.agg (hdP 1).cells) w := by kernel_rfl
theorem build_2 (w : World) : (Instr.build 33 #[(0, .int .i64 2)]).run Tryd.prog w = .ok (.agg (hdP 2).cells) w := by kernel_rfl

/-- a new array of nine numbers, in which some are written -/
theorem new_nine (w : World) (cs : Array Value) (hsz : cs.size = 9) : ∃ V, (w.alloc (.cells zero9 36)).setCells w.heap.size 0 cs.toList = V ∧ V.rangeAt w.heap.size 0 cs.toList ∧ Below w.heap.size w V ∧ (w.alloc (.cells zero9 36)).there w.heap.size 0 9 :=
  ⟨_, rfl, World.rangeAt_setCells_same _ _ _ _ (by rw [Array.length_toList, hsz]; exact alloc_there w zero9 _), below_setCells (Nat.le_refl _) _ _ _ ((Below.refl _ _).alloc (Nat.le_refl _) _), alloc_there w zero9 _⟩

theorem nums_at (h : Hd) (k : Nat) (hk : k < 9) : (nums h).toList[k]? = some (.int .u64 (getI h k)) := by
  have : k = 0 ∨ k = 1 ∨ k = 2 ∨ k = 3 ∨ k = 4 ∨ k = 5 ∨ k = 6 ∨ k = 7 ∨ k = 8 := by omega
  rcases this with rfl | rfl | rfl | rfl | rfl | rfl | rfl | rfl | rfl <;> rfl

set_option maxRecDepth 100000 in
set_option maxHeartbeats 4000000 in
theorem walk (g h : Hd) (w : World) (gk : g.ok) (hk : h.ok) (L : Laid w) :
    Calls Tryd.prog 6 #[g.val, h.val] w fun e w' => e = .returned (.bool true) ∧ Below w.heap.size w w' := by
  have K1 := Lib.hid (fun w L => cmp_any (hdP 1) (hdP 2) (hdP_ok 1 (by unfold hmath.I64; omega)) (hdP_ok 2 (by unfold hmath.I64; omega)) w L)
  rw [show cmpH (hdP 1) (hdP 2) = -1 by decide] at K1
  have KN1 := Lib.hid (fun w => nums_any g gk w)
  have KN2 := Lib.hid (fun w => nums_any h hk w)
  have KGH := Lib.hid (fun w L => cmp_any g h gk hk w L)
  have KHG := Lib.hid (fun w L => cmp_any h g hk gk w L)
  rw [cmpH_neg g h] at KHG
  have hbd := cmpFrom_bd g h 9 0
  have F0 := Lib.hid (show cmpFrom g h 9 0 = cmpH g h from rfl)
  have L0 := Lib.hid L
  have hS : (w.alloc (.cells g.cells 33)).heap.size = w.heap.size + 1 := by simp
  have B0 := ((Below.refl w.heap.size w).alloc (Nat.le_refl _) (.cells g.cells 33)).alloc (by simp) (.cells h.cells 33)
  have R1 := World.rangeAt_alloc (alloc_row w g.cells 33) (.cells h.cells 33)
  have R2 := alloc_row (w.alloc (.cells g.cells 33)) h.cells 33
  rw [hS] at R2
  have HB := Lib.hid B0
  have HR1 := Lib.hid R1
  have HR2 := Lib.hid R2
  clear L hS B0 R1 R2
  obtain ⟨C, hC⟩ : ∃ C, C = cmpH g h := ⟨_, rfl⟩
  rw [show cmpFrom g h 9 0 = C from hC.symm] at hbd
  rw [← hC] at F0 KGH KHG
  have HCC := Lib.hid hC
  clear hC
  simp only [Hd.val] at K1 KN1 KN2 KGH KHG ⊢
  go_enter Tryd.func6, Tryd.ntmps6
  go_wp2_with (first | (refine wp_build_one rfl 0 (.int .i64 1) (hdP 1).cells rfl build_1 ?_) | (refine wp_build_one rfl 0 (.int .i64 2) (hdP 2).cells rfl build_2 ?_))
  refine (K1.out _ (laid_below HB.out L0.out)).mono ?_
  rintro e w1 ⟨rfl, hb1⟩
  have B1 := Lib.hid (aid.kb hb1 HB.out)
  have RG1 := Lib.hid (row_below hb1 HR1.out)
  have RH1 := Lib.hid (row_below hb1 HR2.out)
  clear hb1 HB HR1 HR2
  go_wp2_with (refine wp_load_hdr rfl (.tmp 2) rfl w.heap.size rfl g.cells rfl RG1.out ?_)
  refine (KN1.out _).mono ?_
  rintro e w2 ⟨rfl, hb2⟩
  obtain ⟨V2, hV2, rA, bV2, tV2⟩ := new_nine w2 (nums g) rfl
  have HV2 := Lib.hid hV2
  have T2 := Lib.hid tV2
  have B2 := Lib.hid (aid.kb bV2 (aid.kb hb2 B1.out))
  have RG2 := Lib.hid (row_below bV2 (row_below hb2 RG1.out))
  have RH2 := Lib.hid (row_below bV2 (row_below hb2 RH1.out))
  have RA2 := Lib.hid rA
  have oA := Lib.hid (one_nums g)
  clear hb2 hV2 rA bV2 tV2 B1 RG1 RH1
  go_wp2_with (first | (refine wp_store_nine rfl (.tmp 5) (.tmp 14) rfl w2.heap.size rfl (nums g) rfl rfl oA.out T2.out V2 HV2.out ?_) | (refine wp_load_hdr rfl (.tmp 3) rfl (w.heap.size + 1) rfl h.cells rfl RH2.out ?_))
  refine (KN2.out _).mono ?_
  rintro e w3 ⟨rfl, hb3⟩
  obtain ⟨V3, hV3, rC, bV3, tV3⟩ := new_nine w3 (nums h) rfl
  have HV3 := Lib.hid hV3
  have T3 := Lib.hid tV3
  have B3 := Lib.hid (aid.kb bV3 (aid.kb hb3 B2.out))
  have RG3 := Lib.hid (row_below bV3 (row_below hb3 RG2.out))
  have RH3 := Lib.hid (row_below bV3 (row_below hb3 RH2.out))
  have RA3 := Lib.hid (row_below bV3 (row_below hb3 RA2.out))
  have RC3 := Lib.hid rC
  have oC := Lib.hid (one_nums h)
  clear hb3 hV3 rC bV3 tV3 B2 RG2 RH2 RA2 HV2 T2 oA
  obtain ⟨A, hA⟩ : ∃ A, A = w2.heap.size := ⟨_, rfl⟩
  obtain ⟨D, hD⟩ : ∃ D, D = w3.heap.size := ⟨_, rfl⟩
  rw [← hA] at RA3
  rw [← hD] at RC3
  have HA := Lib.hid hA
  have HD := Lib.hid hD
  clear hA hD
  go_wp2_with (refine wp_store_nine rfl (.tmp 6) (.tmp 16) rfl w3.heap.size rfl (nums h) rfl rfl oC.out T3.out V3 HV3.out ?_)
  rw [← HA.out, ← HD.out]
  clear HA HD T3 oC HV3 KN1 KN2 K1
  go_loopw [7, 8, 17] (fun cv iv jv wr => ∃ (k : Nat) (c : Int), k ≤ 9 ∧ jv = .int .i64 k ∧ cv = .int .i64 c ∧ -1 ≤ c ∧ c ≤ 1 ∧ Hid ((c = 0 → cmpFrom g h (9 - k) k = C) ∧ (c ≠ 0 → c = C)) ∧ Hid (wr.rangeAt w.heap.size 0 g.cells.toList) ∧ Hid (wr.rangeAt (w.heap.size + 1) 0 h.cells.toList) ∧ Hid (wr.rangeAt A 0 (nums g).toList) ∧ Hid (wr.rangeAt D 0 (nums h).toList) ∧ Hid (Below w.heap.size w wr)) (fun _ _ j _ => 9 - (intOf j).toNat)
  case atStart => exact ⟨0, 0, by omega, rfl, rfl, by omega, by omega, ⟨fun _ => F0.out, fun e => absurd rfl e⟩, RG3, RH3, RA3, RC3, B3⟩
  case round =>
    obtain ⟨k, c, hk9, rfl, rfl, c0, c1, F, RG, RH, RA, RC, B⟩ := hrel
    by_cases hlt : k < 9
    · have k3 := fun s : aid.Keep wr => aid.keep_cell (row_cell RA.out k _ (nums_at g k hlt)) s
      have k4 := fun s : aid.Keep wr => aid.keep_cell (row_cell RC.out k _ (nums_at h k hlt)) s
      have F2 := F.out
      rw [show 9 - k = (9 - (k + 1)) + 1 by omega] at F2
      simp only [cmpFrom] at F2
      have d3 : cmp3 (getI g k) (getI h k) = if getI g k < getI h k then -1 else if getI h k < getI g k then 1 else 0 := rfl
      obtain ⟨x, hx⟩ : ∃ x, x = getI g k := ⟨_, rfl⟩
      obtain ⟨y, hy⟩ : ∃ y, y = getI h k := ⟨_, rfl⟩
      rw [← hx] at k3 F2 d3
      rw [← hy] at k4 F2 d3
      clear hx hy F
      by_cases hz : c = 0
      · subst hz
        have F3 := F2.1 rfl
        by_cases hxy : x < y
        · have F4 := Lib.hid (show (-1 : Int) = C by rw [d3, if_pos hxy] at F3; simpa using F3)
          have t1 : decide (x < y) = true := decide_eq_true hxy
          clear F2 F3 d3
          go_wp2_with fail
          refine aid.wp_region_keep (by kernel_rfl) (by kernel_rfl) ?_
          repeat (go_big_quiet_step (fail))
          refine wpQuiet_nil ?_
          rintro _ ⟨s, rfl⟩
          have k5 := fun s' : aid.Keep s.world => aid.keep_cell (k3 s) s'
          have k6 := fun s' : aid.Keep s.world => aid.keep_cell (k4 s) s'
          go_wp2_with fail
          refine aid.wp_region_keep (by kernel_rfl) (by kernel_rfl) ?_
          repeat (go_big_quiet_step (fail))
          refine wpQuiet_nil ?_
          rintro _ ⟨s2, rfl⟩
          have B2 := Lib.hid (aid.kbk (aid.kbk B.out s) s2)
          have RG2 := Lib.hid (row_below s2.below (row_below s.below RG.out))
          have RH2 := Lib.hid (row_below s2.below (row_below s.below RH.out))
          have RA2 := Lib.hid (row_below s2.below (row_below s.below RA.out))
          have RC2 := Lib.hid (row_below s2.below (row_below s.below RC.out))
          clear k3 k4 k5 k6
          go_wp2_with fail
          go_roundw
          case rel => exact ⟨k + 1, -1, by omega, by go_num, rfl, by omega, by omega, ⟨fun e => absurd e (by omega), fun _ => F4.out⟩, RG2, RH2, RA2, RC2, B2⟩
          case measure => simp [intOf]; omega
        · by_cases hyx : y < x
          · have F4 := Lib.hid (show (1 : Int) = C by rw [d3, if_neg hxy, if_pos hyx] at F3; simpa using F3)
            have t1 : decide (x < y) = false := decide_eq_false hxy
            have t2 : decide (y < x) = true := decide_eq_true hyx
            clear F2 F3 d3
            go_wp2_with fail
            refine aid.wp_region_keep (by kernel_rfl) (by kernel_rfl) ?_
            repeat (go_big_quiet_step (fail))
            refine wpQuiet_nil ?_
            rintro _ ⟨s, rfl⟩
            have k5 := fun s' : aid.Keep s.world => aid.keep_cell (k3 s) s'
            have k6 := fun s' : aid.Keep s.world => aid.keep_cell (k4 s) s'
            go_wp2_with fail
            refine aid.wp_region_keep (by kernel_rfl) (by kernel_rfl) ?_
            repeat (go_big_quiet_step (fail))
            refine wpQuiet_nil ?_
            rintro _ ⟨s2, rfl⟩
            have B2 := Lib.hid (aid.kbk (aid.kbk B.out s) s2)
            have RG2 := Lib.hid (row_below s2.below (row_below s.below RG.out))
            have RH2 := Lib.hid (row_below s2.below (row_below s.below RH.out))
            have RA2 := Lib.hid (row_below s2.below (row_below s.below RA.out))
            have RC2 := Lib.hid (row_below s2.below (row_below s.below RC.out))
            clear k3 k4 k5 k6
            go_wp2_with fail
            go_roundw
            case rel => exact ⟨k + 1, 1, by omega, by go_num, rfl, by omega, by omega, ⟨fun e => absurd e (by omega), fun _ => F4.out⟩, RG2, RH2, RA2, RC2, B2⟩
            case measure => simp [intOf]; omega
          · have F4 := Lib.hid (show cmpFrom g h (9 - (k + 1)) (k + 1) = C by rw [d3, if_neg hxy, if_neg hyx] at F3; simpa using F3)
            have t1 : decide (x < y) = false := decide_eq_false hxy
            have t2 : decide (y < x) = false := decide_eq_false hyx
            clear F2 F3 d3
            go_wp2_with fail
            refine aid.wp_region_keep (by kernel_rfl) (by kernel_rfl) ?_
            repeat (go_big_quiet_step (fail))
            refine wpQuiet_nil ?_
            rintro _ ⟨s, rfl⟩
            have k5 := fun s' : aid.Keep s.world => aid.keep_cell (k3 s) s'
            have k6 := fun s' : aid.Keep s.world => aid.keep_cell (k4 s) s'
            go_wp2_with fail
            refine aid.wp_region_keep (by kernel_rfl) (by kernel_rfl) ?_
            repeat (go_big_quiet_step (fail))
            refine wpQuiet_nil ?_
            rintro _ ⟨s2, rfl⟩
            have B2 := Lib.hid (aid.kbk (aid.kbk B.out s) s2)
            have RG2 := Lib.hid (row_below s2.below (row_below s.below RG.out))
            have RH2 := Lib.hid (row_below s2.below (row_below s.below RH.out))
            have RA2 := Lib.hid (row_below s2.below (row_below s.below RA.out))
            have RC2 := Lib.hid (row_below s2.below (row_below s.below RC.out))
            clear k3 k4 k5 k6
            go_wp2_with fail
            go_roundw
            case rel => exact ⟨k + 1, 0, by omega, by go_num, rfl, by omega, by omega, ⟨fun _ => F4.out, fun e => absurd rfl e⟩, RG2, RH2, RA2, RC2, B2⟩
            case measure => simp [intOf]; omega
      · have F4 := Lib.hid (F2.2 hz)
        have hzb : (c == 0) = false := by simpa using hz
        clear F2 d3
        go_wp2_with fail
        refine aid.wp_region_keep (by kernel_rfl) (by kernel_rfl) ?_
        repeat (go_big_quiet_step (fail))
        refine wpQuiet_nil ?_
        rintro _ ⟨s, rfl⟩
        have k5 := fun s' : aid.Keep s.world => aid.keep_cell (k3 s) s'
        have k6 := fun s' : aid.Keep s.world => aid.keep_cell (k4 s) s'
        go_wp2_with fail
        refine aid.wp_region_keep (by kernel_rfl) (by kernel_rfl) ?_
        repeat (go_big_quiet_step (fail))
        refine wpQuiet_nil ?_
        rintro _ ⟨s2, rfl⟩
        have B2 := Lib.hid (aid.kbk (aid.kbk B.out s) s2)
        have RG2 := Lib.hid (row_below s2.below (row_below s.below RG.out))
        have RH2 := Lib.hid (row_below s2.below (row_below s.below RH.out))
        have RA2 := Lib.hid (row_below s2.below (row_below s.below RA.out))
        have RC2 := Lib.hid (row_below s2.below (row_below s.below RC.out))
        clear k3 k4 k5 k6
        go_wp2_with fail
        go_roundw
        case rel => exact ⟨k + 1, c, by omega, by go_num, rfl, by omega, by omega, ⟨fun e => absurd e hz, fun _ => F4.out⟩, RG2, RH2, RA2, RC2, B2⟩
        case measure => simp [intOf]; omega
    · have hk' : k = 9 := by omega
      subst hk'
      have hcC : c = C := by
        by_cases hz : c = 0
        · have := F.out.1 hz
          rw [hz, ← this]; rfl
        · exact F.out.2 hz
      subst hcC
      go_wp2_with (first | (refine wp_load_hdr rfl (.tmp 2) rfl w.heap.size rfl g.cells rfl RG.out ?_) | (refine wp_load_hdr rfl (.tmp 3) rfl (w.heap.size + 1) rfl h.cells rfl RH.out ?_))
      refine (KGH.out _ (laid_below B.out L0.out)).mono ?_
      rintro e w5 ⟨rfl, hb5⟩
      have B5 := Lib.hid (aid.kb hb5 B.out)
      have RG5 := Lib.hid (row_below hb5 RG.out)
      have RH5 := Lib.hid (row_below hb5 RH.out)
      clear hb5
      go_wp2_with (first | (refine wp_load_hdr rfl (.tmp 2) rfl w.heap.size rfl g.cells rfl RG5.out ?_) | (refine wp_load_hdr rfl (.tmp 3) rfl (w.heap.size + 1) rfl h.cells rfl RH5.out ?_))
      refine (KHG.out _ (laid_below B5.out L0.out)).mono ?_
      rintro e w6 ⟨rfl, hb6⟩
      have B6 := Lib.hid (aid.kb hb6 B5.out)
      clear hb6
      go_wp2_with fail
      go_ret
      exact ⟨rfl, B6.out⟩

set_option maxRecDepth 100000 in
theorem lifted (os : Os) (started : os.Started) (H : Type) (enc : TypeId × Value → H) :
    ReturnsInHanded {} Tryd.checked os 6 .any (fun w args => (Rows.headOrdersSpec.pre enc Tryd.prog Tryd.f6 [] false w args ∧ laidMetH Tryd.prog frame.laid w) ∧ sizedMet enc Tryd.prog Tryd.f6 (OpenSpec.ofChange Rows.headOrdersSpec) false w args)
      (Rows.headOrdersSpec.post enc Tryd.prog Tryd.f6 false true false false) := by
  refine returnsInHanded_of_change_and (C := Tryd.checked) (X := fun w _ => laidMetH Tryd.prog frame.laid w) (fun _ _ _ hh h => h.of_heap hh) own started (by kernel_rfl) Tryd.func6
    (ChangeSpec.witness_shaped (enc := enc) (C := Tryd.checked) (os := os) (X := fun w _ => laidMetH Tryd.prog frame.laid w) false (World.doorLaid Tryd.prog 400 os) #[.agg #[.int .i64 0, .int .u8 0, .int .u8 0, .int .u8 0, .int .u8 0, .int .u8 0, .int .u8 0, .int .u8 0, .int .u8 0, .int .u8 0, .int .u8 0, .int .u8 0, .int .u8 0, .int .i64 0, .int .u32 0, .int .u32 0, .int .i64 0, .int .i64 0, .int .i64 0], .agg #[.int .i64 0, .int .u8 0, .int .u8 0, .int .u8 0, .int .u8 0, .int .u8 0, .int .u8 0, .int .u8 0, .int .u8 0, .int .u8 0, .int .u8 0, .int .u8 0, .int .u8 0, .int .i64 0, .int .u32 0, .int .u32 0, .int .i64 0, .int .i64 0, .int .i64 0]] 8 rfl (World.shaped_of_RefB (by kernel_rfl) (by kernel_rfl)) (by kernel_rfl) (by kernel_rfl) (by kernel_rfl) (frame.door_met os _)) ?_
  intro W base args ds gs before hval0 hW _ _ hL0 _
  have hL := frame.of_laid hL0
  have hval : ∀ (j : Nat) t v, Tryd.f6.params[j]? = some t → args[j]? = some v → Value.okWide Tryd.prog W .any base t v := hval0
  obtain ⟨p, q, hA0, _⟩ := id hW
  have hA : DataW.TrodAll enc Tryd.prog W 0 (fun _ => true) true Tryd.f6.params.toList args.toList ds p := hA0
  rw [Tryd.params6] at hA hval
  obtain ⟨v0, vs0, d0, ds0, p0, q0, hargs, rfl, rfl, h0, r0⟩ := trodAll_cons hA
  obtain ⟨v1, vs1, d1, ds1, p1, q1, rfl, rfl, rfl, h1, r1⟩ := trodAll_cons r0
  obtain ⟨rfl, rfl, rfl⟩ := trodAll_nil r1
  obtain rfl : args = #[v0, v1] := by cases args; simp_all
  obtain ⟨g, rfl, hg⟩ := open_hdr (hval 0 _ v0 rfl rfl) h0
  obtain ⟨h, rfl, hh⟩ := open_hdr (hval 1 _ v1 rfl rfl) h1
  refine (walk g h W hg hh hL).mono fun e W' ⟨he, hb⟩ => ⟨_, he, ?_⟩
  exact law_post laidOut rfl (by kernel_rfl) Tryd.underlying4 (by kernel_rfl) (fun ds h => by match ds, h with | [_, _], _ => rfl) hW hb

theorem over : Rows.HeadOrdersSaid :=
  OpenClaim.holds_of_wide 6 Tryd.f6 rfl rfl rfl rfl rfl rfl rfl ⟨rfl, rfl, rfl, rfl, rfl⟩ rfl rfl rfl rfl rfl (by kernel_rfl) Tryd.func6 (by kernel_rfl)
    (of_decide_eq_true (by kernel_rfl)) (by unfold Func.isWrapper; first | (rw [if_pos (by decide +kernel)]; kernel_rfl) | (rw [if_neg (by decide +kernel)]; exact ⟨rfl, rfl⟩))
    (fun os started H enc _ => lifted os started H enc)

theorem proved : Rows.HeadOrdersCardSaid :=
  Claim7.holds_tied_plain_at .later [] [.data] true _ false
    over (fun _ h => by cases h) (by kernel_rfl) (fun _ h => by cases h) headOrders_row_tie rfl ⟨rfl, rfl⟩ (by kernel_rfl) rfl
    (fun f fn hf hfn => by
      obtain rfl : f = 6 := Option.some.inj ((show Tryd.prog.funcNamed "carrefour/carrefourlaw04.HeadOrders" = some 6 by kernel_rfl).symm.trans hf) |>.symm
      obtain rfl : fn = Tryd.f6 := (Option.some.inj (Tryd.func6.symm.trans hfn)).symm
      exact ⟨by kernel_rfl, fun j t ht => by
        rw [Tryd.params6] at ht
        match j, ht with
        | 0, ht => obtain rfl := Option.some.inj ht; exact (show Tryd.prog.wantsStandIn 33 = false by kernel_rfl)
        | 1, ht => obtain rfl := Option.some.inj ht; exact (show Tryd.prog.wantsStandIn 33 = false by kernel_rfl)
        | j + 2, ht => simp at ht⟩)
    (by kernel_rfl)
end Go.Proofs.YtedlclgimeafeaaDoor.lawOrders
