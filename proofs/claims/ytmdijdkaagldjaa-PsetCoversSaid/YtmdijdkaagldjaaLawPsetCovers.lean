/- PsetCovers: for any slice of prefixes, any prefix and any address the law answers true: an address lies in a set just if it lies in one of its prefixes, and a set of both halves of a prefix covers what the whole does. No condition. -/
import Derived.Test.YtmdijdkaagldjaaPsMake2
import Derived.Test.YtmdijdkaagldjaaPsHead2
import Derived.Test.YtmdijdkaagldjaaPsOpen
import Derived.Test.YtmdijdkaagldjaaMath3
import Derived.Test.YtmdijdkaagldjaaFrame
set_option linter.unusedVariables false
set_option linter.unusedSimpArgs false
namespace Go.Proofs.Ytmdijdkaagldjaa.lawPsetCovers
open Go.ChangeShapes Go.WideShapes Go.ChangeAt Go.RowKit Go.Joins Go.Deep Go.Shelf Go.Lib Go.Sort Go.Proofs.Ytmdijdkaagldjaa.math1 Go.Proofs.Ytmdijdkaagldjaa.frame Go.Proofs.Ytmdijdkaagldjaa.pscmp Go.Proofs.Ytmdijdkaagldjaa.psfind Go.Proofs.Ytmdijdkaagldjaa.pssort Go.Proofs.Ytmdijdkaagldjaa.psuniq Go.Proofs.Ytmdijdkaagldjaa.pscompact Go.Proofs.Ytmdijdkaagldjaa.psof Go.Proofs.Ytmdijdkaagldjaa.psask Go.Proofs.Ytmdijdkaagldjaa.psopen Go.Proofs.Ytmdijdkaagldjaa.pshead Go.Proofs.Ytmdijdkaagldjaa.psmake

def anyTo (d : Array P2) (y : Int) : Nat → Bool
  | 0 => false
  | k + 1 => anyTo d y k || hasB d[k]!.1 d[k]!.2 y
theorem anyTo_iff (d : Array P2) (y : Int) : ∀ k, anyTo d y k = true ↔ ∃ j, j < k ∧ hasB d[j]!.1 d[j]!.2 y = true
  | 0 => by simp [anyTo]
  | k + 1 => by
    rw [anyTo, Bool.or_eq_true, anyTo_iff d y k]
    constructor
    · rintro (⟨j, h1, h2⟩ | h)
      · exact ⟨j, by omega, h2⟩
      · exact ⟨k, by omega, h⟩
    · rintro ⟨j, h1, h2⟩
      by_cases e : j = k
      · right; rw [← e]; exact h2
      · exact .inl ⟨j, by omega, h2⟩
theorem anyTo_all (d : Array P2) (y : Int) : anyTo d y d.size = coversD d y := by
  apply Bool.eq_iff_iff.2
  rw [anyTo_iff, coversD, List.any_eq_true]
  constructor
  · rintro ⟨j, h1, h2⟩; exact ⟨d[j]!, mem_get.2 ⟨j, h1, rfl⟩, h2⟩
  · rintro ⟨x, hx, h⟩
    obtain ⟨j, h1, rfl⟩ := mem_get.1 hx
    exact ⟨j, h1, h⟩
/-- all addresses of a set are addresses -/
theorem mk_u {d : Array P2} (h : AllU d) : AllU (mk d) := fun j hj => by
  obtain ⟨i, hi, e⟩ := mem_get.1 ((mk_mem d _).1 (mem_get.2 ⟨j, hj, rfl⟩))
  rw [← e]; exact h i hi

theorem halves {a n : Int} (h0 : 0 ≤ a) (h1 : a < 4294967296) (hr : rightB a n = true) (hn : n ≠ 32) :
    (AllOk #[(a, n + 1), (a + sz (n + 1), n + 1)] ∧ AllU #[(a, n + 1), (a + sz (n + 1), n + 1)]) ∧ mk #[(a, n + 1), (a + sz (n + 1), n + 1)] = #[(a, n + 1), (a + sz (n + 1), n + 1)] ∧ ∀ y, coversD #[(a, n + 1), (a + sz (n + 1), n + 1)] y = hasB a n y := by
  obtain ⟨hn0, hn1, hz⟩ := rightB_iff.1 hr
  have hlt : n < 32 := by omega
  obtain ⟨r1, r2, hs, hp⟩ := right_mono hr hlt
  have hb := (half_bits a n h0 h1 hn0 hlt hz).2
  refine ⟨⟨fun j hj => ?_, fun j hj => ?_⟩, mk_of_strict (strict_of_pairwise ?_), fun y => ?_⟩
  · have : j = 0 ∨ j = 1 := by simp at hj; omega
    rcases this with rfl | rfl
    · exact r1
    · exact r2
  · have : j = 0 ∨ j = 1 := by simp at hj; omega
    rcases this with rfl | rfl
    · exact ⟨h0, h1⟩
    · exact ⟨show 0 ≤ a + sz (n + 1) by omega, hb⟩
  · simp only [List.pairwise_cons, List.mem_cons, List.not_mem_nil, or_false, forall_eq, List.Pairwise.nil, and_true, false_imp_iff, implies_true]
    rw [cf_neg]
    left
    dsimp only
    omega
  · apply Bool.eq_iff_iff.2
    simp only [coversD, List.any_cons, List.any_nil, Bool.or_false, Bool.or_eq_true]
    rw [has_range hr, has_range r1, has_range r2]
    omega

set_option maxRecDepth 100000 in
set_option maxHeartbeats 1000000 in
theorem walk (v0 : Value) (d : Array P2) (pa pn x : Int) (w : World) (hd : RowOk w v0 d) (hpa : U32 pa) (hpn : I64 pn) (hx : U32 x) :
    Calls Try.prog 7 #[v0, .agg #[.int .u32 pa, .int .i64 pn], .int .u32 x] w fun e w' => e = .returned (.bool true) ∧ Below w.heap.size w w' := by
  obtain ⟨hR, hml, hval⟩ := hd
  obtain ⟨a1, c1, e1⟩ := pssame.IsRow.shape hR
  obtain ⟨N, hN⟩ : ∃ N, N = d.size := ⟨_, rfl⟩
  have hNm : N ≤ 9223372036854775807 := by rw [hN]; exact hml
  rw [← hN] at e1
  subst e1
  have HN := Lib.hid hN
  have HR := Lib.hid hR
  have HU := Lib.hid (show AllU d from fun j hj => (hval j hj).1)
  have KH := Lib.hid head_true
  have P0 := Lib.hid (aid.new2a w (.int .u32 pa) (.int .i64 pn) 26)
  have P1 := Lib.hid (aid.new2b w (.int .u32 pa) (.int .i64 pn) 26)
  have BA := Lib.hid ((Below.refl w.heap.size w).alloc (Nat.le_refl _) (.cells #[.int .u32 pa, .int .i64 pn] 26))
  clear hN hR hml hval
  go_enter Try.func7, Try.ntmps7
  go_wp2_with fail
  refine (KH.out _).mono ?_
  rintro e w1 ⟨rfl, hb⟩
  have B1 := Lib.hid (aid.kb hb BA.out)
  have p0 := Lib.hid (aid.kc hb P0.out)
  have p1 := Lib.hid (aid.kc hb P1.out)
  have hl1 : w.heap.size < w1.heap.size := by have := hb.size; simp at this; omega
  clear hb P0 P1 BA
  by_cases hbig : 40 < N
  · have hbi : (40 : Int) < (N : Int) := by omega
    go_wp2_with fail
    go_ret
    exact ⟨rfl, B1.out⟩
  have hbi : ¬ (40 : Int) < (N : Int) := by omega
  have KM := Lib.hid (make2_any (.slice a1 N c1) (.slice none 0 0) d #[] w1 (HR.out.below B1.out) (.inl ⟨rfl, rfl⟩) HU.out (fun j hj => absurd hj (Nat.not_lt_zero j)) (by rw [← HN.out]; omega) (by decide))
  obtain ⟨D, hD⟩ : ∃ D, D = mk (okD d) := ⟨_, rfl⟩
  have hDu : AllU D := by rw [hD]; exact mk_u (okD_ok HU.out).2
  have hDs : D.size ≤ 40 := by
    have := mk_size (okD d)
    have := okTo_size d d.size
    have := HN.out
    rw [hD]
    unfold okD at *
    omega
  rw [← hD] at KM
  have DU := Lib.hid hDu
  clear hD hDu
  go_wp2_with fail
  refine KM.out.mono ?_
  rintro e w2 ⟨⟨sx, sy, rfl, hx1, hy1⟩, hb2⟩
  obtain ⟨ax, mx, cx, rfl⟩ : ∃ a n c, sx = Value.slice a n c := by
    obtain ⟨a, c, h⟩ := pssame.IsRow.shape hx1
    exact ⟨a, _, c, h⟩
  obtain ⟨ay, my, cy, rfl⟩ : ∃ a n c, sy = Value.slice a n c := by
    obtain ⟨a, c, h⟩ := pssame.IsRow.shape hy1
    exact ⟨a, _, c, h⟩
  have bV : Below w2.heap.size w2 ((w2.alloc (.cells #[.slice ax mx cx] 29)).alloc (.cells #[.slice ay my cy] 29)) := ((Below.refl _ _).alloc (Nat.le_refl _) _).alloc (by simp) _
  have bV1 := aid.kb bV hb2
  have rV := Lib.hid (hx1.below bV)
  have cV := Lib.hid (show ((w2.alloc (.cells #[.slice ax mx cx] 29)).alloc (.cells #[.slice ay my cy] 29)).cell? ⟨w2.heap.size, 0, none⟩ = some (.slice ax mx cx) from aid.ca _ (by go_simp))
  have q0 := Lib.hid (aid.kc bV1 p0.out)
  have q1 := Lib.hid (aid.kc bV1 p1.out)
  have B2 := Lib.hid (aid.kb bV1 B1.out)
  have KL := Lib.hid (list_any (.slice ax mx cx) D _ rV.out (by omega))
  clear bV bV1 hb2 hx1 hy1 p0 p1 B1
  go_wp2_with fail
  refine KL.out.mono ?_
  rintro e w3 ⟨⟨l, rfl, hl⟩, hb3⟩
  have rS := Lib.hid (rV.out.below hb3)
  have cS := Lib.hid (aid.kc hb3 cV.out)
  have r0 := Lib.hid (aid.kc hb3 q0.out)
  have r1 := Lib.hid (aid.kc hb3 q1.out)
  have B3 := Lib.hid (aid.kb hb3 B2.out)
  have hl3 : w.heap.size < w3.heap.size := by have := hb3.size; have := B3.out.size; have := aid.lt_of_cell r0.out; exact this
  obtain ⟨al, cl, hls⟩ := pssame.IsRow.shape hl
  obtain ⟨M, hM⟩ : ∃ M, M = D.size := ⟨_, rfl⟩
  rw [← hM] at hls hDs
  subst hls
  have HM := Lib.hid hM
  have HL := Lib.hid hl
  clear hb3 rV cV q0 q1 B2 hl hM KL
  go_wp2_with fail
  go_loopw [9, 31] (fun bv iv wr => ∃ k : Nat, k ≤ M ∧ iv = .int .i64 k ∧ bv = .bool (anyTo D x k) ∧ Hid (Below w3.heap.size w3 wr)) (fun _ iv _ => M - (intOf iv).toNat)
  case atStart => exact ⟨0, by omega, rfl, rfl, Below.refl _ _⟩
  case round =>
    obtain ⟨k, hk, rfl, rfl, Bl⟩ := hrel
    by_cases hlt : k < M
    · have hkd : k < D.size := by rw [← HM.out]; exact hlt
      obtain ⟨b, o, rfl, RW⟩ : ∃ b o, al = some ⟨b, o, none⟩ ∧ Row w3 b o D := by
        rcases HL.out with ⟨_, e⟩ | ⟨b, o, cp, e, r, _⟩
        · rw [e] at hkd; exact absurd hkd (Nat.not_lt_zero _)
        · simp only [Value.slice.injEq] at e
          exact ⟨b, o, e.1, r⟩
      have RR := RW.below Bl.out
      have k0 := (RR k hkd).1
      have k1 := (RR k hkd).2
      have hxu := DU.out k hkd
      have hst : anyTo D x (k + 1) = (anyTo D x k || hasB D[k]!.1 D[k]!.2 x) := rfl
      obtain ⟨⟨x1, x2⟩, hxx⟩ : ∃ y, y = D[k]! := ⟨_, rfl⟩
      rw [← hxx] at k0 k1 hxu hst
      dsimp only at k0 k1 hxu hst
      have K := Lib.hid (fun W => ip1.has_any x1 x2 x W hxu.1 hxu.2 hx.1 hx.2)
      have HST := Lib.hid hst
      clear RR RW hxu hxx hst
      have BA := Lib.hid ((Below.refl wr.heap.size wr).alloc (Nat.le_refl _) (.cells #[.int .u32 x1, .int .i64 x2] 26))
      cases hv : anyTo D x k
      · rw [hv] at HST
        obtain ⟨rv, hrv⟩ : ∃ rv, rv = hasB x1 x2 x := ⟨_, rfl⟩
        rw [← hrv] at K HST
        clear hv hrv
        go_wp2_with fail
        refine (K.out _).mono ?_
        rintro e w4 ⟨rfl, hb4⟩
        have B4 := Lib.hid (aid.kb (aid.kb hb4 BA.out) Bl.out)
        clear hb4
        go_wp2_with fail
        go_roundw
        case rel => exact ⟨k + 1, by omega, by go_num, by rw [HST.out]; simp, B4⟩
        case measure => simp [intOf]; omega
      · rw [hv] at HST
        clear hv
        have B4 := Lib.hid (aid.kb BA.out Bl.out)
        go_wp2_with fail
        go_roundw
        case rel => exact ⟨k + 1, by omega, by go_num, by rw [HST.out]; simp, B4⟩
        case measure => simp [intOf]; omega
    · have hk' : k = M := by omega
      subst hk'
      obtain ⟨cv, hcv⟩ : ∃ cv, cv = anyTo D x k := ⟨_, rfl⟩
      have hcd : coversD D x = cv := by rw [hcv, HM.out, anyTo_all]
      rw [← hcv]
      have KC := Lib.hid (covers_set (.slice ax mx cx) D x wr (rS.out.below Bl.out) DU.out hx (by rw [← HM.out]; omega))
      rw [hcd] at KC
      have c7 := aid.kc Bl.out cS.out
      have s0 := aid.kc Bl.out r0.out
      have s1 := aid.kc Bl.out r1.out
      have B5 := Lib.hid (aid.kb Bl.out B3.out)
      clear hcv hcd rS cS r0 r1 B3 Bl
      go_wp2_with fail
      refine KC.out.mono ?_
      rintro e w5 ⟨rfl, hb5⟩
      have t0 := aid.kc hb5 s0
      have t1 := aid.kc hb5 s1
      have B6 := Lib.hid (aid.kb hb5 B5.out)
      have hl5 := aid.lt_of_cell t0
      dsimp only at hl5
      clear hb5 s0 s1 c7 B5 KC
      have hcv2 : (cv != cv) = false := by cases cv <;> rfl
      by_cases hno : rightB pa pn = false ∨ pn = 32
      · have KN := Lib.hid (fun t W => ip1.half_no pa pn t W hpa.1 hpa.2 hno)
        clear hno
        go_wp2_with fail
        refine (KN.out _ _).mono ?_
        rintro e w6 ⟨rfl, hb6⟩
        have a0 : Below w6.heap.size w6 (w6.alloc (.cells #[.int .u32 0, .int .i64 0] 26)) := (Below.refl _ _).alloc (Nat.le_refl _) _
        have z0 := aid.kc a0 (aid.kc hb6 t0)
        have z1 := aid.kc a0 (aid.kc hb6 t1)
        have B7 := Lib.hid (aid.kb a0 (aid.kb hb6 B6.out))
        clear a0 hb6 t0 t1 B6
        go_wp2_with fail
        refine (KN.out _ _).mono ?_
        rintro e w7 ⟨rfl, hb7⟩
        have B8 := Lib.hid (aid.kba (aid.kb hb7 B7.out) (.cells #[.int .u32 0, .int .i64 0] 26))
        clear hb7 z0 z1 B7
        go_wp2_with fail
        go_ret
        exact ⟨rfl, B8.out⟩
      · have hr : rightB pa pn = true := by
          cases h : rightB pa pn
          · exact absurd (.inl h) hno
          · rfl
        have hn32 : pn ≠ 32 := fun h => hno (.inr h)
        obtain ⟨hok, hmk, hcov⟩ := halves hpa.1 hpa.2 hr hn32
        have KY := Lib.hid (fun t W => ip1.half_yes pa pn t W hpa.1 hpa.2 hr hn32)
        have hl0 : ip1.halfI pa pn 0 = pa := rfl
        have hl1' : ip1.halfI pa pn 1 = pa + sz (pn + 1) := rfl
        have KO := Lib.hid (fun W b c => of_lit #[(pa, pn + 1), (pa + sz (pn + 1), pn + 1)] #[(pa, pn + 1), (pa + sz (pn + 1), pn + 1)] 2 2 rfl rfl (by decide) hmk (by simp) hok W b c)
        have HCV := Lib.hid (hcov x)
        have HU2 := Lib.hid hok.2
        have FL := Lib.hid (show ∀ t W, Row (World.alloc W (.cells #[.int .u32 pa, .int .i64 (pn + 1), .int .u32 (pa + sz (pn + 1)), .int .i64 (pn + 1)] t)) W.heap.size 0 #[(pa, pn + 1), (pa + sz (pn + 1), pn + 1)] from fun t W => lit_row W t _ _ ((fl_of [(pa, pn + 1), (pa + sz (pn + 1), pn + 1)]).symm ▸ rfl))
        have KHP := Lib.hid (fun W => ip1.has_any pa pn x W hpa.1 hpa.2 hx.1 hx.2)
        obtain ⟨hi, hhi⟩ : ∃ hi, hi = pa + sz (pn + 1) := ⟨_, rfl⟩
        obtain ⟨n1, hn1⟩ : ∃ n1, n1 = pn + 1 := ⟨_, rfl⟩
        rw [← hn1] at hhi hl1' KY KO HCV HU2 FL
        rw [← hhi] at hl1' KO HCV HU2 FL
        have KY0 := Lib.hid (fun W => KY.out 0 W)
        have KY1 := Lib.hid (fun W => KY.out 1 W)
        rw [hl0] at KY0
        rw [hl1'] at KY1
        clear hno hr hn32 hok hmk hcov hl0 hl1' hhi hn1 KY
        go_wp2_with fail
        refine (KY0.out _).mono ?_
        rintro e w6 ⟨rfl, hb6⟩
        have a0 : Below w6.heap.size w6 (w6.alloc (.cells #[.int .u32 pa, .int .i64 n1] 26)) := (Below.refl _ _).alloc (Nat.le_refl _) _
        have z0 := aid.kc a0 (aid.kc hb6 t0)
        have z1 := aid.kc a0 (aid.kc hb6 t1)
        have lo0 := Lib.hid (aid.new2a w6 (.int .u32 pa) (.int .i64 n1) 26)
        have lo1 := Lib.hid (aid.new2b w6 (.int .u32 pa) (.int .i64 n1) 26)
        have B7 := Lib.hid (aid.kb a0 (aid.kb hb6 B6.out))
        clear a0 hb6 t0 t1 B6
        go_wp2_with fail
        refine (KY1.out _).mono ?_
        rintro e w7 ⟨rfl, hb7⟩
        have a0 : Below w7.heap.size w7 (w7.alloc (.cells #[.int .u32 hi, .int .i64 n1] 26)) := (Below.refl _ _).alloc (Nat.le_refl _) _
        have bb := aid.kb a0 hb7
        have y0 := Lib.hid (aid.kc bb z0)
        have y1 := Lib.hid (aid.kc bb z1)
        have lo2 := aid.kc bb lo0.out
        have lo3 := aid.kc bb lo1.out
        have hi2 := aid.new2a w7 (.int .u32 hi) (.int .i64 n1) 26
        have hi3 := aid.new2b w7 (.int .u32 hi) (.int .i64 n1) 26
        have B8 := Lib.hid (aid.kb bb B7.out)
        have bL : Below _ (w7.alloc (.cells #[.int .u32 hi, .int .i64 n1] 26)) ((w7.alloc (.cells #[.int .u32 hi, .int .i64 n1] 26)).alloc (.cells #[.int .u32 pa, .int .i64 n1, .int .u32 hi, .int .i64 n1] 26)) := (Below.refl _ _).alloc (Nat.le_refl _) _
        have BL := Lib.hid bL
        have FR := Lib.hid (FL.out 26 (w7.alloc (.cells #[.int .u32 hi, .int .i64 n1] 26)))
        have hsz : (w7.alloc (.cells #[.int .u32 hi, .int .i64 n1] 26)).heap.size = w7.heap.size + 1 := by simp
        rw [hsz] at FR
        have KO2 := Lib.hid (KO.out ((w7.alloc (.cells #[.int .u32 hi, .int .i64 n1] 26)).alloc (.cells #[.int .u32 pa, .int .i64 n1, .int .u32 hi, .int .i64 n1] 26)) (w7.heap.size + 1) 2 (by simp) FR.out)
        clear a0 hb7 bb z0 z1 lo0 lo1 B7 bL hsz
        go_wp2_with fail
        refine KO2.out.mono ?_
        rintro e w8 ⟨⟨g, o, cp, rfl, rr, lt8⟩, hb8⟩
        have a8 : Below w8.heap.size w8 (w8.alloc (.cells #[.slice (some ⟨g, o, none⟩) 2 cp] 29)) := (Below.refl _ _).alloc (Nat.le_refl _) _
        have bb8 := aid.kb a8 (aid.kb hb8 BL.out)
        have x0 := Lib.hid (aid.kc bb8 y0.out)
        have x1 := Lib.hid (aid.kc bb8 y1.out)
        have vr := Lib.hid (Var.new (m := 2) (cap := cp) w8 29 rr lt8)
        have B9 := Lib.hid (aid.kb bb8 B8.out)
        clear a8 bb8 hb8 rr lt8 y0 y1 lo2 lo3 hi2 hi3 B8 BL KO2 FR FL
        obtain ⟨V, hV⟩ : ∃ V, V = w8.alloc (.cells #[.slice (some ⟨g, o, none⟩) 2 cp] 29) := ⟨_, rfl⟩
        rw [← hV] at x0 x1 vr B9
        have HV := Lib.hid hV
        have k0 := fun s : aid.Keep V => aid.keep_cell x0.out s
        have k1 := fun s : aid.Keep V => aid.keep_cell x1.out s
        have k2 := fun s : aid.Keep V => aid.keep_cell vr.out.cell s
        have KLEN := Lib.hid (fun s : aid.Keep V => len_any (.slice (some ⟨g, o, none⟩) 2 cp) s.world 2 (.inr ⟨_, _, rfl⟩))
        have KCO := Lib.hid (fun s : aid.Keep V => covers_set (.slice (some ⟨g, o, none⟩) 2 cp) #[(pa, n1), (hi, n1)] x s.world (.inr ⟨g, o, cp, rfl, vr.out.row.below s.below, Nat.lt_of_lt_of_le vr.out.lt s.below.size⟩) HU2.out hx (by simp))
        rw [HCV.out] at KCO
        have KHA := Lib.hid (fun s : aid.Keep V => KHP.out s.world)
        obtain ⟨rv, hrv⟩ : ∃ rv, rv = hasB pa pn x := ⟨_, rfl⟩
        rw [← hrv] at KCO KHA
        have hrr : (rv == rv) = true := by cases rv <;> rfl
        clear hV hrv x0 x1 KHP
        go_wp2_with fail
        rw [← HV.out]
        refine aid.wp_region_keep (by kernel_rfl) (by kernel_rfl) ?_
        repeat (go_big_quiet_step ((first | (go_at_call 14; (with_reducible exact aid.keep_call (KLEN.out _))) | (go_at_call 19; (with_reducible exact aid.keep_call (KCO.out _))) | (go_at_call 28; (with_reducible exact aid.keep_call (KHA.out _))))))
        refine wpQuiet_nil ?_
        rintro _ ⟨s, rfl⟩
        go_wp2_with fail
        go_ret
        exact ⟨rfl, aid.kbk B9.out s⟩

set_option maxRecDepth 100000 in
theorem lifted (os : Os) (started : os.Started) (H : Type) (enc : TypeId × Value → H) :
    ReturnsInHanded {} Try.checked os 7 .any (Rows.psetCoversSpec.pre6 enc Try.prog Try.f7 Rows.psetCoversRow.domain false) (Rows.psetCoversSpec.post enc Try.prog Try.f7 false true false false) := by
  refine returnsInHanded_of_change (C := Try.checked) own started (by kernel_rfl) Try.func7
    (ChangeSpec.witness6 (enc := enc) (C := Try.checked) false ⟨#[], #[.slice none 0 0, .agg #[.int .u32 0, .int .i64 0], .int .u32 0], []⟩ 8 (by kernel_rfl) (by kernel_rfl) (by kernel_rfl) (by kernel_rfl)) ?_
  intro W base args ds gs before hval0 hW hcnd _
  have hval : ∀ (j : Nat) t v, Try.f7.params[j]? = some t → args[j]? = some v → Value.okWide Try.prog W .any base t v := hval0
  obtain ⟨p, q, hA0, _⟩ := id hW
  have hA : DataW.TrodAll enc Try.prog W 0 (fun _ => true) true Try.f7.params.toList args.toList ds p := hA0
  rw [Try.params7] at hA hval
  obtain ⟨v0, vs0, d0, ds0, p0, q0, hargs, rfl, rfl, h0, r0⟩ := trodAll_cons hA
  obtain ⟨v1, vs1, d1, ds1, p1, q1, rfl, rfl, rfl, h1, r1⟩ := trodAll_cons r0
  obtain ⟨v2, vs2, d2, ds2, p2, q2, rfl, rfl, rfl, h2, r2⟩ := trodAll_cons r1
  obtain ⟨rfl, rfl, rfl⟩ := trodAll_nil r2
  obtain rfl : args = #[v0, v1, v2] := by cases args; simp_all
  obtain ⟨d, hd⟩ := psopen.open_row (hval 0 _ v0 rfl rfl) h0
  obtain ⟨pa, pn, rfl, hpa, hpn⟩ := open_pfx (hval 1 _ v1 rfl rfl) h1
  obtain ⟨x, rfl, hx⟩ := open_u32 Try.underlying24 (hval 2 _ v2 rfl rfl) h2
  refine (walk v0 d pa pn x W hd hpa hpn hx).mono fun e W' ⟨he, hb⟩ => ⟨_, he, ?_⟩
  exact law_post laidOut rfl (by kernel_rfl) Try.underlying4 (by kernel_rfl) (fun ds h => by match ds, h with | [_, _, _], _ => rfl) hW hb

theorem over : Rows.psetCoversRow.holds Try.pinned (OpenSpec.ofChange Rows.psetCoversSpec) :=
  OpenClaim.holds_of_wide 7 Try.f7 rfl rfl rfl rfl rfl rfl rfl ⟨rfl, rfl, rfl, rfl, rfl⟩ rfl rfl rfl rfl rfl (by kernel_rfl) Try.func7 (by kernel_rfl)
    (of_decide_eq_true (by kernel_rfl)) (by unfold Func.isWrapper; first | (rw [if_pos (by decide +kernel)]; kernel_rfl) | (rw [if_neg (by decide +kernel)]; exact ⟨rfl, rfl⟩))
    (fun os started H enc _ => lifted os started H enc)

theorem proved : Rows.PsetCoversSaid := over
end Go.Proofs.Ytmdijdkaagldjaa.lawPsetCovers
