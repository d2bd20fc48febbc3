import Derived.Test.YtpnbbaocdbopiaaPsMerge1
import Derived.Test.YtpnbbaocdbopiaaPsMake2
/- Package pset: merge. -/
set_option linter.unusedVariables false
set_option linter.unusedSimpArgs false
namespace Go.Proofs.Ytpnbbaocdbopiaa.psmerge
open Go.RowKit Go.Shelf Go.Lib Go.Sort Go.Proofs.Ytpnbbaocdbopiaa.math1 Go.Proofs.Ytpnbbaocdbopiaa.pscmp Go.Proofs.Ytpnbbaocdbopiaa.psfind Go.Proofs.Ytpnbbaocdbopiaa.pssort Go.Proofs.Ytpnbbaocdbopiaa.psuniq Go.Proofs.Ytpnbbaocdbopiaa.pscompact Go.Proofs.Ytpnbbaocdbopiaa.psof Go.Proofs.Ytpnbbaocdbopiaa.psask Go.Proofs.Ytpnbbaocdbopiaa.psgroup

def lenOf : Value → Nat
  | .slice _ n _ => n
  | _ => 0
/-- a slice of which i are behind -/
def Sl (W : World) (v : Value) (d : Array P2) (i : Nat) : Prop := i ≤ d.size ∧ ∃ a c, v = .slice a (d.size - i) c ∧ (i < d.size → ∃ b o, a = some ⟨b, o + i * 2, none⟩ ∧ Row W b o d ∧ d.size - i ≤ c)
theorem sl_of {W : World} {s : Value} {d : Array P2} (h : IsRow W s d) (hc : ∀ b o c, s = .slice (some ⟨b, o, none⟩) d.size c → d.size ≤ c) : Sl W s d 0 := by
  rcases h with ⟨rfl, rfl⟩ | ⟨b, o, cap, rfl, r, _⟩
  · exact ⟨Nat.le_refl _, none, 0, rfl, fun h => absurd h (Nat.not_lt_zero _)⟩
  · exact ⟨Nat.zero_le _, _, cap, rfl, fun _ => ⟨b, o, by simp, r, by simpa using hc b o cap rfl⟩⟩

/-- what heads says, and of whom -/
theorem order {W : World} {d e : Array P2} {i j : Nat} {a b : Option Addr} {ca cb : Nat} (hl : Sl W (.slice a (d.size - i) ca) d i) (hr : Sl W (.slice b (e.size - j) cb) e j) (hne : ¬ (i = d.size ∧ j = e.size)) :
    ∃ (o : Int) (s t : Bool) (p : P2), (∀ W', Below W.heap.size W W' → Calls Try.prog 56 #[.slice a (d.size - i) ca, .slice b (e.size - j) cb] W' fun e1 w' => e1 = .returned (.int .i64 o) ∧ Below W'.heap.size W' w') ∧ decide (o ≤ 0) = s ∧ decide (0 ≤ o) = t ∧ (s = true ∨ t = true) ∧
      (s = true → i < d.size ∧ p = d[i]!) ∧ (t = true → j < e.size ∧ p = e[j]!) ∧ (s = false → i < d.size → cf p d[i]! < 0) ∧ (t = false → j < e.size → cf p e[j]! < 0) := by
  obtain ⟨hi, a', c', ea, ra⟩ := hl
  obtain ⟨hj, b', c'', eb, rb⟩ := hr
  cases ea
  cases eb
  by_cases h1 : i = d.size
  · have hj1 : j < e.size := by omega
    refine ⟨1, false, true, e[j]!, fun W' _ => ?_, by decide, by decide, .inr rfl, fun h => (by cases h), fun _ => ⟨hj1, rfl⟩, fun _ h => (by omega), fun h => (by cases h)⟩
    rw [show d.size - i = 0 by omega]
    exact heads_left _ _ _ W'
  · by_cases h2 : j = e.size
    · refine ⟨-1, true, false, d[i]!, fun W' _ => ?_, by decide, by decide, .inl rfl, fun _ => ⟨by omega, rfl⟩, fun h => (by cases h), fun h => (by cases h), fun _ h => (by omega)⟩
      rw [show e.size - j = 0 by omega]
      exact heads_right _ _ _ _ _ (by omega) W'
    · have hi1 : i < d.size := by omega
      have hj1 : j < e.size := by omega
      obtain ⟨b1, o1, rfl, r1, _⟩ := ra hi1
      obtain ⟨b2, o2, rfl, r2, _⟩ := rb hj1
      have kx := fun W' (hb : Below W.heap.size W W') => r1.below hb i hi1
      have ky := fun W' (hb : Below W.heap.size W W') => r2.below hb j hj1
      generalize d[i]! = x at kx ⊢
      generalize e[j]! = y at ky ⊢
      have K : ∀ W', Below W.heap.size W W' → Calls Try.prog 56 #[.slice (some ⟨b1, o1 + i * 2, none⟩) (d.size - i) ca, .slice (some ⟨b2, o2 + j * 2, none⟩) (e.size - j) cb] W' fun e1 w' => e1 = .returned (.int .i64 (cf x y)) ∧ Below W'.heap.size W' w' := fun W' hb =>
        heads_both b1 (o1 + i * 2) _ _ b2 (o2 + j * 2) _ _ x.1 x.2 y.1 y.2 (by omega) (by omega) W' (kx W' hb).1 (kx W' hb).2 (ky W' hb).1 (ky W' hb).2
      have hz := cf_zero x y
      have hn := cf_lt_of (x := y) (y := x)
      by_cases c1 : cf x y < 0
      · exact ⟨cf x y, true, false, x, K, decide_eq_true (by omega), decide_eq_false (by omega), .inl rfl, fun _ => ⟨hi1, rfl⟩, fun h => (by cases h), fun h => (by cases h), fun _ _ => c1⟩
      · by_cases c0 : cf x y = 0
        · exact ⟨cf x y, true, true, x, K, decide_eq_true (by omega), decide_eq_true (by omega), .inl rfl, fun _ => ⟨hi1, rfl⟩, fun _ => ⟨hj1, hz.1 c0⟩, fun h => (by cases h), fun h => (by cases h)⟩
        · have c2 : cf y x < 0 := hn c1 (fun h => c0 (hz.2 h.symm))
          exact ⟨cf x y, false, true, y, K, decide_eq_false (by omega), decide_eq_true (by omega), .inr rfl, fun h => (by cases h), fun _ => ⟨hj1, rfl⟩, fun _ _ => c2, fun h => (by cases h)⟩
theorem sl_below {W W' : World} {v : Value} {d : Array P2} {i : Nat} (h : Sl W v d i) (hb : Below W.heap.size W W') : Sl W' v d i := by
  obtain ⟨hi, a, c, e, r⟩ := h
  refine ⟨hi, a, c, e, fun h => ?_⟩
  obtain ⟨b, o, e2, r2, hc⟩ := r h
  exact ⟨b, o, e2, r2.below hb, hc⟩
theorem sl_next {W : World} {b o c : Nat} {d : Array P2} {i : Nat} (hi : i < d.size) (hR : Row W b o d) (hc : d.size - i ≤ c) : Sl W (.slice (some ⟨b, o + i * 2 + 2, none⟩) (d.size - i - 1) (c - 1)) d (i + 1) :=
  ⟨hi, _, _, by rw [show d.size - (i + 1) = d.size - i - 1 by omega], fun _ => ⟨b, o, by rw [show o + (i + 1) * 2 = o + i * 2 + 2 by omega], hR, by omega⟩⟩
theorem sl_last {W : World} {c : Nat} {d : Array P2} {i : Nat} (hi : i < d.size) (hc : d.size - i ≤ c) (h1 : c = 1) (a : Option Addr) (c' : Nat) : Sl W (.slice a (d.size - i - 1) c') d (i + 1) :=
  ⟨hi, a, c', by rw [show d.size - (i + 1) = d.size - i - 1 by omega], fun h => absurd h (by omega)⟩

set_option maxRecDepth 100000 in
set_option maxHeartbeats 12000000 in
theorem merge_any (F : FuncId) (keep : Bool → Bool → Bool) (eg : ∀ args w, (callFunc F args).run Try.prog w = .ok (.enter F args) w) (KF : ∀ a b W, Calls Try.prog F #[.bool a, .bool b] W fun e w' => e = .returned (.bool (keep a b)) ∧ W = w')
    (s1 s2 : Value) (d e : Array P2) (w : World) (h1 : Sl w s1 d 0) (h2 : Sl w s2 e 0) (sd : Strict d) (se : Strict e) (n1 : d.size ≤ 4096) (n2 : e.size ≤ 4096) :
    Calls Try.prog 42 #[.agg #[s1], .agg #[s2], .func (.func F) #[] #[]] w fun e1 w' => (∃ x R, e1 = .returned (.agg #[x]) ∧ IsRow w' x R ∧ (∀ b o c, x = .slice (some ⟨b, o, none⟩) R.size c → R.size ≤ c) ∧ Mg keep d e d.size e.size R) ∧ Below w.heap.size w w' := by
  obtain ⟨ip0, hi, hz0, hz1, hz2⟩ : ∃ i, Try.prog.info? 26 = some i ∧ i.zero = some (.agg #[.int .u32 0, .int .i64 0]) ∧ i.size = 2 ∧ i.bytes = 16 := by
    have h := infoPfx
    cases h2 : Try.prog.info? 26 with
    | none => rw [h2] at h; cases h
    | some i => rw [h2] at h; simp at h; exact ⟨i, rfl, h.1, h.2.1, h.2.2⟩
  have I1 := Lib.hid hi
  have I2 := Lib.hid hz0
  have I3 := Lib.hid hz1
  have I4 := Lib.hid hz2
  have KFH := Lib.hid KF
  have SD := Lib.hid sd
  have SE := Lib.hid se
  have H1 := Lib.hid h1
  have H2 := Lib.hid h2
  obtain ⟨_, a1, c1, rfl, _⟩ := h1
  obtain ⟨_, a2, c2, rfl, _⟩ := h2
  obtain ⟨N, hN⟩ : ∃ N, N = d.size - 0 := ⟨_, rfl⟩
  obtain ⟨M, hM⟩ : ∃ M, M = e.size - 0 := ⟨_, rfl⟩
  rw [← hN] at H1 ⊢
  rw [← hM] at H2 ⊢
  have HN := Lib.hid hN
  have HM := Lib.hid hM
  clear hN hM hi hz0 hz1 hz2 KF sd se
  go_enter Try.func42, Try.ntmps42
  go_wp2_with fail
  have BX := ((((Below.refl w.heap.size w).alloc (Nat.le_refl _) (.cells #[.slice a1 N c1] 29)).alloc (by simp) (.cells #[.slice a2 M c2] 29)).alloc (by simp; omega) (.cells #[.slice none 0 0] 29)).alloc (by simp; omega) (.cells #[.slice none 0 0] 29)
  obtain ⟨W0, hW0⟩ : ∃ W0, W0 = (((w.alloc (.cells #[.slice a1 N c1] 29)).alloc (.cells #[.slice a2 M c2] 29)).alloc (.cells #[.slice none 0 0] 29)).alloc (.cells #[.slice none 0 0] 29) := ⟨_, rfl⟩
  have hsz : W0.heap.size = w.heap.size + 4 := by rw [hW0]; simp
  have e0 : W0.cell? ⟨w.heap.size, 0, none⟩ = some (.slice a1 N c1) := by rw [hW0]; go_simp
  have e1 : W0.cell? ⟨w.heap.size + 1, 0, none⟩ = some (.slice a2 M c2) := by rw [hW0]; go_simp
  have e2 : W0.cell? ⟨w.heap.size + 2, 0, none⟩ = some (.slice none 0 0) := by rw [hW0]; go_simp
  have e3 : W0.cell? ⟨w.heap.size + 3, 0, none⟩ = some (.slice none 0 0) := by rw [hW0]; go_simp
  have f2 : W0.frozen? ⟨w.heap.size + 2, 0, none⟩ = false := by rw [hW0]; go_simp
  have f3 : W0.frozen? ⟨w.heap.size + 3, 0, none⟩ = false := by rw [hW0]; go_simp
  rw [← hW0] at BX ⊢
  have g0 := fun s : aid.Keep W0 => aid.keep_cell e0 s
  have g1 := fun s : aid.Keep W0 => aid.keep_cell e1 s
  have B0 := Lib.hid BX
  have SZ := Lib.hid hsz
  have E2 := Lib.hid e2
  have E3 := Lib.hid e3
  have F2 := Lib.hid f2
  have F3 := Lib.hid f3
  clear BX hW0 e0 e1 e2 e3 f2 f3
  refine aid.wp_region_keep (by kernel_rfl) (by kernel_rfl) ?_
  repeat (go_big_quiet_step (fail))
  refine wpQuiet_nil ?_
  rintro _ ⟨s0, rfl⟩
  have hs0 := s0.below.size
  have c3 := Lib.hid (g0 s0)
  have E3' := Lib.hid (aid.keep_cell E3.out s0)
  have F3' := Lib.hid ((s0.below.frozen (p := ⟨w.heap.size + 3, 0, none⟩) (by show w.heap.size + 3 < W0.heap.size; omega)).trans F3.out)
  have BZ := Lib.hid (show Below (w.heap.size + 3) W0 s0.world from s0.below.mono (by omega))
  have hz4 : w.heap.size + 4 ≤ s0.world.heap.size := by omega
  obtain ⟨W1, hW1⟩ : ∃ W1, W1 = s0.world := ⟨_, rfl⟩
  rw [← hW1] at E3' F3' BZ hz4 ⊢
  clear g0 g1 c3 hW1 hs0
  go_wp2_with fail
  go_loopw [8, 9] (fun lv rv wr => ∃ (i j : Nat) (R : Array P2) (kv : Value) (a b : Option Addr) (ca cb : Nat), i ≤ d.size ∧ j ≤ e.size ∧ lv = .slice a (d.size - i) ca ∧ rv = .slice b (e.size - j) cb ∧ Hid (Sl w lv d i) ∧ Hid (Sl w rv e j) ∧ Hid (Mg keep d e i j R) ∧
      Hid (wr.ownsRow (w.heap.size + 4) 26 2 kv R.size (fl R)) ∧ Hid (wr.cell? ⟨w.heap.size + 3, 0, none⟩ = some kv) ∧ Hid (wr.frozen? ⟨w.heap.size + 3, 0, none⟩ = false) ∧ w.heap.size + 4 ≤ wr.heap.size ∧ Hid (Below (w.heap.size + 3) W0 wr)) (fun lv rv _ => lenOf lv + lenOf rv)
  case atStart =>
    have z1 : N = d.size - 0 := HN.out
    have z2 : M = e.size - 0 := HM.out
    exact ⟨0, 0, #[], .slice none 0 0, a1, a2, c1, c2, Nat.zero_le _, Nat.zero_le _, by rw [z1], by rw [z2], H1, H2, mg_zero keep d e, Lib.hid (by rw [pshead.fl_nil]; exact World.ownsRow_nil _ _ _ _), E3', F3', hz4, BZ⟩
  case round =>
    obtain ⟨i, j, R, kv, a, b, ca, cb, hi1, hj1, rfl, rfl, SL, SR, MG, O, CK, FK, hz, Bl⟩ := hrel
    have hwr : w.heap.size ≤ wr.heap.size := by omega
    have BW := B0.out.trans (Bl.out.mono (Nat.le_add_right _ 3))
    by_cases hend : i = d.size ∧ j = e.size
    · obtain ⟨hi, hj⟩ := hend
      have m0 : d.size - i = 0 := by omega
      have m1 : e.size - j = 0 := by omega
      rw [m0, m1]
      have c6 := (Bl.out.cell (p := ⟨w.heap.size + 2, 0, none⟩) (show w.heap.size + 2 < w.heap.size + 3 by omega)).trans E2.out
      have f6 := (Bl.out.frozen (p := ⟨w.heap.size + 2, 0, none⟩) (show w.heap.size + 2 < w.heap.size + 3 by omega)).trans F2.out
      obtain ⟨ka, kn, kc, hkv⟩ : ∃ a n c, kv = Value.slice a n c := by
        rcases O.out.2 with ⟨h, _⟩ | ⟨_, _, _, h, _⟩ <;> exact ⟨_, _, _, h⟩
      subst hkv
      have hck := CK.out
      have hb2 : w.heap.size + 2 < wr.heap.size := by omega
      have BWH := Lib.hid BW
      clear BW
      go_wp2_with fail
      refine bodyPost_ret (v := .agg #[.slice ka kn kc]) (by simp [results, Try.results42, go_sem, c6]) rfl ⟨⟨_, R, rfl, ?_, ?_, ?_⟩, ?_⟩
      · rcases O.out.2 with ⟨h, h0⟩ | ⟨g, c, cur, h, hg, _⟩
        · have hR0 : R = #[] := Array.eq_empty_of_size_eq_zero h0
          cases h
          exact .inl ⟨rfl, hR0⟩
        · cases h
          exact psmake.isRow_far (psmake.isRow_of_own O.out) c6 _
      · intro b' o' c' h
        rcases O.out.2 with ⟨e', _⟩ | ⟨g, c, cur, e', hg, _, hcc, _⟩
        · rw [e'] at h; cases h
        · rw [e'] at h; cases h; exact hcc
      · rw [← hi, ← hj]; exact MG.out
      · exact BWH.out.setCell (p := ⟨w.heap.size + 2, 0, none⟩) (show w.heap.size ≤ w.heap.size + 2 by omega) _
    · obtain ⟨ov, sb, tb, pp, KO, hs, ht, hst, hsp, htp, hs0, ht0⟩ := order (sl_below SL.out BW) (sl_below SR.out BW) hend
      have STEP := Lib.hid (mg_step MG.out SD.out SE.out hst hsp htp hs0 ht0)
      have KOH := Lib.hid KO
      have hcond : (0 : Int) < ((d.size - i : Nat) : Int) ∨ (0 : Int) < ((e.size - j : Nat) : Int) := by omega
      cases sb
      · cases tb
        · rcases hst with h | h <;> cases h
        · by_cases hd0 : d.size - i = 0
          · obtain ⟨hjl, hpr0⟩ := htp rfl
            have HPR := Lib.hid hpr0
            clear hpr0
            obtain ⟨b2, o2, rfl, r2, hc2⟩ : ∃ b' o, b = some ⟨b', o + j * 2, none⟩ ∧ Row w b' o e ∧ e.size - j ≤ cb := by
              obtain ⟨_, a', c', ea, ra⟩ := SR.out
              cases ea
              exact ra hjl
            obtain ⟨x1, x2⟩ := pp
            have hgr : (0 : Int) < ((e.size - j : Nat) : Int) := by omega
            rw [hd0] at KOH SL ⊢
            have HD0 := Lib.hid hd0
            clear hd0
            have BW1 := Lib.hid BW
            clear BW KO hs0 ht0 hst hsp htp
            go_wp2_with fail
            refine (KOH.out _ (Below.refl _ _)).mono ?_
            rintro e' w1 ⟨rfl, hb1'⟩
            have hb1 := Lib.hid hb1'
            have hPw : wr.heap.size ≤ w1.heap.size := hb1'.size
            obtain ⟨P, hP⟩ : ∃ P, P = w1.heap.size := ⟨_, rfl⟩
            have bV : Below P w1 (w1.alloc (.cells #[.int .u32 0, .int .i64 0] 26)) := (Below.refl _ _).alloc (by omega) _
            have pc0 := Lib.hid (show (w1.alloc (.cells #[.int .u32 0, .int .i64 0] 26)).cell? ⟨P, 0, none⟩ = some (.int .u32 0) by rw [hP]; exact aid.new2a w1 _ _ _)
            have pc1 := Lib.hid (show (w1.alloc (.cells #[.int .u32 0, .int .i64 0] 26)).cell? ⟨P, 1, none⟩ = some (.int .i64 0) by rw [hP]; exact aid.new2b w1 _ _ _)
            have pf0 := Lib.hid (show (w1.alloc (.cells #[.int .u32 0, .int .i64 0] 26)).frozen? ⟨P, 0, none⟩ = false by rw [hP]; go_simp)
            have pf1 := Lib.hid (show (w1.alloc (.cells #[.int .u32 0, .int .i64 0] 26)).frozen? ⟨P, 1, none⟩ = false by rw [hP]; go_simp)
            have hPl : P < (w1.alloc (.cells #[.int .u32 0, .int .i64 0] 26)).heap.size := by rw [hP]; simp
            have BWV := BW1.out.trans ((hb1'.trans (bV.mono (by omega))).mono (by omega))
            have BP := Lib.hid bV
            obtain ⟨V1, hV1⟩ : ∃ V, V = w1.alloc (.cells #[.int .u32 0, .int .i64 0] 26) := ⟨_, rfl⟩
            have ky0 := (r2.below BWV j hjl).1
            have ky1 := (r2.below BWV j hjl).2
            rw [← HPR.out] at ky0 ky1
            rw [← hV1] at pc0 pc1 pf0 pf1 hPl BP ky0 ky1
            have HV1 := Lib.hid hV1
            have hPw : wr.heap.size ≤ P := by omega
            have HPP := Lib.hid hP
            clear hV1 bV hb1' BWV hP
            go_wp2_with fail
            rw [← HPP.out, ← HV1.out]
            clear HV1
            have w0 := pc0.out
            have w1' := pc1.out
            have v0 := pf0.out
            have v1 := pf1.out
            go_region
            all_goals
              have n0 : ((V1.setCell ⟨P, 0, none⟩ (.int .u32 x1)).setCell ⟨P, 1, none⟩ (.int .i64 x2)).drew.cell? ⟨P, 0, none⟩ = some (.int .u32 x1) := (pscompact.sc_ne _ P 1 0 _ (by decide)).trans (World.cell?_setCell_same' _ _ _ (by rw [w0]; rfl))
              have n1 : ((V1.setCell ⟨P, 0, none⟩ (.int .u32 x1)).setCell ⟨P, 1, none⟩ (.int .i64 x2)).drew.cell? ⟨P, 1, none⟩ = some (.int .i64 x2) := World.cell?_setCell_same' _ _ _ (by rw [pscompact.sc_ne _ P 0 1 _ (by decide), w1']; rfl)
              have nf0 : ((V1.setCell ⟨P, 0, none⟩ (.int .u32 x1)).setCell ⟨P, 1, none⟩ (.int .i64 x2)).drew.frozen? ⟨P, 0, none⟩ = false := (by rw [World.frozen?_setCell, World.frozen?_setCell]; exact v0 : ((V1.setCell ⟨P, 0, none⟩ (.int .u32 x1)).setCell ⟨P, 1, none⟩ (.int .i64 x2)).frozen? ⟨P, 0, none⟩ = false)
              have nf1 : ((V1.setCell ⟨P, 0, none⟩ (.int .u32 x1)).setCell ⟨P, 1, none⟩ (.int .i64 x2)).drew.frozen? ⟨P, 1, none⟩ = false := (by rw [World.frozen?_setCell, World.frozen?_setCell]; exact v1 : ((V1.setCell ⟨P, 0, none⟩ (.int .u32 x1)).setCell ⟨P, 1, none⟩ (.int .i64 x2)).frozen? ⟨P, 1, none⟩ = false)
              have nb : Below P w1 ((V1.setCell ⟨P, 0, none⟩ (.int .u32 x1)).setCell ⟨P, 1, none⟩ (.int .i64 x2)).drew := ((BP.out).setCell (p := ⟨P, 0, none⟩) (Nat.le_refl _) _).setCell (p := ⟨P, 1, none⟩) (Nat.le_refl _) _ |>.drew
              have nl : P < ((V1.setCell ⟨P, 0, none⟩ (.int .u32 x1)).setCell ⟨P, 1, none⟩ (.int .i64 x2)).drew.heap.size := by
                simp
                omega
              clear pc0 pc1 pf0 pf1 BP hPl ky0 ky1
              have N0 := Lib.hid n0
              have N1 := Lib.hid n1
              have NF0 := Lib.hid nf0
              have NF1 := Lib.hid nf1
              have NB := Lib.hid nb
              obtain ⟨Vy, hVy⟩ : ∃ V, V = ((V1.setCell ⟨P, 0, none⟩ (.int .u32 x1)).setCell ⟨P, 1, none⟩ (.int .i64 x2)).drew := ⟨_, rfl⟩
              rw [← hVy] at N0 N1 NF0 NF1 NB nl
              have HVy := Lib.hid hVy
              clear n0 n1 nf0 nf1 nb hVy
              go_wp2_with fail
            all_goals
              rw [← HVy.out]
              clear HVy w0 w1' v0 v1
              have pc0 := N0
              have pc1 := N1
              have pf0 := NF0
              have pf1 := NF1
              have BP := NB
              have hPl := nl
              clear N0 N1 NF0 NF1 NB nl
              have BVw := hb1.out.trans (BP.out.mono hPw)
              have hzV : w.heap.size + 4 ≤ Vy.heap.size := by have := BVw.size; omega
              have O1 := Lib.hid (own_below O.out BVw)
              have C1 := Lib.hid (aid.kc BVw CK.out)
              have F1 := Lib.hid ((BVw.frozen (p := ⟨w.heap.size + 3, 0, none⟩) (show w.heap.size + 3 < wr.heap.size by omega)).trans FK.out)
              have BL1 := Lib.hid (Bl.out.trans (BVw.mono (by omega)))
              clear BVw
              refine (KFH.out _ _ _).mono ?_
              rintro e' w2 ⟨rfl, rfl⟩
              cases hk : keep false true
              · have ST := STEP.out
                rw [hk] at ST
                have STH := Lib.hid (show Mg keep d e i (j + 1) R from ST)
                clear ST hk
                go_wp2_with fail
                go_roundw
                case rel => exact ⟨i, (j + 1), R, kv, _, _, _, _, by omega, by omega, by rw [HD0.out], by rw [show e.size - (j + 1) = e.size - j - 1 by omega], SL, Lib.hid (by first | exact sl_next hjl r2 hc2 | exact sl_last hjl hc2 (by omega) _ _), STH, O1, C1, F1, hzV, BL1⟩
                case measure => simp only [lenOf]; omega
              · have ST := STEP.out
                rw [hk] at ST
                have STH := Lib.hid (show Mg keep d e i (j + 1) (R.push (x1, x2)) from ST)
                clear ST hk
                have hck := C1.out
                have hfk := F1.out
                have hp0 := pc0.out
                have hp1 := pc1.out
                have hRs := MG.out.size
                have OWN := Lib.hid (World.ownsRow.alloc O1.out (.cells #[.int .u32 x1, .int .i64 x2] 26))
                have NW := Lib.hid (show ∀ (j : Nat) u, (enc (x1, x2))[j]? = some u → (Vy.alloc (.cells #[.int .u32 x1, .int .i64 x2] 26)).cell? ((⟨Vy.heap.size, 0, none⟩ : Addr).add j) = some u from fun j u hu => by
                  rw [Addr.add_mid]
                  match j, hu with
                  | 0, hu => simp [enc] at hu; rw [← hu]; exact aid.new2a Vy _ _ _
                  | 1, hu => simp [enc] at hu; rw [← hu]; exact aid.new2b Vy _ _ _
                  | j + 2, hu => simp [enc] at hu)
                have E1 : ∀ u ∈ enc (x1, x2), u.oneCell' = true := fun u hu => by simp [enc] at hu; rcases hu with rfl | rfl <;> rfl
                have CA := aid.ca (.cells #[.int .u32 x1, .int .i64 x2] 26) C1.out
                have FA := (((Below.refl Vy.heap.size Vy).alloc (Nat.le_refl _) (.cells #[.int .u32 x1, .int .i64 x2] 26)).frozen (p := ⟨w.heap.size + 3, 0, none⟩) (show w.heap.size + 3 < Vy.heap.size by omega)).trans F1.out
                have BLA := Lib.hid (BL1.out.alloc (show w.heap.size + 3 ≤ Vy.heap.size by omega) (.cells #[.int .u32 x1, .int .i64 x2] 26))
                have CAH := Lib.hid CA
                have FAH := Lib.hid FA
                clear CA FA
                go_wp2_with (at_builtin; refine wpList_append_lies _ rfl (.tmp 50) (.tmp 52) 22 rfl (w.heap.size + 4) 26 ip0 (.agg #[.int .u32 0, .int .i64 0]) 2 16 Try.underlying22 I1.out I2.out I3.out I4.out rfl (by decide) _ R.size (fl R) rfl OWN.out ⟨Vy.heap.size, 0, none⟩ 1 1 (enc (x1, x2)) rfl rfl NW.out E1 (by decide) (by unfold maxLen; omega) (by omega) (by simp; omega) _ rfl ?_)
                intro g cap' w5 hown5 hgrow5 hat5 hlt5
                have hrow : ∀ q, kv.ownBlock = some q → w.heap.size + 4 ≤ q := fun q hq => (OWN.out.lt q hq).1
                have hlA : w.heap.size + 3 < (Vy.alloc (.cells #[.int .u32 x1, .int .i64 x2] 26)).heap.size := by simp; omega
                have ck5 := (hgrow5.cell_far ⟨w.heap.size + 3, 0, none⟩ hlA (fun e => by have := hrow _ e.symm; dsimp only at this; omega)).trans CAH.out
                have fk5 := (hgrow5.frozen_far ⟨w.heap.size + 3, 0, none⟩ hlA (fun e => by have := hrow _ e.symm; dsimp only at this; omega)).trans FAH.out
                have hsp : (R.push (x1, x2)).size = R.size + 1 := Array.size_push ..
                have O5 : (w5.setCell ⟨w.heap.size + 3, 0, none⟩ (.slice (some ⟨g, 0, none⟩) (R.size + 1) cap')).ownsRow (w.heap.size + 4) 26 2 (.slice (some ⟨g, 0, none⟩) (R.size + 1) cap') (R.push (x1, x2)).size (fl (R.push (x1, x2))) := by
                  rw [hsp, fl_push]
                  exact ownsRow_setCell_below hown5 (a := ⟨w.heap.size + 3, 0, none⟩) (show w.heap.size + 3 < w.heap.size + 4 by omega) _
                have C5 : (w5.setCell ⟨w.heap.size + 3, 0, none⟩ (.slice (some ⟨g, 0, none⟩) (R.size + 1) cap')).cell? ⟨w.heap.size + 3, 0, none⟩ = some (.slice (some ⟨g, 0, none⟩) (R.size + 1) cap') := World.cell?_setCell_same' _ _ _ (by rw [ck5]; rfl)
                have F5 : (w5.setCell ⟨w.heap.size + 3, 0, none⟩ (.slice (some ⟨g, 0, none⟩) (R.size + 1) cap')).frozen? ⟨w.heap.size + 3, 0, none⟩ = false := by rw [World.frozen?_setCell]; exact fk5
                have B5 : Below (w.heap.size + 3) W0 (w5.setCell ⟨w.heap.size + 3, 0, none⟩ (.slice (some ⟨g, 0, none⟩) (R.size + 1) cap')) := (BLA.out.grown hgrow5 (Nat.le_of_lt hlA) (fun q hq => by have := hrow q hq; omega)).setCell (p := ⟨w.heap.size + 3, 0, none⟩) (Nat.le_refl _) _
                have hz5 : w.heap.size + 4 ≤ (w5.setCell ⟨w.heap.size + 3, 0, none⟩ (.slice (some ⟨g, 0, none⟩) (R.size + 1) cap')).heap.size := by have := hgrow5.size; simp only [World.size_setCell]; omega
                have O5H := Lib.hid O5
                have C5H := Lib.hid C5
                have F5H := Lib.hid F5
                have B5H := Lib.hid B5
                clear O5 C5 F5 B5 hown5 hgrow5 hat5 hrow hck hfk hp0 hp1
                go_wp2_with fail
                go_roundw
                case rel => exact ⟨i, (j + 1), R.push (x1, x2), _, _, _, _, _, by omega, by omega, by rw [HD0.out], by rw [show e.size - (j + 1) = e.size - j - 1 by omega], SL, Lib.hid (by first | exact sl_next hjl r2 hc2 | exact sl_last hjl hc2 (by omega) _ _), STH, O5H, C5H, F5H, hz5, B5H⟩
                case measure => simp only [lenOf]; omega
          · obtain ⟨hjl, hpr0⟩ := htp rfl
            have HPR := Lib.hid hpr0
            clear hpr0
            obtain ⟨b2, o2, rfl, r2, hc2⟩ : ∃ b' o, b = some ⟨b', o + j * 2, none⟩ ∧ Row w b' o e ∧ e.size - j ≤ cb := by
              obtain ⟨_, a', c', ea, ra⟩ := SR.out
              cases ea
              exact ra hjl
            obtain ⟨x1, x2⟩ := pp
            have hgl : (0 : Int) < ((d.size - i : Nat) : Int) := by omega
            clear hd0
            have BW1 := Lib.hid BW
            clear BW KO hs0 ht0 hst hsp htp
            go_wp2_with fail
            refine (KOH.out _ (Below.refl _ _)).mono ?_
            rintro e' w1 ⟨rfl, hb1'⟩
            have hb1 := Lib.hid hb1'
            have hPw : wr.heap.size ≤ w1.heap.size := hb1'.size
            obtain ⟨P, hP⟩ : ∃ P, P = w1.heap.size := ⟨_, rfl⟩
            have bV : Below P w1 (w1.alloc (.cells #[.int .u32 0, .int .i64 0] 26)) := (Below.refl _ _).alloc (by omega) _
            have pc0 := Lib.hid (show (w1.alloc (.cells #[.int .u32 0, .int .i64 0] 26)).cell? ⟨P, 0, none⟩ = some (.int .u32 0) by rw [hP]; exact aid.new2a w1 _ _ _)
            have pc1 := Lib.hid (show (w1.alloc (.cells #[.int .u32 0, .int .i64 0] 26)).cell? ⟨P, 1, none⟩ = some (.int .i64 0) by rw [hP]; exact aid.new2b w1 _ _ _)
            have pf0 := Lib.hid (show (w1.alloc (.cells #[.int .u32 0, .int .i64 0] 26)).frozen? ⟨P, 0, none⟩ = false by rw [hP]; go_simp)
            have pf1 := Lib.hid (show (w1.alloc (.cells #[.int .u32 0, .int .i64 0] 26)).frozen? ⟨P, 1, none⟩ = false by rw [hP]; go_simp)
            have hPl : P < (w1.alloc (.cells #[.int .u32 0, .int .i64 0] 26)).heap.size := by rw [hP]; simp
            have BWV := BW1.out.trans ((hb1'.trans (bV.mono (by omega))).mono (by omega))
            have BP := Lib.hid bV
            obtain ⟨V1, hV1⟩ : ∃ V, V = w1.alloc (.cells #[.int .u32 0, .int .i64 0] 26) := ⟨_, rfl⟩
            have ky0 := (r2.below BWV j hjl).1
            have ky1 := (r2.below BWV j hjl).2
            rw [← HPR.out] at ky0 ky1
            rw [← hV1] at pc0 pc1 pf0 pf1 hPl BP ky0 ky1
            have HV1 := Lib.hid hV1
            have hPw : wr.heap.size ≤ P := by omega
            have HPP := Lib.hid hP
            clear hV1 bV hb1' BWV hP
            go_wp2_with fail
            rw [← HPP.out, ← HV1.out]
            clear HV1
            have w0 := pc0.out
            have w1' := pc1.out
            have v0 := pf0.out
            have v1 := pf1.out
            go_region
            all_goals
              have n0 : ((V1.setCell ⟨P, 0, none⟩ (.int .u32 x1)).setCell ⟨P, 1, none⟩ (.int .i64 x2)).drew.cell? ⟨P, 0, none⟩ = some (.int .u32 x1) := (pscompact.sc_ne _ P 1 0 _ (by decide)).trans (World.cell?_setCell_same' _ _ _ (by rw [w0]; rfl))
              have n1 : ((V1.setCell ⟨P, 0, none⟩ (.int .u32 x1)).setCell ⟨P, 1, none⟩ (.int .i64 x2)).drew.cell? ⟨P, 1, none⟩ = some (.int .i64 x2) := World.cell?_setCell_same' _ _ _ (by rw [pscompact.sc_ne _ P 0 1 _ (by decide), w1']; rfl)
              have nf0 : ((V1.setCell ⟨P, 0, none⟩ (.int .u32 x1)).setCell ⟨P, 1, none⟩ (.int .i64 x2)).drew.frozen? ⟨P, 0, none⟩ = false := (by rw [World.frozen?_setCell, World.frozen?_setCell]; exact v0 : ((V1.setCell ⟨P, 0, none⟩ (.int .u32 x1)).setCell ⟨P, 1, none⟩ (.int .i64 x2)).frozen? ⟨P, 0, none⟩ = false)
              have nf1 : ((V1.setCell ⟨P, 0, none⟩ (.int .u32 x1)).setCell ⟨P, 1, none⟩ (.int .i64 x2)).drew.frozen? ⟨P, 1, none⟩ = false := (by rw [World.frozen?_setCell, World.frozen?_setCell]; exact v1 : ((V1.setCell ⟨P, 0, none⟩ (.int .u32 x1)).setCell ⟨P, 1, none⟩ (.int .i64 x2)).frozen? ⟨P, 1, none⟩ = false)
              have nb : Below P w1 ((V1.setCell ⟨P, 0, none⟩ (.int .u32 x1)).setCell ⟨P, 1, none⟩ (.int .i64 x2)).drew := ((BP.out).setCell (p := ⟨P, 0, none⟩) (Nat.le_refl _) _).setCell (p := ⟨P, 1, none⟩) (Nat.le_refl _) _ |>.drew
              have nl : P < ((V1.setCell ⟨P, 0, none⟩ (.int .u32 x1)).setCell ⟨P, 1, none⟩ (.int .i64 x2)).drew.heap.size := by
                simp
                omega
              clear pc0 pc1 pf0 pf1 BP hPl ky0 ky1
              have N0 := Lib.hid n0
              have N1 := Lib.hid n1
              have NF0 := Lib.hid nf0
              have NF1 := Lib.hid nf1
              have NB := Lib.hid nb
              obtain ⟨Vy, hVy⟩ : ∃ V, V = ((V1.setCell ⟨P, 0, none⟩ (.int .u32 x1)).setCell ⟨P, 1, none⟩ (.int .i64 x2)).drew := ⟨_, rfl⟩
              rw [← hVy] at N0 N1 NF0 NF1 NB nl
              have HVy := Lib.hid hVy
              clear n0 n1 nf0 nf1 nb hVy
              go_wp2_with fail
            all_goals
              rw [← HVy.out]
              clear HVy w0 w1' v0 v1
              have pc0 := N0
              have pc1 := N1
              have pf0 := NF0
              have pf1 := NF1
              have BP := NB
              have hPl := nl
              clear N0 N1 NF0 NF1 NB nl
              have BVw := hb1.out.trans (BP.out.mono hPw)
              have hzV : w.heap.size + 4 ≤ Vy.heap.size := by have := BVw.size; omega
              have O1 := Lib.hid (own_below O.out BVw)
              have C1 := Lib.hid (aid.kc BVw CK.out)
              have F1 := Lib.hid ((BVw.frozen (p := ⟨w.heap.size + 3, 0, none⟩) (show w.heap.size + 3 < wr.heap.size by omega)).trans FK.out)
              have BL1 := Lib.hid (Bl.out.trans (BVw.mono (by omega)))
              clear BVw
              refine (KFH.out _ _ _).mono ?_
              rintro e' w2 ⟨rfl, rfl⟩
              cases hk : keep false true
              · have ST := STEP.out
                rw [hk] at ST
                have STH := Lib.hid (show Mg keep d e i (j + 1) R from ST)
                clear ST hk
                go_wp2_with fail
                go_roundw
                case rel => exact ⟨i, (j + 1), R, kv, _, _, _, _, by omega, by omega, rfl, by rw [show e.size - (j + 1) = e.size - j - 1 by omega], SL, Lib.hid (by first | exact sl_next hjl r2 hc2 | exact sl_last hjl hc2 (by omega) _ _), STH, O1, C1, F1, hzV, BL1⟩
                case measure => simp only [lenOf]; omega
              · have ST := STEP.out
                rw [hk] at ST
                have STH := Lib.hid (show Mg keep d e i (j + 1) (R.push (x1, x2)) from ST)
                clear ST hk
                have hck := C1.out
                have hfk := F1.out
                have hp0 := pc0.out
                have hp1 := pc1.out
                have hRs := MG.out.size
                have OWN := Lib.hid (World.ownsRow.alloc O1.out (.cells #[.int .u32 x1, .int .i64 x2] 26))
                have NW := Lib.hid (show ∀ (j : Nat) u, (enc (x1, x2))[j]? = some u → (Vy.alloc (.cells #[.int .u32 x1, .int .i64 x2] 26)).cell? ((⟨Vy.heap.size, 0, none⟩ : Addr).add j) = some u from fun j u hu => by
                  rw [Addr.add_mid]
                  match j, hu with
                  | 0, hu => simp [enc] at hu; rw [← hu]; exact aid.new2a Vy _ _ _
                  | 1, hu => simp [enc] at hu; rw [← hu]; exact aid.new2b Vy _ _ _
                  | j + 2, hu => simp [enc] at hu)
                have E1 : ∀ u ∈ enc (x1, x2), u.oneCell' = true := fun u hu => by simp [enc] at hu; rcases hu with rfl | rfl <;> rfl
                have CA := aid.ca (.cells #[.int .u32 x1, .int .i64 x2] 26) C1.out
                have FA := (((Below.refl Vy.heap.size Vy).alloc (Nat.le_refl _) (.cells #[.int .u32 x1, .int .i64 x2] 26)).frozen (p := ⟨w.heap.size + 3, 0, none⟩) (show w.heap.size + 3 < Vy.heap.size by omega)).trans F1.out
                have BLA := Lib.hid (BL1.out.alloc (show w.heap.size + 3 ≤ Vy.heap.size by omega) (.cells #[.int .u32 x1, .int .i64 x2] 26))
                have CAH := Lib.hid CA
                have FAH := Lib.hid FA
                clear CA FA
                go_wp2_with (at_builtin; refine wpList_append_lies _ rfl (.tmp 50) (.tmp 52) 22 rfl (w.heap.size + 4) 26 ip0 (.agg #[.int .u32 0, .int .i64 0]) 2 16 Try.underlying22 I1.out I2.out I3.out I4.out rfl (by decide) _ R.size (fl R) rfl OWN.out ⟨Vy.heap.size, 0, none⟩ 1 1 (enc (x1, x2)) rfl rfl NW.out E1 (by decide) (by unfold maxLen; omega) (by omega) (by simp; omega) _ rfl ?_)
                intro g cap' w5 hown5 hgrow5 hat5 hlt5
                have hrow : ∀ q, kv.ownBlock = some q → w.heap.size + 4 ≤ q := fun q hq => (OWN.out.lt q hq).1
                have hlA : w.heap.size + 3 < (Vy.alloc (.cells #[.int .u32 x1, .int .i64 x2] 26)).heap.size := by simp; omega
                have ck5 := (hgrow5.cell_far ⟨w.heap.size + 3, 0, none⟩ hlA (fun e => by have := hrow _ e.symm; dsimp only at this; omega)).trans CAH.out
                have fk5 := (hgrow5.frozen_far ⟨w.heap.size + 3, 0, none⟩ hlA (fun e => by have := hrow _ e.symm; dsimp only at this; omega)).trans FAH.out
                have hsp : (R.push (x1, x2)).size = R.size + 1 := Array.size_push ..
                have O5 : (w5.setCell ⟨w.heap.size + 3, 0, none⟩ (.slice (some ⟨g, 0, none⟩) (R.size + 1) cap')).ownsRow (w.heap.size + 4) 26 2 (.slice (some ⟨g, 0, none⟩) (R.size + 1) cap') (R.push (x1, x2)).size (fl (R.push (x1, x2))) := by
                  rw [hsp, fl_push]
                  exact ownsRow_setCell_below hown5 (a := ⟨w.heap.size + 3, 0, none⟩) (show w.heap.size + 3 < w.heap.size + 4 by omega) _
                have C5 : (w5.setCell ⟨w.heap.size + 3, 0, none⟩ (.slice (some ⟨g, 0, none⟩) (R.size + 1) cap')).cell? ⟨w.heap.size + 3, 0, none⟩ = some (.slice (some ⟨g, 0, none⟩) (R.size + 1) cap') := World.cell?_setCell_same' _ _ _ (by rw [ck5]; rfl)
                have F5 : (w5.setCell ⟨w.heap.size + 3, 0, none⟩ (.slice (some ⟨g, 0, none⟩) (R.size + 1) cap')).frozen? ⟨w.heap.size + 3, 0, none⟩ = false := by rw [World.frozen?_setCell]; exact fk5
                have B5 : Below (w.heap.size + 3) W0 (w5.setCell ⟨w.heap.size + 3, 0, none⟩ (.slice (some ⟨g, 0, none⟩) (R.size + 1) cap')) := (BLA.out.grown hgrow5 (Nat.le_of_lt hlA) (fun q hq => by have := hrow q hq; omega)).setCell (p := ⟨w.heap.size + 3, 0, none⟩) (Nat.le_refl _) _
                have hz5 : w.heap.size + 4 ≤ (w5.setCell ⟨w.heap.size + 3, 0, none⟩ (.slice (some ⟨g, 0, none⟩) (R.size + 1) cap')).heap.size := by have := hgrow5.size; simp only [World.size_setCell]; omega
                have O5H := Lib.hid O5
                have C5H := Lib.hid C5
                have F5H := Lib.hid F5
                have B5H := Lib.hid B5
                clear O5 C5 F5 B5 hown5 hgrow5 hat5 hrow hck hfk hp0 hp1
                go_wp2_with fail
                go_roundw
                case rel => exact ⟨i, (j + 1), R.push (x1, x2), _, _, _, _, _, by omega, by omega, rfl, by rw [show e.size - (j + 1) = e.size - j - 1 by omega], SL, Lib.hid (by first | exact sl_next hjl r2 hc2 | exact sl_last hjl hc2 (by omega) _ _), STH, O5H, C5H, F5H, hz5, B5H⟩
                case measure => simp only [lenOf]; omega
      · cases tb
        · obtain ⟨hil, hpl0⟩ := hsp rfl
          have HPL := Lib.hid hpl0
          clear hpl0
          obtain ⟨b1, o1, rfl, r1, hc1⟩ : ∃ b o, a = some ⟨b, o + i * 2, none⟩ ∧ Row w b o d ∧ d.size - i ≤ ca := by
            obtain ⟨_, a', c', ea, ra⟩ := SL.out
            cases ea
            exact ra hil
          obtain ⟨x1, x2⟩ := pp
          have hgl : (0 : Int) < ((d.size - i : Nat) : Int) := by omega
          have BW1 := Lib.hid BW
          clear BW KO hs0 ht0 hst hsp htp
          go_wp2_with fail
          refine (KOH.out _ (Below.refl _ _)).mono ?_
          rintro e' w1 ⟨rfl, hb1'⟩
          have hb1 := Lib.hid hb1'
          have hPw : wr.heap.size ≤ w1.heap.size := hb1'.size
          obtain ⟨P, hP⟩ : ∃ P, P = w1.heap.size := ⟨_, rfl⟩
          have bV : Below P w1 (w1.alloc (.cells #[.int .u32 0, .int .i64 0] 26)) := (Below.refl _ _).alloc (by omega) _
          have pc0 := Lib.hid (show (w1.alloc (.cells #[.int .u32 0, .int .i64 0] 26)).cell? ⟨P, 0, none⟩ = some (.int .u32 0) by rw [hP]; exact aid.new2a w1 _ _ _)
          have pc1 := Lib.hid (show (w1.alloc (.cells #[.int .u32 0, .int .i64 0] 26)).cell? ⟨P, 1, none⟩ = some (.int .i64 0) by rw [hP]; exact aid.new2b w1 _ _ _)
          have pf0 := Lib.hid (show (w1.alloc (.cells #[.int .u32 0, .int .i64 0] 26)).frozen? ⟨P, 0, none⟩ = false by rw [hP]; go_simp)
          have pf1 := Lib.hid (show (w1.alloc (.cells #[.int .u32 0, .int .i64 0] 26)).frozen? ⟨P, 1, none⟩ = false by rw [hP]; go_simp)
          have hPl : P < (w1.alloc (.cells #[.int .u32 0, .int .i64 0] 26)).heap.size := by rw [hP]; simp
          have BWV := BW1.out.trans ((hb1'.trans (bV.mono (by omega))).mono (by omega))
          have BP := Lib.hid bV
          obtain ⟨V1, hV1⟩ : ∃ V, V = w1.alloc (.cells #[.int .u32 0, .int .i64 0] 26) := ⟨_, rfl⟩
          have kx0 := (r1.below BWV i hil).1
          have kx1 := (r1.below BWV i hil).2
          rw [← HPL.out] at kx0 kx1
          rw [← hV1] at pc0 pc1 pf0 pf1 hPl BP kx0 kx1
          have HV1 := Lib.hid hV1
          have hPw : wr.heap.size ≤ P := by omega
          have HPP := Lib.hid hP
          clear hV1 bV hb1' BWV hP
          go_wp2_with fail
          rw [← HPP.out, ← HV1.out]
          clear HV1
          have w0 := pc0.out
          have w1' := pc1.out
          have v0 := pf0.out
          have v1 := pf1.out
          go_region
          all_goals
            have n0 : ((V1.setCell ⟨P, 0, none⟩ (.int .u32 x1)).setCell ⟨P, 1, none⟩ (.int .i64 x2)).drew.cell? ⟨P, 0, none⟩ = some (.int .u32 x1) := (pscompact.sc_ne _ P 1 0 _ (by decide)).trans (World.cell?_setCell_same' _ _ _ (by rw [w0]; rfl))
            have n1 : ((V1.setCell ⟨P, 0, none⟩ (.int .u32 x1)).setCell ⟨P, 1, none⟩ (.int .i64 x2)).drew.cell? ⟨P, 1, none⟩ = some (.int .i64 x2) := World.cell?_setCell_same' _ _ _ (by rw [pscompact.sc_ne _ P 0 1 _ (by decide), w1']; rfl)
            have nf0 : ((V1.setCell ⟨P, 0, none⟩ (.int .u32 x1)).setCell ⟨P, 1, none⟩ (.int .i64 x2)).drew.frozen? ⟨P, 0, none⟩ = false := (by rw [World.frozen?_setCell, World.frozen?_setCell]; exact v0 : ((V1.setCell ⟨P, 0, none⟩ (.int .u32 x1)).setCell ⟨P, 1, none⟩ (.int .i64 x2)).frozen? ⟨P, 0, none⟩ = false)
            have nf1 : ((V1.setCell ⟨P, 0, none⟩ (.int .u32 x1)).setCell ⟨P, 1, none⟩ (.int .i64 x2)).drew.frozen? ⟨P, 1, none⟩ = false := (by rw [World.frozen?_setCell, World.frozen?_setCell]; exact v1 : ((V1.setCell ⟨P, 0, none⟩ (.int .u32 x1)).setCell ⟨P, 1, none⟩ (.int .i64 x2)).frozen? ⟨P, 1, none⟩ = false)
            have nb : Below P w1 ((V1.setCell ⟨P, 0, none⟩ (.int .u32 x1)).setCell ⟨P, 1, none⟩ (.int .i64 x2)).drew := ((BP.out).setCell (p := ⟨P, 0, none⟩) (Nat.le_refl _) _).setCell (p := ⟨P, 1, none⟩) (Nat.le_refl _) _ |>.drew
            have nl : P < ((V1.setCell ⟨P, 0, none⟩ (.int .u32 x1)).setCell ⟨P, 1, none⟩ (.int .i64 x2)).drew.heap.size := by
              simp
              omega
            clear pc0 pc1 pf0 pf1 BP hPl kx0 kx1
            have N0 := Lib.hid n0
            have N1 := Lib.hid n1
            have NF0 := Lib.hid nf0
            have NF1 := Lib.hid nf1
            have NB := Lib.hid nb
            obtain ⟨Vx, hVx⟩ : ∃ V, V = ((V1.setCell ⟨P, 0, none⟩ (.int .u32 x1)).setCell ⟨P, 1, none⟩ (.int .i64 x2)).drew := ⟨_, rfl⟩
            rw [← hVx] at N0 N1 NF0 NF1 NB nl
            have HVx := Lib.hid hVx
            clear n0 n1 nf0 nf1 nb hVx
            go_wp2_with fail
          all_goals
            rw [← HVx.out]
            clear HVx w0 w1' v0 v1
            have pc0 := N0
            have pc1 := N1
            have pf0 := NF0
            have pf1 := NF1
            have BP := NB
            have hPl := nl
            clear N0 N1 NF0 NF1 NB nl
            have BVw := hb1.out.trans (BP.out.mono hPw)
            have hzV : w.heap.size + 4 ≤ Vx.heap.size := by have := BVw.size; omega
            have O1 := Lib.hid (own_below O.out BVw)
            have C1 := Lib.hid (aid.kc BVw CK.out)
            have F1 := Lib.hid ((BVw.frozen (p := ⟨w.heap.size + 3, 0, none⟩) (show w.heap.size + 3 < wr.heap.size by omega)).trans FK.out)
            have BL1 := Lib.hid (Bl.out.trans (BVw.mono (by omega)))
            clear BVw
            refine (KFH.out _ _ _).mono ?_
            rintro e' w2 ⟨rfl, rfl⟩
            cases hk : keep true false
            · have ST := STEP.out
              rw [hk] at ST
              have STH := Lib.hid (show Mg keep d e (i + 1) j R from ST)
              clear ST hk
              go_wp2_with fail
              go_roundw
              case rel => exact ⟨(i + 1), j, R, kv, _, _, _, _, by omega, by omega, by rw [show d.size - (i + 1) = d.size - i - 1 by omega], rfl, Lib.hid (by first | exact sl_next hil r1 hc1 | exact sl_last hil hc1 (by omega) _ _), SR, STH, O1, C1, F1, hzV, BL1⟩
              case measure => simp only [lenOf]; omega
            · have ST := STEP.out
              rw [hk] at ST
              have STH := Lib.hid (show Mg keep d e (i + 1) j (R.push (x1, x2)) from ST)
              clear ST hk
              have hck := C1.out
              have hfk := F1.out
              have hp0 := pc0.out
              have hp1 := pc1.out
              have hRs := MG.out.size
              have OWN := Lib.hid (World.ownsRow.alloc O1.out (.cells #[.int .u32 x1, .int .i64 x2] 26))
              have NW := Lib.hid (show ∀ (j : Nat) u, (enc (x1, x2))[j]? = some u → (Vx.alloc (.cells #[.int .u32 x1, .int .i64 x2] 26)).cell? ((⟨Vx.heap.size, 0, none⟩ : Addr).add j) = some u from fun j u hu => by
                rw [Addr.add_mid]
                match j, hu with
                | 0, hu => simp [enc] at hu; rw [← hu]; exact aid.new2a Vx _ _ _
                | 1, hu => simp [enc] at hu; rw [← hu]; exact aid.new2b Vx _ _ _
                | j + 2, hu => simp [enc] at hu)
              have E1 : ∀ u ∈ enc (x1, x2), u.oneCell' = true := fun u hu => by simp [enc] at hu; rcases hu with rfl | rfl <;> rfl
              have CA := aid.ca (.cells #[.int .u32 x1, .int .i64 x2] 26) C1.out
              have FA := (((Below.refl Vx.heap.size Vx).alloc (Nat.le_refl _) (.cells #[.int .u32 x1, .int .i64 x2] 26)).frozen (p := ⟨w.heap.size + 3, 0, none⟩) (show w.heap.size + 3 < Vx.heap.size by omega)).trans F1.out
              have BLA := Lib.hid (BL1.out.alloc (show w.heap.size + 3 ≤ Vx.heap.size by omega) (.cells #[.int .u32 x1, .int .i64 x2] 26))
              have CAH := Lib.hid CA
              have FAH := Lib.hid FA
              clear CA FA
              go_wp2_with (at_builtin; refine wpList_append_lies _ rfl (.tmp 50) (.tmp 52) 22 rfl (w.heap.size + 4) 26 ip0 (.agg #[.int .u32 0, .int .i64 0]) 2 16 Try.underlying22 I1.out I2.out I3.out I4.out rfl (by decide) _ R.size (fl R) rfl OWN.out ⟨Vx.heap.size, 0, none⟩ 1 1 (enc (x1, x2)) rfl rfl NW.out E1 (by decide) (by unfold maxLen; omega) (by omega) (by simp; omega) _ rfl ?_)
              intro g cap' w5 hown5 hgrow5 hat5 hlt5
              have hrow : ∀ q, kv.ownBlock = some q → w.heap.size + 4 ≤ q := fun q hq => (OWN.out.lt q hq).1
              have hlA : w.heap.size + 3 < (Vx.alloc (.cells #[.int .u32 x1, .int .i64 x2] 26)).heap.size := by simp; omega
              have ck5 := (hgrow5.cell_far ⟨w.heap.size + 3, 0, none⟩ hlA (fun e => by have := hrow _ e.symm; dsimp only at this; omega)).trans CAH.out
              have fk5 := (hgrow5.frozen_far ⟨w.heap.size + 3, 0, none⟩ hlA (fun e => by have := hrow _ e.symm; dsimp only at this; omega)).trans FAH.out
              have hsp : (R.push (x1, x2)).size = R.size + 1 := Array.size_push ..
              have O5 : (w5.setCell ⟨w.heap.size + 3, 0, none⟩ (.slice (some ⟨g, 0, none⟩) (R.size + 1) cap')).ownsRow (w.heap.size + 4) 26 2 (.slice (some ⟨g, 0, none⟩) (R.size + 1) cap') (R.push (x1, x2)).size (fl (R.push (x1, x2))) := by
                rw [hsp, fl_push]
                exact ownsRow_setCell_below hown5 (a := ⟨w.heap.size + 3, 0, none⟩) (show w.heap.size + 3 < w.heap.size + 4 by omega) _
              have C5 : (w5.setCell ⟨w.heap.size + 3, 0, none⟩ (.slice (some ⟨g, 0, none⟩) (R.size + 1) cap')).cell? ⟨w.heap.size + 3, 0, none⟩ = some (.slice (some ⟨g, 0, none⟩) (R.size + 1) cap') := World.cell?_setCell_same' _ _ _ (by rw [ck5]; rfl)
              have F5 : (w5.setCell ⟨w.heap.size + 3, 0, none⟩ (.slice (some ⟨g, 0, none⟩) (R.size + 1) cap')).frozen? ⟨w.heap.size + 3, 0, none⟩ = false := by rw [World.frozen?_setCell]; exact fk5
              have B5 : Below (w.heap.size + 3) W0 (w5.setCell ⟨w.heap.size + 3, 0, none⟩ (.slice (some ⟨g, 0, none⟩) (R.size + 1) cap')) := (BLA.out.grown hgrow5 (Nat.le_of_lt hlA) (fun q hq => by have := hrow q hq; omega)).setCell (p := ⟨w.heap.size + 3, 0, none⟩) (Nat.le_refl _) _
              have hz5 : w.heap.size + 4 ≤ (w5.setCell ⟨w.heap.size + 3, 0, none⟩ (.slice (some ⟨g, 0, none⟩) (R.size + 1) cap')).heap.size := by have := hgrow5.size; simp only [World.size_setCell]; omega
              have O5H := Lib.hid O5
              have C5H := Lib.hid C5
              have F5H := Lib.hid F5
              have B5H := Lib.hid B5
              clear O5 C5 F5 B5 hown5 hgrow5 hat5 hrow hck hfk hp0 hp1
              go_wp2_with fail
              go_roundw
              case rel => exact ⟨(i + 1), j, R.push (x1, x2), _, _, _, _, _, by omega, by omega, by rw [show d.size - (i + 1) = d.size - i - 1 by omega], rfl, Lib.hid (by first | exact sl_next hil r1 hc1 | exact sl_last hil hc1 (by omega) _ _), SR, STH, O5H, C5H, F5H, hz5, B5H⟩
              case measure => simp only [lenOf]; omega
        · obtain ⟨hil, hpl0⟩ := hsp rfl
          have HPL := Lib.hid hpl0
          clear hpl0
          obtain ⟨b1, o1, rfl, r1, hc1⟩ : ∃ b o, a = some ⟨b, o + i * 2, none⟩ ∧ Row w b o d ∧ d.size - i ≤ ca := by
            obtain ⟨_, a', c', ea, ra⟩ := SL.out
            cases ea
            exact ra hil
          obtain ⟨hjl, hpr0⟩ := htp rfl
          have HPR := Lib.hid hpr0
          clear hpr0
          obtain ⟨b2, o2, rfl, r2, hc2⟩ : ∃ b' o, b = some ⟨b', o + j * 2, none⟩ ∧ Row w b' o e ∧ e.size - j ≤ cb := by
            obtain ⟨_, a', c', ea, ra⟩ := SR.out
            cases ea
            exact ra hjl
          obtain ⟨x1, x2⟩ := pp
          have hgl : (0 : Int) < ((d.size - i : Nat) : Int) := by omega
          have BW1 := Lib.hid BW
          clear BW KO hs0 ht0 hst hsp htp
          go_wp2_with fail
          refine (KOH.out _ (Below.refl _ _)).mono ?_
          rintro e' w1 ⟨rfl, hb1'⟩
          have hb1 := Lib.hid hb1'
          have hPw : wr.heap.size ≤ w1.heap.size := hb1'.size
          obtain ⟨P, hP⟩ : ∃ P, P = w1.heap.size := ⟨_, rfl⟩
          have bV : Below P w1 (w1.alloc (.cells #[.int .u32 0, .int .i64 0] 26)) := (Below.refl _ _).alloc (by omega) _
          have pc0 := Lib.hid (show (w1.alloc (.cells #[.int .u32 0, .int .i64 0] 26)).cell? ⟨P, 0, none⟩ = some (.int .u32 0) by rw [hP]; exact aid.new2a w1 _ _ _)
          have pc1 := Lib.hid (show (w1.alloc (.cells #[.int .u32 0, .int .i64 0] 26)).cell? ⟨P, 1, none⟩ = some (.int .i64 0) by rw [hP]; exact aid.new2b w1 _ _ _)
          have pf0 := Lib.hid (show (w1.alloc (.cells #[.int .u32 0, .int .i64 0] 26)).frozen? ⟨P, 0, none⟩ = false by rw [hP]; go_simp)
          have pf1 := Lib.hid (show (w1.alloc (.cells #[.int .u32 0, .int .i64 0] 26)).frozen? ⟨P, 1, none⟩ = false by rw [hP]; go_simp)
          have hPl : P < (w1.alloc (.cells #[.int .u32 0, .int .i64 0] 26)).heap.size := by rw [hP]; simp
          have BWV := BW1.out.trans ((hb1'.trans (bV.mono (by omega))).mono (by omega))
          have BP := Lib.hid bV
          obtain ⟨V1, hV1⟩ : ∃ V, V = w1.alloc (.cells #[.int .u32 0, .int .i64 0] 26) := ⟨_, rfl⟩
          have kx0 := (r1.below BWV i hil).1
          have kx1 := (r1.below BWV i hil).2
          rw [← HPL.out] at kx0 kx1
          rw [← hV1] at pc0 pc1 pf0 pf1 hPl BP kx0 kx1
          have HV1 := Lib.hid hV1
          have hPw : wr.heap.size ≤ P := by omega
          have HPP := Lib.hid hP
          clear hV1 bV hb1' BWV hP
          go_wp2_with fail
          rw [← HPP.out, ← HV1.out]
          clear HV1
          have w0 := pc0.out
          have w1' := pc1.out
          have v0 := pf0.out
          have v1 := pf1.out
          go_region
          all_goals
            have n0 : ((V1.setCell ⟨P, 0, none⟩ (.int .u32 x1)).setCell ⟨P, 1, none⟩ (.int .i64 x2)).drew.cell? ⟨P, 0, none⟩ = some (.int .u32 x1) := (pscompact.sc_ne _ P 1 0 _ (by decide)).trans (World.cell?_setCell_same' _ _ _ (by rw [w0]; rfl))
            have n1 : ((V1.setCell ⟨P, 0, none⟩ (.int .u32 x1)).setCell ⟨P, 1, none⟩ (.int .i64 x2)).drew.cell? ⟨P, 1, none⟩ = some (.int .i64 x2) := World.cell?_setCell_same' _ _ _ (by rw [pscompact.sc_ne _ P 0 1 _ (by decide), w1']; rfl)
            have nf0 : ((V1.setCell ⟨P, 0, none⟩ (.int .u32 x1)).setCell ⟨P, 1, none⟩ (.int .i64 x2)).drew.frozen? ⟨P, 0, none⟩ = false := (by rw [World.frozen?_setCell, World.frozen?_setCell]; exact v0 : ((V1.setCell ⟨P, 0, none⟩ (.int .u32 x1)).setCell ⟨P, 1, none⟩ (.int .i64 x2)).frozen? ⟨P, 0, none⟩ = false)
            have nf1 : ((V1.setCell ⟨P, 0, none⟩ (.int .u32 x1)).setCell ⟨P, 1, none⟩ (.int .i64 x2)).drew.frozen? ⟨P, 1, none⟩ = false := (by rw [World.frozen?_setCell, World.frozen?_setCell]; exact v1 : ((V1.setCell ⟨P, 0, none⟩ (.int .u32 x1)).setCell ⟨P, 1, none⟩ (.int .i64 x2)).frozen? ⟨P, 1, none⟩ = false)
            have nb : Below P w1 ((V1.setCell ⟨P, 0, none⟩ (.int .u32 x1)).setCell ⟨P, 1, none⟩ (.int .i64 x2)).drew := ((BP.out).setCell (p := ⟨P, 0, none⟩) (Nat.le_refl _) _).setCell (p := ⟨P, 1, none⟩) (Nat.le_refl _) _ |>.drew
            have nl : P < ((V1.setCell ⟨P, 0, none⟩ (.int .u32 x1)).setCell ⟨P, 1, none⟩ (.int .i64 x2)).drew.heap.size := by
              simp
              omega
            clear pc0 pc1 pf0 pf1 BP hPl kx0 kx1
            have N0 := Lib.hid n0
            have N1 := Lib.hid n1
            have NF0 := Lib.hid nf0
            have NF1 := Lib.hid nf1
            have NB := Lib.hid nb
            obtain ⟨Vx, hVx⟩ : ∃ V, V = ((V1.setCell ⟨P, 0, none⟩ (.int .u32 x1)).setCell ⟨P, 1, none⟩ (.int .i64 x2)).drew := ⟨_, rfl⟩
            rw [← hVx] at N0 N1 NF0 NF1 NB nl
            have HVx := Lib.hid hVx
            clear n0 n1 nf0 nf1 nb hVx
            go_wp2_with fail
          all_goals
            rw [← HVx.out]
            clear HVx w0 w1' v0 v1
            have pc0 := N0
            have pc1 := N1
            have pf0 := NF0
            have pf1 := NF1
            have BP := NB
            have hPl := nl
            clear N0 N1 NF0 NF1 NB nl
            have BWx := BW1.out.trans ((hb1.out.trans (BP.out.mono hPw)).mono (by omega))
            have ky0 := (r2.below BWx j hjl).1
            have ky1 := (r2.below BWx j hjl).2
            rw [← HPR.out] at ky0 ky1
            clear BWx
            have w0 := pc0.out
            have w1' := pc1.out
            have v0 := pf0.out
            have v1 := pf1.out
            go_region
            all_goals
              have n0 : ((Vx.setCell ⟨P, 0, none⟩ (.int .u32 x1)).setCell ⟨P, 1, none⟩ (.int .i64 x2)).drew.cell? ⟨P, 0, none⟩ = some (.int .u32 x1) := (pscompact.sc_ne _ P 1 0 _ (by decide)).trans (World.cell?_setCell_same' _ _ _ (by rw [w0]; rfl))
              have n1 : ((Vx.setCell ⟨P, 0, none⟩ (.int .u32 x1)).setCell ⟨P, 1, none⟩ (.int .i64 x2)).drew.cell? ⟨P, 1, none⟩ = some (.int .i64 x2) := World.cell?_setCell_same' _ _ _ (by rw [pscompact.sc_ne _ P 0 1 _ (by decide), w1']; rfl)
              have nf0 : ((Vx.setCell ⟨P, 0, none⟩ (.int .u32 x1)).setCell ⟨P, 1, none⟩ (.int .i64 x2)).drew.frozen? ⟨P, 0, none⟩ = false := (by rw [World.frozen?_setCell, World.frozen?_setCell]; exact v0 : ((Vx.setCell ⟨P, 0, none⟩ (.int .u32 x1)).setCell ⟨P, 1, none⟩ (.int .i64 x2)).frozen? ⟨P, 0, none⟩ = false)
              have nf1 : ((Vx.setCell ⟨P, 0, none⟩ (.int .u32 x1)).setCell ⟨P, 1, none⟩ (.int .i64 x2)).drew.frozen? ⟨P, 1, none⟩ = false := (by rw [World.frozen?_setCell, World.frozen?_setCell]; exact v1 : ((Vx.setCell ⟨P, 0, none⟩ (.int .u32 x1)).setCell ⟨P, 1, none⟩ (.int .i64 x2)).frozen? ⟨P, 1, none⟩ = false)
              have nb : Below P w1 ((Vx.setCell ⟨P, 0, none⟩ (.int .u32 x1)).setCell ⟨P, 1, none⟩ (.int .i64 x2)).drew := ((BP.out).setCell (p := ⟨P, 0, none⟩) (Nat.le_refl _) _).setCell (p := ⟨P, 1, none⟩) (Nat.le_refl _) _ |>.drew
              have nl : P < ((Vx.setCell ⟨P, 0, none⟩ (.int .u32 x1)).setCell ⟨P, 1, none⟩ (.int .i64 x2)).drew.heap.size := by
                simp
                omega
              clear pc0 pc1 pf0 pf1 BP hPl ky0 ky1
              have N0 := Lib.hid n0
              have N1 := Lib.hid n1
              have NF0 := Lib.hid nf0
              have NF1 := Lib.hid nf1
              have NB := Lib.hid nb
              obtain ⟨Vy, hVy⟩ : ∃ V, V = ((Vx.setCell ⟨P, 0, none⟩ (.int .u32 x1)).setCell ⟨P, 1, none⟩ (.int .i64 x2)).drew := ⟨_, rfl⟩
              rw [← hVy] at N0 N1 NF0 NF1 NB nl
              have HVy := Lib.hid hVy
              clear n0 n1 nf0 nf1 nb hVy
              go_wp2_with fail
            all_goals
              rw [← HVy.out]
              clear HVy w0 w1' v0 v1
              have pc0 := N0
              have pc1 := N1
              have pf0 := NF0
              have pf1 := NF1
              have BP := NB
              have hPl := nl
              clear N0 N1 NF0 NF1 NB nl
              have BVw := hb1.out.trans (BP.out.mono hPw)
              have hzV : w.heap.size + 4 ≤ Vy.heap.size := by have := BVw.size; omega
              have O1 := Lib.hid (own_below O.out BVw)
              have C1 := Lib.hid (aid.kc BVw CK.out)
              have F1 := Lib.hid ((BVw.frozen (p := ⟨w.heap.size + 3, 0, none⟩) (show w.heap.size + 3 < wr.heap.size by omega)).trans FK.out)
              have BL1 := Lib.hid (Bl.out.trans (BVw.mono (by omega)))
              clear BVw
              refine (KFH.out _ _ _).mono ?_
              rintro e' w2 ⟨rfl, rfl⟩
              cases hk : keep true true
              · have ST := STEP.out
                rw [hk] at ST
                have STH := Lib.hid (show Mg keep d e (i + 1) (j + 1) R from ST)
                clear ST hk
                go_wp2_with fail
                go_roundw
                case rel => exact ⟨(i + 1), (j + 1), R, kv, _, _, _, _, by omega, by omega, by rw [show d.size - (i + 1) = d.size - i - 1 by omega], by rw [show e.size - (j + 1) = e.size - j - 1 by omega], Lib.hid (by first | exact sl_next hil r1 hc1 | exact sl_last hil hc1 (by omega) _ _), Lib.hid (by first | exact sl_next hjl r2 hc2 | exact sl_last hjl hc2 (by omega) _ _), STH, O1, C1, F1, hzV, BL1⟩
                case measure => simp only [lenOf]; omega
              · have ST := STEP.out
                rw [hk] at ST
                have STH := Lib.hid (show Mg keep d e (i + 1) (j + 1) (R.push (x1, x2)) from ST)
                clear ST hk
                have hck := C1.out
                have hfk := F1.out
                have hp0 := pc0.out
                have hp1 := pc1.out
                have hRs := MG.out.size
                have OWN := Lib.hid (World.ownsRow.alloc O1.out (.cells #[.int .u32 x1, .int .i64 x2] 26))
                have NW := Lib.hid (show ∀ (j : Nat) u, (enc (x1, x2))[j]? = some u → (Vy.alloc (.cells #[.int .u32 x1, .int .i64 x2] 26)).cell? ((⟨Vy.heap.size, 0, none⟩ : Addr).add j) = some u from fun j u hu => by
                  rw [Addr.add_mid]
                  match j, hu with
                  | 0, hu => simp [enc] at hu; rw [← hu]; exact aid.new2a Vy _ _ _
                  | 1, hu => simp [enc] at hu; rw [← hu]; exact aid.new2b Vy _ _ _
                  | j + 2, hu => simp [enc] at hu)
                have E1 : ∀ u ∈ enc (x1, x2), u.oneCell' = true := fun u hu => by simp [enc] at hu; rcases hu with rfl | rfl <;> rfl
                have CA := aid.ca (.cells #[.int .u32 x1, .int .i64 x2] 26) C1.out
                have FA := (((Below.refl Vy.heap.size Vy).alloc (Nat.le_refl _) (.cells #[.int .u32 x1, .int .i64 x2] 26)).frozen (p := ⟨w.heap.size + 3, 0, none⟩) (show w.heap.size + 3 < Vy.heap.size by omega)).trans F1.out
                have BLA := Lib.hid (BL1.out.alloc (show w.heap.size + 3 ≤ Vy.heap.size by omega) (.cells #[.int .u32 x1, .int .i64 x2] 26))
                have CAH := Lib.hid CA
                have FAH := Lib.hid FA
                clear CA FA
                go_wp2_with (at_builtin; refine wpList_append_lies _ rfl (.tmp 50) (.tmp 52) 22 rfl (w.heap.size + 4) 26 ip0 (.agg #[.int .u32 0, .int .i64 0]) 2 16 Try.underlying22 I1.out I2.out I3.out I4.out rfl (by decide) _ R.size (fl R) rfl OWN.out ⟨Vy.heap.size, 0, none⟩ 1 1 (enc (x1, x2)) rfl rfl NW.out E1 (by decide) (by unfold maxLen; omega) (by omega) (by simp; omega) _ rfl ?_)
                intro g cap' w5 hown5 hgrow5 hat5 hlt5
                have hrow : ∀ q, kv.ownBlock = some q → w.heap.size + 4 ≤ q := fun q hq => (OWN.out.lt q hq).1
                have hlA : w.heap.size + 3 < (Vy.alloc (.cells #[.int .u32 x1, .int .i64 x2] 26)).heap.size := by simp; omega
                have ck5 := (hgrow5.cell_far ⟨w.heap.size + 3, 0, none⟩ hlA (fun e => by have := hrow _ e.symm; dsimp only at this; omega)).trans CAH.out
                have fk5 := (hgrow5.frozen_far ⟨w.heap.size + 3, 0, none⟩ hlA (fun e => by have := hrow _ e.symm; dsimp only at this; omega)).trans FAH.out
                have hsp : (R.push (x1, x2)).size = R.size + 1 := Array.size_push ..
                have O5 : (w5.setCell ⟨w.heap.size + 3, 0, none⟩ (.slice (some ⟨g, 0, none⟩) (R.size + 1) cap')).ownsRow (w.heap.size + 4) 26 2 (.slice (some ⟨g, 0, none⟩) (R.size + 1) cap') (R.push (x1, x2)).size (fl (R.push (x1, x2))) := by
                  rw [hsp, fl_push]
                  exact ownsRow_setCell_below hown5 (a := ⟨w.heap.size + 3, 0, none⟩) (show w.heap.size + 3 < w.heap.size + 4 by omega) _
                have C5 : (w5.setCell ⟨w.heap.size + 3, 0, none⟩ (.slice (some ⟨g, 0, none⟩) (R.size + 1) cap')).cell? ⟨w.heap.size + 3, 0, none⟩ = some (.slice (some ⟨g, 0, none⟩) (R.size + 1) cap') := World.cell?_setCell_same' _ _ _ (by rw [ck5]; rfl)
                have F5 : (w5.setCell ⟨w.heap.size + 3, 0, none⟩ (.slice (some ⟨g, 0, none⟩) (R.size + 1) cap')).frozen? ⟨w.heap.size + 3, 0, none⟩ = false := by rw [World.frozen?_setCell]; exact fk5
                have B5 : Below (w.heap.size + 3) W0 (w5.setCell ⟨w.heap.size + 3, 0, none⟩ (.slice (some ⟨g, 0, none⟩) (R.size + 1) cap')) := (BLA.out.grown hgrow5 (Nat.le_of_lt hlA) (fun q hq => by have := hrow q hq; omega)).setCell (p := ⟨w.heap.size + 3, 0, none⟩) (Nat.le_refl _) _
                have hz5 : w.heap.size + 4 ≤ (w5.setCell ⟨w.heap.size + 3, 0, none⟩ (.slice (some ⟨g, 0, none⟩) (R.size + 1) cap')).heap.size := by have := hgrow5.size; simp only [World.size_setCell]; omega
                have O5H := Lib.hid O5
                have C5H := Lib.hid C5
                have F5H := Lib.hid F5
                have B5H := Lib.hid B5
                clear O5 C5 F5 B5 hown5 hgrow5 hat5 hrow hck hfk hp0 hp1
                go_wp2_with fail
                go_roundw
                case rel => exact ⟨(i + 1), (j + 1), R.push (x1, x2), _, _, _, _, _, by omega, by omega, by rw [show d.size - (i + 1) = d.size - i - 1 by omega], by rw [show e.size - (j + 1) = e.size - j - 1 by omega], Lib.hid (by first | exact sl_next hil r1 hc1 | exact sl_last hil hc1 (by omega) _ _), Lib.hid (by first | exact sl_next hjl r2 hc2 | exact sl_last hjl hc2 (by omega) _ _), STH, O5H, C5H, F5H, hz5, B5H⟩
                case measure => simp only [lenOf]; omega
end Go.Proofs.Ytpnbbaocdbopiaa.psmerge
