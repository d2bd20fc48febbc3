/- TrieStops: for any slice of prefixes and any int the law answers true: who goes through all and has enough is asked no more. No condition. -/
import Derived.Test.YtfealajbibofiaaTbWalk
import Derived.Test.YtfealajbibofiaaTrOpen
import Derived.Test.YtfealajbibofiaaFrame
import Derived.Shelf.Abstract
set_option linter.unusedVariables false
set_option linter.unusedSimpArgs false
namespace Go.Proofs.Ytfealajbibofiaa.lawTrieStops
open Go.ChangeShapes Go.WideShapes Go.ChangeAt Go.RowKit Go.Lib Go.Shelf Go.Proofs.Ytfealajbibofiaa.frame Go.Proofs.Ytfealajbibofiaa.math1 Go.Proofs.Ytfealajbibofiaa.psof Go.Proofs.Ytfealajbibofiaa.psopen Go.Proofs.Ytfealajbibofiaa.trmath Go.Proofs.Ytfealajbibofiaa.trmem Go.Proofs.Ytfealajbibofiaa.trgraft Go.Proofs.Ytfealajbibofiaa.tbunder Go.Proofs.Ytfealajbibofiaa.tbput Go.Proofs.Ytfealajbibofiaa.trhead Go.Proofs.Ytfealajbibofiaa.trmap Go.Proofs.Ytfealajbibofiaa.trwalk Go.Proofs.Ytfealajbibofiaa.tbwalk

def wrp (s : Int) : Int := IntKind.i64.wrap s
theorem wr_next (s : Int) : IntKind.i64.wrap (wrp s + 1) = wrp (s + 1) := by
  unfold wrp
  rw [IntKind.wrap_i64, IntKind.wrap_i64, IntKind.wrap_i64]
  omega
theorem wr_small {s : Int} (h0 : 0 ≤ s) (h1 : s < 1000) : wrp s = s := IntWalk.i64_in _ (by omega)

/-- how many were asked: one more each time, till there are enough -/
def stepS (M : Int) (s : Int) (_ : (Int × Int) × Value) : Int × Bool := (s + 1, decide (wrp (s + 1) < M))
theorem run_stop (M : Int) (hM : M ≤ 32) : ∀ (es : List ((Int × Int) × Value)) (s : Int), 0 ≤ s → s < M → (run (stepS M) s es).1 = if M ≤ s + es.length then M else s + es.length
  | [], s, h0, h1 => by
    rw [run, if_neg (by simp; omega)]; simp
  | e :: es, s, h0, h1 => by
    rw [run]
    have hw : wrp (s + 1) = s + 1 := wr_small (by omega) (by omega)
    by_cases h : s + 1 < M
    · rw [if_pos (by simp [stepS, hw, h])]
      rw [show (stepS M s e).1 = s + 1 from rfl, run_stop M hM es (s + 1) (by omega) h]
      rw [List.length_cons]
      by_cases h2 : M ≤ s + 1 + (es.length : Int)
      · rw [if_pos h2, if_pos (by omega)]
      · rw [if_neg h2, if_neg (by omega)]; omega
    · rw [if_neg (by simp [stepS, hw]; omega)]
      rw [List.length_cons, if_pos (by omega)]
      show s + 1 = M
      omega

def InvS (nb mb : Nat) (M : Int) (s : Int) (W : World) : Prop := W.cell? ⟨nb, 0, none⟩ = some (.int .i64 (wrp s)) ∧ W.frozen? ⟨nb, 0, none⟩ = false ∧ W.cell? ⟨mb, 0, none⟩ = some (.int .i64 M)
theorem invS_below (nb mb : Nat) (M s : Int) (W W' : World) (h : InvS nb mb M s W) (k : Below W.heap.size W W') : InvS nb mb M s W' :=
  ⟨aid.kc k h.1, (k.frozen (p := ⟨nb, 0, none⟩) (World.block_lt_of_cell? _ _ h.1)).trans h.2.1, aid.kc k h.2.2⟩

set_option maxRecDepth 100000 in
theorem stop_call (nb mb : Nat) (M s : Int) (x n : Int) (v : Value) (W : World) (hne : nb ≠ mb) (hI : InvS nb mb M s W) :
    Calls Try.prog 36 #[.agg #[.int .u32 x, .int .i64 n], v, .pointer (some ⟨nb, 0, none⟩), .pointer (some ⟨mb, 0, none⟩)] W fun e w' => e = .returned (.bool (decide (wrp (s + 1) < M))) ∧ InvS nb mb M (s + 1) w' ∧ Kept (fun q => q = nb) W w' := by
  obtain ⟨c0, f0, c1⟩ := hI
  have hz := wr_next s
  unfold InvS
  obtain ⟨z, hzz⟩ : ∃ z, z = wrp s := ⟨_, rfl⟩
  obtain ⟨z', hz'⟩ : ∃ z, z = wrp (s + 1) := ⟨_, rfl⟩
  rw [← hzz] at c0 hz
  rw [← hz'] at hz ⊢
  have hz2 : wrap64 (z + 1) = z' := by rw [← IntWalk.i64_left]; exact hz
  have a0 := aid.ca (.cells #[.int .u32 x, .int .i64 n] 30) c0
  have a1 := aid.ca (.cells #[.int .u32 x, .int .i64 n] 30) c1
  have nlt : nb < W.heap.size := World.block_lt_of_cell? _ _ c0
  have g0 : (W.alloc (.cells #[.int .u32 x, .int .i64 n] 30)).frozen? ⟨nb, 0, none⟩ = false := (World.frozen?_of_block (w := W) (Below.heap_alloc _ _ _ nlt)).trans f0
  have d0 : ((W.alloc (.cells #[.int .u32 x, .int .i64 n] 30)).setCell ⟨nb, 0, none⟩ (.int .i64 z')).cell? ⟨nb, 0, none⟩ = some (.int .i64 z') := World.cell?_setCell_same _ _ _ a0
  have d1 : ((W.alloc (.cells #[.int .u32 x, .int .i64 n] 30)).setCell ⟨nb, 0, none⟩ (.int .i64 z')).cell? ⟨mb, 0, none⟩ = some (.int .i64 M) := (World.cell?_setCell_other _ _ _ _ (fun e => hne (congrArg Addr.block e))).trans a1
  have KK := Lib.hid ((Kept.of_below (may := fun q => q = nb) ((Below.refl W.heap.size W).alloc (Nat.le_refl _) (.cells #[.int .u32 x, .int .i64 n] 30))).setCell (p := ⟨nb, 0, none⟩) (.inl rfl) (.int .i64 z'))
  have G0 := Lib.hid (show ((W.alloc (.cells #[.int .u32 x, .int .i64 n] 30)).setCell ⟨nb, 0, none⟩ (.int .i64 z')).frozen? ⟨nb, 0, none⟩ = false by rw [World.frozen?_setCell]; exact g0)
  clear c0 f0 c1 hzz hz' nlt
  go_enter Try.func36, Try.ntmps36
  go_wp2_with fail
  go_ret
  exact ⟨rfl, ⟨d0, G0.out, d1⟩, KK.out⟩

set_option maxRecDepth 100000 in
set_option maxHeartbeats 2000000 in
theorem walk (v0 : Value) (d : Array P2) (mo : Int) (w : World) (hd : RowOk w v0 d) (hmo : I64 mo) : Calls Try.prog 7 #[v0, .int .i64 mo] w fun e w' => e = .returned (.bool true) ∧ Below w.heap.size w w' := by
  obtain ⟨hR, hml, hval⟩ := hd
  obtain ⟨a1, c1, e1⟩ := psof.IsRow.shape hR
  obtain ⟨N, hN⟩ : ∃ N, N = d.size := ⟨_, rfl⟩
  have hNm : N ≤ 9223372036854775807 := by rw [hN]; exact hml
  rw [← hN] at e1
  subst e1
  have ba := (Below.refl w.heap.size w).alloc (Nat.le_refl _) (.cells #[.int .i64 mo] 3)
  obtain ⟨W0, hW0⟩ : ∃ W, W = w.alloc (.cells #[.int .i64 mo] 3) := ⟨_, rfl⟩
  rw [← hW0] at ba
  have m0 : W0.cell? ⟨w.heap.size, 0, none⟩ = some (.int .i64 mo) := by rw [hW0]; go_simp
  have m1 : W0.frozen? ⟨w.heap.size, 0, none⟩ = false := by rw [hW0]; exact World.frozen?_alloc_at _ _ _ _ rfl
  have hs0 : W0.heap.size = w.heap.size + 1 := by rw [hW0]; simp
  have HN := Lib.hid hN
  have HR := Lib.hid (hR.below ba)
  have HU := Lib.hid hval
  have HMO := Lib.hid hmo
  have HB := Lib.hid ba
  have HM0 := Lib.hid m0
  have HM1 := Lib.hid m1
  have HW0 := Lib.hid hW0
  have KH := Lib.hid trhead.head_true
  have KN := Lib.hid (fun W => new_any 100 (by decide) (by decide) W)
  have hand : bits .and .i64 mo 31 = mo % 32 := mod_32 mo
  clear hN hR hml hval hmo ba hW0 m0 m1
  go_enter Try.func7, Try.ntmps7
  go_wp2_with fail
  rw [← HW0.out]
  refine (KH.out _).mono ?_
  rintro e w1 ⟨rfl, hb⟩
  have B1 := Lib.hid hb
  clear hb
  by_cases hbig : 40 < N
  · have hbi : (40 : Int) < (N : Int) := by omega
    go_wp2_with fail
    go_ret
    exact ⟨rfl, aid.kb B1.out HB.out⟩
  have hbi : ¬ (40 : Int) < (N : Int) := by omega
  go_wp2_with fail
  refine (KN.out _).mono ?_
  rintro e w2 ⟨rfl, hT, hb⟩
  obtain ⟨t, ht⟩ : ∃ t, t = w1.heap.size := ⟨_, rfl⟩
  have ht1 : W0.heap.size ≤ t := by rw [ht]; exact B1.out.size
  rw [← ht] at hT
  rw [← ht]
  have O2 := Lib.hid (show Own W0.heap.size w2 t .nil 100 0 from ⟨⟨hT, Tr.dep_nil, fun z hz => by rcases hz with rfl | hz; exact ht1; cases hz⟩, cnt_nil⟩)
  have B2 := Lib.hid (aid.kb hb B1.out)
  clear hT hb ht B1
  go_wp2_with fail
  go_loopw [16] (fun iv wr' => ∃ (k : Nat) (T : Tr) (c : Int), k ≤ N ∧ iv = .int .i64 k ∧ c ≤ k ∧ Hid (Own W0.heap.size wr' t T 100 c) ∧ Hid (Below W0.heap.size W0 wr')) (fun iv _ => N - (intOf iv).toNat)
  case atStart => exact ⟨0, .nil, 0, by omega, rfl, by omega, O2, B2⟩
  case round =>
    obtain ⟨k, T, c, hk, rfl, hck, OX, Bl⟩ := hrel
    by_cases hlt : k < N
    · have hkd : k < d.size := by rw [← HN.out]; exact hlt
      obtain ⟨b, o, rfl, c0, c1'⟩ := (HR.out.below Bl.out).at hkd
      have hu := HU.out k hkd
      obtain ⟨⟨x1, x2⟩, hxx⟩ : ∃ z, z = d[k]! := ⟨_, rfl⟩
      rw [← hxx] at c0 c1' hu
      dsimp only at c0 c1' hu
      have HUU := Lib.hid hu
      have kp := put_all W0.heap.size t T 100 c x1 x2 true _ OX.out Bl.out.size HUU.out.1.1 HUU.out.1.2 (by omega) (by decide)
      obtain ⟨rv, hrv⟩ : ∃ rv, rv = (if rightB x1 x2 = true then (0 : Int) else 1) := ⟨_, rfl⟩
      rw [← hrv] at kp
      have KP := Lib.hid kp
      clear kp hrv hxx hu
      go_wp2_with fail
      refine KP.out.mono ?_
      rintro e w4 ⟨T', c', rfl, o1, hc', g1, b1, k1, n1⟩
      have OX1 := Lib.hid o1
      have Bl1 := Lib.hid (Bl.out.trans b1)
      clear o1 g1 b1 k1 n1 KP c0 c1'
      go_wp2_with fail
      go_roundw
      case rel => exact ⟨k + 1, T', c', by omega, by go_num, by omega, OX1, Bl1⟩
      case measure => simp [intOf]; omega
    · have hk' : k = N := by omega
      subst hk'
      obtain ⟨M, hM⟩ : ∃ M, M = 1 + mo % 32 := ⟨_, rfl⟩
      have hM1 : 1 ≤ M := by omega
      have hM32 : M ≤ 32 := by omega
      have hMe : 1 + mo % 32 = M := hM.symm
      have y0 := aid.kc Bl.out HM0.out
      have y1 := (Bl.out.frozen (p := ⟨w.heap.size, 0, none⟩) (show w.heap.size < W0.heap.size by omega)).trans HM1.out
      have hnm : w.heap.size < wr.heap.size := World.block_lt_of_cell? _ _ y0
      obtain ⟨V1, hV1⟩ : ∃ V, V = wr.setCell ⟨w.heap.size, 0, none⟩ (.int .i64 M) := ⟨_, rfl⟩
      obtain ⟨V2, hV2⟩ : ∃ V, V = V1.alloc (.cells #[.int .i64 0] 3) := ⟨_, rfl⟩
      have hs1 : V1.heap.size = wr.heap.size := by rw [hV1]; simp [World.setCell]
      obtain ⟨nb, hnb⟩ : ∃ nb, nb = V1.heap.size := ⟨_, rfl⟩
      have k1 : Kept (fun q => q = w.heap.size) wr V1 := by rw [hV1]; exact (Kept.refl (fun q => q = w.heap.size) wr).setCell (p := ⟨w.heap.size, 0, none⟩) (.inl rfl) _
      have b2 : Below V1.heap.size V1 V2 := by rw [hV2]; exact (Below.refl _ _).alloc (Nat.le_refl _) _
      have n0 : V2.cell? ⟨nb, 0, none⟩ = some (.int .i64 0) := by rw [hV2]; exact World.cell?_alloc_at _ _ _ _ hnb
      have n1 : V2.frozen? ⟨nb, 0, none⟩ = false := by rw [hV2]; exact World.frozen?_alloc_at _ _ _ _ hnb
      have v0' : V1.cell? ⟨w.heap.size, 0, none⟩ = some (.int .i64 M) := by rw [hV1]; exact World.cell?_setCell_same _ _ _ y0
      have v1 := aid.kc b2 v0'
      have omb : ∀ q, own t T q → ¬ q = w.heap.size := fun q hq e => by have := OX.out.mine.own q hq; omega
      have OV := Lib.hid ((OX.out.kept k1 omb).below b2)
      have onb : ∀ q, own t T q → ¬ q = nb := fun q hq e => by have := OX.out.mine.tri.lt hq; omega
      have hne : nb ≠ w.heap.size := by omega
      have hcl := cnt_len OX.out.cnt 0 0
      have hrun := run_stop M hM32 (entries T 0 0) 0 (by omega) (by omega)
      rw [hcl, Int.zero_add] at hrun
      have ka := tbwalk.all_any 36 #[.pointer (some ⟨nb, 0, none⟩), .pointer (some ⟨w.heap.size, 0, none⟩)] (enters_of Try.func36 (by kernel_rfl) rfl) (InvS nb (w.heap.size) M) (fun q => q = nb) (stepS M) (fun _ => True) (invS_below nb (w.heap.size) M)
        (fun s e W _ hI _ => stop_call nb (w.heap.size) M s e.1.1 e.1.2 e.2 W hne hI) t T 100 c V2 0 OV.out.mine.tri (dep_height OV.out.mine.dep) onb (fun q hq => by rw [hq]; exact World.block_lt_of_cell? _ _ n0) ⟨by rw [wr_small (by omega) (by omega)]; exact n0, n1, v1⟩ (fun _ _ => trivial)
      rw [hrun] at ka
      have KA := Lib.hid ka
      have hcN : c ≤ 40 := by omega
      have hc0 := cnt_pos OX.out.cnt
      have BV := Lib.hid (show Below w.heap.size w V2 from aid.kb b2 (by rw [hV1]; exact (aid.kb Bl.out HB.out).setCell (p := ⟨w.heap.size, 0, none⟩) (Nat.le_refl _) _))
      have KLN := Lib.hid (fun W (hk : Kept (fun q => q = nb) V2 W) => tbput.len_any t T 100 c W ((OV.out.kept hk onb).mine.tri))
      have HVS := Lib.hid (show w.heap.size ≤ nb from by have := BV.out.size; have := HB.out.size; omega)
      have HSZ := Lib.hid (show w.heap.size ≤ V2.heap.size from BV.out.size)
      have eV : V2 = (wr.setCell ⟨w.heap.size, 0, none⟩ (.int .i64 M)).alloc (.cells #[.int .i64 0] 3) := by rw [hV2, hV1]
      have eN : nb = wr.heap.size := by rw [hnb, hs1]
      have HEV := Lib.hid eV
      have HEN := Lib.hid eN
      clear hV1 hV2 hs1 hnb k1 b2 n0 n1 v0' v1 omb hcl hrun ka OX Bl onb eV eN hM KN KH HMO
      go_wp2_with fail
      rw [← HEV.out, ← HEN.out]
      refine KA.out.mono ?_
      rintro e w5 ⟨rfl, hI, hk5⟩
      obtain ⟨i0, i1, i2⟩ := hI
      have B5 := Lib.hid (show Below w.heap.size w w5 from BV.out.trans (hk5.below HSZ.out (fun q hq e => by have := HVS.out; omega)))
      have KL5 := Lib.hid (fun s : aid.Keep w5 => KLN.out s.world (hk5.then s.below))
      clear KA hk5 KLN BV
      by_cases hmc : M ≤ c
      · rw [if_pos hmc, wr_small (by omega) (by omega)] at i0
        have j0 := fun s : aid.Keep w5 => aid.keep_cell i0 s
        have j1 := fun s : aid.Keep w5 => aid.keep_cell i2 s
        clear i0 i1 i2
        go_wp2_with fail
        refine aid.wp_region_keep (by kernel_rfl) (by kernel_rfl) ?_
        repeat (go_big_quiet_step ((go_at_call 37; (with_reducible exact aid.keep_call (KL5.out _)))))
        refine wpQuiet_nil ?_
        rintro _ ⟨s, rfl⟩
        go_wp2_with fail
        go_ret
        trace_state
        exact ⟨rfl, aid.kbk B5.out s⟩
      · rw [if_neg hmc, wr_small (by omega) (by omega)] at i0
        have j0 := fun s : aid.Keep w5 => aid.keep_cell i0 s
        have j1 := fun s : aid.Keep w5 => aid.keep_cell i2 s
        clear i0 i1 i2
        go_wp2_with fail
        refine aid.wp_region_keep (by kernel_rfl) (by kernel_rfl) ?_
        repeat (go_big_quiet_step ((go_at_call 37; (with_reducible exact aid.keep_call (KL5.out _)))))
        refine wpQuiet_nil ?_
        rintro _ ⟨s, rfl⟩
        go_wp2_with fail
        go_ret
        trace_state
        exact ⟨rfl, aid.kbk B5.out s⟩

set_option maxRecDepth 100000 in
theorem lifted (os : Os) (started : os.Started) (H : Type) (enc : TypeId × Value → H) :
    ReturnsInHanded {} Try.checked os 7 .any (Rows.trieStopsSpec.pre6 enc Try.prog Try.f7 Rows.trieStopsRow.domain false) (Rows.trieStopsSpec.post enc Try.prog Try.f7 false true false false) := by
  refine returnsInHanded_of_change (C := Try.checked) own started (by kernel_rfl) Try.func7
    (ChangeSpec.witness6 (enc := enc) (C := Try.checked) false ⟨#[], #[.slice none 0 0, .int .i64 0], []⟩ 8 (by kernel_rfl) (by kernel_rfl) (by kernel_rfl) (by kernel_rfl)) ?_
  intro W base args ds gs before hval0 hW hcnd _
  have hval : ∀ (j : Nat) t v, Try.f7.params[j]? = some t → args[j]? = some v → Value.okWide Try.prog W .any base t v := hval0
  obtain ⟨p, q, hA0, _⟩ := id hW
  have hA : DataW.TrodAll enc Try.prog W 0 (fun _ => true) true Try.f7.params.toList args.toList ds p := hA0
  rw [Try.params7] at hA hval
  obtain ⟨v0, vs0, d0, ds0, p0, q0, hargs, rfl, rfl, h0, r0⟩ := trodAll_cons hA
  obtain ⟨v1, vs1, d1, ds1, p1, q1, rfl, rfl, rfl, h1, r1⟩ := trodAll_cons r0
  obtain ⟨rfl, rfl, rfl⟩ := trodAll_nil r1
  obtain rfl : args = #[v0, v1] := by cases args; simp_all
  obtain ⟨d, hd⟩ := psopen.open_row (hval 0 _ v0 rfl rfl) h0
  obtain ⟨mo, rfl, hmo⟩ := open_i64 Try.underlying3 (hval 1 _ v1 rfl rfl) h1
  refine (walk v0 d mo W hd hmo).mono fun e W' ⟨he, hb⟩ => ⟨_, he, ?_⟩
  exact law_post laidOut rfl (by kernel_rfl) Try.underlying4 (by kernel_rfl) (fun ds h => by match ds, h with | [_, _], _ => rfl) hW hb

theorem over : Rows.trieStopsRow.holds Try.pinned (OpenSpec.ofChange Rows.trieStopsSpec) :=
  OpenClaim.holds_of_wide 7 Try.f7 rfl rfl rfl rfl rfl rfl rfl ⟨rfl, rfl, rfl, rfl, rfl⟩ rfl rfl rfl rfl rfl (by kernel_rfl) Try.func7 (by kernel_rfl)
    (of_decide_eq_true (by kernel_rfl)) (by unfold Func.isWrapper; first | (rw [if_pos (by decide +kernel)]; kernel_rfl) | (rw [if_neg (by decide +kernel)]; exact ⟨rfl, rfl⟩))
    (fun os started H enc _ => lifted os started H enc)

theorem proved : Rows.TrieStopsSaid := over
end Go.Proofs.Ytfealajbibofiaa.lawTrieStops
