/- IpNests: for any two addresses and any two ints the law answers true. No condition. -/
import Derived.Test.YtjpjgehhkjljfaaFrame
import Derived.Test.YtjpjgehhkjljfaaIp2
import Derived.Test.YtjpjgehhkjljfaaMath4
import Derived.Test.YtjpjgehhkjljfaaAid
set_option linter.unusedVariables false
namespace Go.Proofs.Ytjpjgehhkjljfaa.lawNests
open Go.ChangeShapes Go.WideShapes Go.ChangeAt Go.RowKit Go.Proofs.Ytjpjgehhkjljfaa.frame Go.Proofs.Ytjpjgehhkjljfaa.math1

set_option maxRecDepth 100000 in
set_option maxHeartbeats 600000 in
theorem walk (a b n m : Int) (w : World) (ha : U32 a) (hb : U32 b) (hn : I64 n) (hm : I64 m) :
    Calls Try.prog 9 #[.int .u32 a, .int .u32 b, .int .i64 n, .int .i64 m] w fun e w' => e = .returned (.bool true) ∧ Below w.heap.size w w' := by
  obtain ⟨a0, a1⟩ := ha
  obtain ⟨b0, b1⟩ := hb
  clear hn hm
  have np := netI_bd (n := n) a0 a1
  have nq := netI_bd (n := m) a0 a1
  have hpq : (clampI n ≤ clampI m ∧ coversB (netI a n) (clampI n) (netI a m) (clampI m) = true) ∨ (clampI m < clampI n ∧ coversB (netI a m) (clampI m) (netI a n) (clampI n) = true) := by
    by_cases h : clampI n ≤ clampI m
    · exact .inl ⟨h, nests a0 a1 h⟩
    · exact .inr ⟨by omega, nests a0 a1 (by omega)⟩
  obtain ⟨p, hp⟩ : ∃ p, p = netI a n := ⟨_, rfl⟩
  obtain ⟨q, hq⟩ : ∃ q, q = netI a m := ⟨_, rfl⟩
  obtain ⟨c, hc⟩ : ∃ c, c = clampI n := ⟨_, rfl⟩
  obtain ⟨d, hd⟩ : ∃ d, d = clampI m := ⟨_, rfl⟩
  have k1 := fun W => ip1.of_any a n W a0 a1
  have k2 := fun W => ip1.of_any a m W a0 a1
  rw [← hp] at np hpq k1
  rw [← hq] at nq hpq k2
  rw [← hc] at hpq k1
  rw [← hd] at hpq k2
  have p1 : p < 4294967296 := by omega
  have q1 : q < 4294967296 := by omega
  have K1 := Lib.hid k1
  have K2 := Lib.hid k2
  clear k1 k2 hp hq hc hd
  rcases hpq with ⟨h1, h2⟩ | ⟨h1, h2⟩
  all_goals
    have kc := fun W => ip1.covers_any p c q d W np.1 p1 nq.1 q1
    have kd := fun W => ip1.covers_any q d p c W nq.1 q1 np.1 p1
    first | rw [h2] at kc | rw [h2] at kd
    have KC := Lib.hid kc
    have KD := Lib.hid kd
    clear kc kd h2
    go_enter Try.func9, Try.ntmps9
    go_wp2_with fail
    refine (aid.keep_first (ip1.covers_any _ _ _ _ _ (by omega) (by omega) (by omega) (by omega))).mono ?_
    rintro e _ ⟨rfl, s1, rfl⟩
    rw [show coversB 167772160 8 167837696 16 = true by decide]
    have HB := Lib.hid (aid.kbk (Below.refl w.heap.size w) s1)
    go_wp2_with fail
    refine (aid.keep_first (K1.out _)).mono ?_
    rintro e _ ⟨rfl, s2, rfl⟩
    have HB2 := Lib.hid (aid.kba (aid.kbk HB.out s2) (.cells #[.int .u32 p, .int .i64 c] 27))
    have f0 := aid.keep_cell (aid.new2a s2.world (.int .u32 p) (.int .i64 c) 27)
    have f1 := aid.keep_cell (aid.new2b s2.world (.int .u32 p) (.int .i64 c) 27)
    go_wp2_with fail
    refine (aid.keep_first (K2.out _)).mono ?_
    rintro e _ ⟨rfl, s3, rfl⟩
    have HB3 := Lib.hid (aid.kba (aid.kbk HB2.out s3) (.cells #[.int .u32 q, .int .i64 d] 27))
    have e0 := aid.ca (.cells #[.int .u32 q, .int .i64 d] 27) (f0 s3)
    have e1 := aid.ca (.cells #[.int .u32 q, .int .i64 d] 27) (f1 s3)
    have e2 := aid.new2a s3.world (.int .u32 q) (.int .i64 d) 27
    have e3 := aid.new2b s3.world (.int .u32 q) (.int .i64 d) 27
    have g0 := aid.keep_cell e0
    have g1 := aid.keep_cell e1
    have g2 := aid.keep_cell e2
    have g3 := aid.keep_cell e3
    clear f0 f1
    go_wp2_with fail
    first | (with_reducible refine (aid.keep_first (KC.out _)).mono ?_) | (with_reducible refine (aid.keep_first (KD.out _)).mono ?_)
    rintro e _ ⟨rfl, s4, rfl⟩
    have HB4 := Lib.hid (aid.kbk HB3.out s4)
    clear e0 e1 e2 e3
    go_wp2_with fail
    clear g0 g1 g2 g3
    go_loop [11] (fun iv => ∃ k : Nat, k ≤ 32 ∧ iv = .int .i64 k ∧ ∀ j : Nat, j < k → bitI a j = bitI b j) (fun iv => 32 - (intOf iv).toNat)
    case atStart => exact ⟨0, by omega, rfl, fun j hj => by omega⟩
    case round =>
      obtain ⟨k, hk, rfl, hz⟩ := hrel
      have HZ := Lib.hid hz
      have kba := ip1.bit_any a k s4.world a0 a1 (by omega)
      have kbb := ip1.bit_any b k s4.world b0 b1 (by omega)
      rw [Int.toNat_natCast] at kba kbb
      have k3 := fun W => ip1.of_any a k W a0 a1
      have k4 := fun W => ip1.of_any b k W b0 b1
      have k5 := fun W => ip1.of_any a (k + 1) W a0 a1
      have hck : clampI (k : Int) = k := clampI_in (by omega) (by omega)
      rw [hck] at k3 k4
      have nc := netI_bd (n := (k : Int)) a0 a1
      have nd := netI_bd (n := (k : Int) + 1) a0 a1
      have hA := net_has a k
      rw [hck] at hA
      have hB : hasB (netI a k) k b = true := (net_has_iff a0 a1 b0 b1 hk).2 hz
      have hE := net_of_has hB
      have hq := fun W => ip1.eql_pfx (netI a k) k (netI a k) k W
      simp only [BEq.rfl, Bool.and_self] at hq
      rw [hE] at k4
      have hK : k < 32 → bitI a k ≠ bitI b k → hasB (netI a ((k : Int) + 1)) ((k : Int) + 1) b = false := by
        intro hk2 hne
        cases e : hasB (netI a ((k : Int) + 1)) ((k : Int) + 1) b with
        | false => rfl
        | true =>
          have := (net_has_iff a0 a1 b0 b1 (k := k + 1) (by omega)).1 (by push_cast; exact e) k (by omega)
          exact (hne this).elim
      have kh1 := fun W => ip1.has_any (netI a k) k a W nc.1 (by omega) a0 a1
      have kh2 := fun W => ip1.has_any (netI a k) k b W nc.1 (by omega) b0 b1
      have kh3 := fun W => ip1.has_any (netI a ((k : Int) + 1)) ((k : Int) + 1) b W nd.1 (by omega) b0 b1
      rw [hA] at kh1
      rw [hB] at kh2
      obtain ⟨c2, hc2⟩ : ∃ c2, c2 = netI a (k : Int) := ⟨_, rfl⟩
      obtain ⟨c3, hc3⟩ : ∃ c3, c3 = netI a ((k : Int) + 1) := ⟨_, rfl⟩
      rw [← hc2] at k3 k4 hq kh1 kh2
      rw [← hc3] at k5 kh3 hK
      have K3 := Lib.hid k3
      have K4 := Lib.hid k4
      have KH1 := Lib.hid kh1
      have KH2 := Lib.hid kh2
      have KK := Lib.hid hK
      clear hc2 hc3 k3 k4 kh1 kh2 hK hE hA hB hck nc nd hz
      by_cases hlt : k < 32
      · rw [clampI_in (by omega) (by omega)] at k5
        have K5 := Lib.hid k5
        have hi : (k : Int) < 32 := by omega
        have hi2 : ((k : Int) == 32) = false := by simp; omega
        by_cases he : bitI a k = bitI b k
        · have hbb := (kbb (by omega))
          rw [← he] at hbb
          have KA := Lib.hid (kba (by omega))
          have KB := Lib.hid hbb
          have HE := Lib.hid he
          clear k5 kh3 he hbb kba kbb hq hi2
          go_wp2_with fail
          refine (KA.out).mono ?_
          rintro e w' ⟨rfl, rfl⟩
          go_wp2_with fail
          refine (KB.out).mono ?_
          rintro e w' ⟨rfl, rfl⟩
          go_wp2_with fail
          go_round
          case rel =>
            refine ⟨k + 1, by omega, by go_num, fun j hj => ?_⟩
            by_cases e : j = k
            · rw [e]; exact HE.out
            · exact HZ.out j (by omega)
          case measure => simp [intOf]; omega
        · have hx := KK.out hlt he
          rw [hx] at kh3
          have KH3 := Lib.hid kh3
          have hne : (bitI a k == bitI b k) = false := by simpa using he
          have KA := Lib.hid (kba (by omega))
          have KB := Lib.hid (kbb (by omega))
          clear k5 kh3 he hx kba kbb
          go_wp2_with fail
          refine (KA.out).mono ?_
          rintro e w' ⟨rfl, rfl⟩
          go_wp2_with fail
          refine (KB.out).mono ?_
          rintro e w' ⟨rfl, rfl⟩
          go_wp2_with fail
          refine (aid.keep_first (K3.out _)).mono ?_
          rintro e _ ⟨rfl, s5, rfl⟩
          have HB5 := Lib.hid (aid.kba (aid.kbk HB4.out s5) (.cells #[.int .u32 c2, .int .i64 k] 27))
          have g0 := aid.keep_cell (aid.new2a s5.world (.int .u32 c2) (.int .i64 k) 27)
          have g1 := aid.keep_cell (aid.new2b s5.world (.int .u32 c2) (.int .i64 k) 27)
          go_wp2_with fail
          refine aid.wp_region_keep (by kernel_rfl) (by kernel_rfl) ?_
          repeat (go_big_quiet_step ((first | (go_at_call 21; first | ((with_reducible exact aid.keep_call (KH1.out _))) | ((with_reducible exact aid.keep_call (KH2.out _))) | ((with_reducible exact aid.keep_call (KH3.out _)))) | (go_at_call 18; first | ((with_reducible exact aid.keep_call (K4.out _))) | ((with_reducible exact aid.keep_call (K5.out _)))))))
          refine wpQuiet_nil ?_
          rintro _ ⟨s6, rfl⟩
          go_wp2_with fail
          go_ret
          exact ⟨rfl, aid.kbk HB5.out s6⟩
      · obtain rfl : k = 32 := by omega
        clear kba kbb k5 kh3
        go_wp2_with fail
        refine (aid.keep_first (K3.out _)).mono ?_
        rintro e _ ⟨rfl, s5, rfl⟩
        have HB5 := Lib.hid (aid.kba (aid.kbk HB4.out s5) (.cells #[.int .u32 c2, .int .i64 32] 27))
        have g0 := aid.keep_cell (aid.new2a s5.world (.int .u32 c2) (.int .i64 32) 27)
        have g1 := aid.keep_cell (aid.new2b s5.world (.int .u32 c2) (.int .i64 32) 27)
        go_wp2_with fail
        refine aid.wp_region_keep (by kernel_rfl) (by kernel_rfl) ?_
        repeat (go_big_quiet_step ((first | (go_at_call 21; first | ((with_reducible exact aid.keep_call (KH1.out _))) | ((with_reducible exact aid.keep_call (KH2.out _)))) | (go_at_call 18; ((with_reducible exact aid.keep_call (K4.out _)))))))
        refine wpQuiet_nil ?_
        rintro _ ⟨s6, rfl⟩
        go_wp2_with fail
        go_ret
        exact ⟨rfl, aid.kbk HB5.out s6⟩

set_option maxRecDepth 100000 in
theorem lifted (os : Os) (started : os.Started) (H : Type) (enc : TypeId × Value → H) :
    ReturnsInHanded {} Try.checked os 9 .any (Rows.ipNestsSpec.pre6 enc Try.prog Try.f9 Rows.ipNestsRow.domain false) (Rows.ipNestsSpec.post enc Try.prog Try.f9 false true false false) := by
  refine returnsInHanded_of_change (C := Try.checked) own started (by kernel_rfl) Try.func9
    (ChangeSpec.witness6 (enc := enc) (C := Try.checked) false ⟨#[], #[.int .u32 0, .int .u32 0, .int .i64 0, .int .i64 0], []⟩ 8 (by kernel_rfl) (by kernel_rfl) (by kernel_rfl) (by kernel_rfl)) ?_
  intro W base args ds gs before hval0 hW hcnd _
  have hval : ∀ (j : Nat) t v, Try.f9.params[j]? = some t → args[j]? = some v → Value.okWide Try.prog W .any base t v := hval0
  obtain ⟨p, q, hA0, _⟩ := id hW
  have hA : DataW.TrodAll enc Try.prog W 0 (fun _ => true) true Try.f9.params.toList args.toList ds p := hA0
  rw [Try.params9] at hA hval
  obtain ⟨v0, vs0, d0, ds0, p0, q0, hargs, rfl, rfl, h0, r0⟩ := trodAll_cons hA
  obtain ⟨v1, vs1, d1, ds1, p1, q1, rfl, rfl, rfl, h1, r1⟩ := trodAll_cons r0
  obtain ⟨v2, vs2, d2, ds2, p2, q2, rfl, rfl, rfl, h2, r2⟩ := trodAll_cons r1
  obtain ⟨v3, vs3, d3, ds3, p3, q3, rfl, rfl, rfl, h3, r3⟩ := trodAll_cons r2
  obtain ⟨rfl, rfl, rfl⟩ := trodAll_nil r3
  obtain rfl : args = #[v0, v1, v2, v3] := by cases args; simp_all
  obtain ⟨a, rfl, ha⟩ := open_u32 Try.underlying23 (hval 0 _ v0 rfl rfl) h0
  obtain ⟨b, rfl, hb⟩ := open_u32 Try.underlying23 (hval 1 _ v1 rfl rfl) h1
  obtain ⟨n, rfl, hn⟩ := open_i64 Try.underlying3 (hval 2 _ v2 rfl rfl) h2
  obtain ⟨m, rfl, hm⟩ := open_i64 Try.underlying3 (hval 3 _ v3 rfl rfl) h3
  refine (walk a b n m W ha hb hn hm).mono fun e W' ⟨he, hb⟩ => ⟨_, he, ?_⟩
  exact law_post laidOut rfl (by kernel_rfl) Try.underlying4 (by kernel_rfl) (fun ds h => by match ds, h with | [_, _, _, _], _ => rfl) hW hb

theorem over : Rows.ipNestsRow.holds Try.pinned (OpenSpec.ofChange Rows.ipNestsSpec) :=
  OpenClaim.holds_of_wide 9 Try.f9 rfl rfl rfl rfl rfl rfl rfl ⟨rfl, rfl, rfl, rfl, rfl⟩ rfl rfl rfl rfl rfl (by kernel_rfl) Try.func9 (by kernel_rfl)
    (of_decide_eq_true (by kernel_rfl)) (by unfold Func.isWrapper; first | (rw [if_pos (by decide +kernel)]; kernel_rfl) | (rw [if_neg (by decide +kernel)]; exact ⟨rfl, rfl⟩))
    (fun os started H enc _ => lifted os started H enc)

theorem proved : Rows.IpNestsSaid := over
end Go.Proofs.Ytjpjgehhkjljfaa.lawNests
