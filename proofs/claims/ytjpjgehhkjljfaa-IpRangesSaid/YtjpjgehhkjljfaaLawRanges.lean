/- IpRanges: for any prefix, in its form or not, the law answers true. No condition. -/
import Derived.Test.YtjpjgehhkjljfaaFrame
import Derived.Test.YtjpjgehhkjljfaaIp2
import Derived.Test.YtjpjgehhkjljfaaMath4
import Derived.Test.YtjpjgehhkjljfaaAid
set_option linter.unusedVariables false
namespace Go.Proofs.Ytjpjgehhkjljfaa.lawRanges
open Go.ChangeShapes Go.WideShapes Go.ChangeAt Go.RowKit Go.Proofs.Ytjpjgehhkjljfaa.frame Go.Proofs.Ytjpjgehhkjljfaa.math1

/-- how many of a mask's first bits are 1 -/
theorem ones (n i : Nat) (hn : n ≤ 32) (hi : i < 32) : ((min i n : Nat) : Int) + bitI (maskI (n : Int)) i = ((min (i + 1) n : Nat) : Int) ∧ 0 ≤ bitI (maskI (n : Int)) i ∧ bitI (maskI (n : Int)) i ≤ 1 := by
  rw [mask_bit n i hn hi]
  split <;> omega

set_option maxRecDepth 100000 in
set_option maxHeartbeats 1000000 in
theorem walk_yes (a : Int) (n : Nat) (l s : Int) (w : World) (a0 : 0 ≤ a) (a1 : a < 4294967296) (hr : rightB a (n : Int) = true) (hn : n ≤ 32) (hl : lastI a n = l) (hs : s = sz n) (hls : l = a + (s - 1)) (s0 : 0 < s) (l1 : l < 4294967296)
    (h1 : hasB a n a = true) (h2 : hasB a n l = true) (h3 : a ≠ 0 → hasB a n (a - 1) = false) (h4 : l ≠ 4294967295 → hasB a n (l + 1) = false) :
    Calls Try.prog 10 #[.agg #[.int .u32 a, .int .i64 n]] w fun e w' => e = .returned (.bool true) ∧ Below w.heap.size w w' := by
  have kc := fun W => ip1.check_any a n W a0 a1
  simp only [hr, if_true] at kc
  have KC := Lib.hid kc
  have hmb := maskI_bd (n : Int)
  have kl := fun W => ip1.last_any a n W a0 a1
  rw [hl] at kl
  have KL := Lib.hid kl
  have kf := fun W => ip1.first_any a n W
  have KF := Lib.hid kf
  have kh1 := fun W => ip1.has_any a n a W a0 a1 a0 a1
  have kh2 := fun W => ip1.has_any a n l W a0 a1 (by omega) l1
  rw [h1] at kh1
  rw [h2] at kh2
  have KH1 := Lib.hid kh1
  have KH2 := Lib.hid kh2
  have H3 := Lib.hid h3
  have H4 := Lib.hid h4
  have HS := Lib.hid hs
  have HLS := Lib.hid hls
  have l0 : 0 ≤ l := by omega
  clear kc kl kf kh1 kh2 h1 h2 h3 h4 hl hr hs hls
  go_enter Try.func10, Try.ntmps10
  go_wp2_with fail
  refine (aid.keep_first (ip1.last_any _ _ _ (by omega) (by omega))).mono ?_
  rintro e _ ⟨rfl, s1, rfl⟩
  rw [show lastI 167772160 8 = 184549375 by decide]
  have f0 := aid.keep_cell (aid.new2a w (.int .u32 a) (.int .i64 n) 27)
  have f1 := aid.keep_cell (aid.new2b w (.int .u32 a) (.int .i64 n) 27)
  have HX := Lib.hid (aid.kba (Below.refl w.heap.size w) (.cells #[.int .u32 a, .int .i64 n] 27))
  go_wp2_with fail
  refine (aid.keep_call (KC.out _)).mono ?_
  rintro e _ ⟨rfl, s2, rfl⟩
  go_wp2_with fail
  go_loop [3, 4] (fun nv iv => ∃ i : Nat, i ≤ 32 ∧ iv = .int .i64 i ∧ nv = .int .i64 ((min i n : Nat) : Int)) (fun _ iv => 32 - (intOf iv).toNat)
  case atStart => exact ⟨0, by omega, rfl, by simp⟩
  case round =>
    obtain ⟨i, hi, rfl, rfl⟩ := hrel
    by_cases hlt : i < 32
    · have ho := ones n i hn hlt
      have kb := fun W => ip1.bit_any (maskI n) i W hmb.1 hmb.2 (by omega) (by omega)
      rw [Int.toNat_natCast] at kb
      obtain ⟨x, hx⟩ : ∃ x, x = bitI (maskI (n : Int)) i := ⟨_, rfl⟩
      obtain ⟨y, hy⟩ : ∃ y : Nat, y = min i n := ⟨_, rfl⟩
      rw [← hx] at ho kb
      rw [← hy] at ho ⊢
      have HO := Lib.hid ho.1
      have x0 := ho.2.1
      have x1 := ho.2.2
      have y1 : y ≤ 32 := by omega
      have KB := Lib.hid kb
      clear hx hy ho kb
      have kq := ip1.mask_any (n : Int)
      have KQ := Lib.hid kq
      clear kq
      go_wp2_with fail
      refine (KQ.out _).mono ?_
      rintro e w' ⟨rfl, rfl⟩
      go_wp2_with fail
      refine (KB.out _).mono ?_
      rintro e w' ⟨rfl, rfl⟩
      go_wp2_with fail
      go_round
      case rel => exact ⟨i + 1, by omega, by go_num, by rw [HO.out]⟩
      case measure => simp [intOf]; omega
    · obtain rfl : i = 32 := by omega
      rw [show min 32 n = n by omega]
      have g0 := fun s : aid.Keep s2.world => aid.keep_cell (f0 s2) s
      have g1 := fun s : aid.Keep s2.world => aid.keep_cell (f1 s2) s
      clear f0 f1
      go_wp2_with fail
      refine aid.wp_region_keep (by kernel_rfl) (by kernel_rfl) ?_
      repeat (go_big_quiet_step ((first | (go_at_call 28; exact aid.keep_call (KL.out _)) | (go_at_call 30; exact aid.keep_call (KF.out _)))))
      refine wpQuiet_nil ?_
      rintro _ ⟨s3, rfl⟩
      have hwr : IntKind.u64.wrap (IntKind.u64.wrap (l - a) + 1) = s := by
        have := HLS.out
        rw [show IntKind.u64.wrap (l - a) = l - a from IntWalk.u64_in _ (by omega), IntWalk.u64_in _ (by omega)]
        omega
      rw [hwr]
      clear hwr
      have f0 := fun t : aid.Keep s3.world => aid.keep_cell (g0 s3) t
      have f1 := fun t : aid.Keep s3.world => aid.keep_cell (g1 s3) t
      clear g0 g1
      have hn' : (n : Int) ≤ 32 := by omega
      have hn0 : (0 : Int) ≤ (n : Int) := by omega
      have hsh : IntKind.u64.wrap (2 ^ (32 - n)) = s := by
        have e := HS.out
        rw [sz_nat hn] at e
        have hp : 2 ^ (32 - n) ≤ 4294967296 := by
          have : 2 ^ (32 - n) ≤ 2 ^ 32 := Nat.pow_le_pow_right (by decide) (by omega)
          simpa using this
        have e2 : ((2 : Int) ^ (32 - n)) = ((2 ^ (32 - n) : Nat) : Int) := by simp
        rw [e2, IntWalk.u64_in _ (by omega)]
        exact e.symm
      go_wp2_with fail
      have kh3 := fun W => ip1.has_any a n (a - 1) W a0 a1
      have kh4 := fun W => ip1.has_any a n (l + 1) W a0 a1
      by_cases ca : a = 0
      · have ha0 : (a == 0) = true := by simpa using ca
        have KH3 := Lib.hid kh3
        by_cases cl : l = 4294967295
        · have hl0 : (l == 4294967295) = true := by simpa using cl
          have KH4 := Lib.hid kh4
          clear kh3 kh4 ca cl
          refine aid.wp_region_keep (by kernel_rfl) (by kernel_rfl) ?_
          repeat (go_big_quiet_step (((first | (go_at_call 28; exact aid.keep_call (KL.out _)) | (go_at_call 30; exact aid.keep_call (KF.out _)) | (go_at_call 21; first | ((with_reducible exact aid.keep_call (KH1.out _))) | ((with_reducible exact aid.keep_call (KH2.out _))) | ((with_reducible exact aid.keep_call (KH3.out _))) | ((with_reducible exact aid.keep_call (KH4.out _))))))))
          refine wpQuiet_nil ?_
          rintro _ ⟨s4, rfl⟩
          go_wp2_with fail
          go_ret
          exact ⟨rfl, aid.kbk (aid.kbk (aid.kbk HX.out s2) s3) s4⟩
        · have hl0 : (l == 4294967295) = false := by simpa using cl
          have hf := H4.out cl
          have kh4' := fun W => kh4 W (by omega) (by omega)
          rw [hf] at kh4'
          have KH4 := Lib.hid kh4'
          have hl2 : l + 1 < 4294967296 := by omega
          clear kh3 kh4 ca cl hf kh4'
          refine aid.wp_region_keep (by kernel_rfl) (by kernel_rfl) ?_
          repeat (go_big_quiet_step (((first | (go_at_call 28; exact aid.keep_call (KL.out _)) | (go_at_call 30; exact aid.keep_call (KF.out _)) | (go_at_call 21; first | ((with_reducible exact aid.keep_call (KH1.out _))) | ((with_reducible exact aid.keep_call (KH2.out _))) | ((with_reducible exact aid.keep_call (KH3.out _))) | ((with_reducible exact aid.keep_call (KH4.out _))))))))
          refine wpQuiet_nil ?_
          rintro _ ⟨s4, rfl⟩
          go_wp2_with fail
          go_ret
          exact ⟨rfl, aid.kbk (aid.kbk (aid.kbk HX.out s2) s3) s4⟩
      · have ha0 : (a == 0) = false := by simpa using ca
        have hf := H3.out ca
        have kh3' := fun W => kh3 W (by omega) (by omega)
        rw [hf] at kh3'
        have KH3 := Lib.hid kh3'
        have ha2 : 0 ≤ a - 1 := by omega
        by_cases cl : l = 4294967295
        · have hl0 : (l == 4294967295) = true := by simpa using cl
          have KH4 := Lib.hid kh4
          clear kh3 kh4 ca cl hf kh3'
          refine aid.wp_region_keep (by kernel_rfl) (by kernel_rfl) ?_
          repeat (go_big_quiet_step (((first | (go_at_call 28; exact aid.keep_call (KL.out _)) | (go_at_call 30; exact aid.keep_call (KF.out _)) | (go_at_call 21; first | ((with_reducible exact aid.keep_call (KH1.out _))) | ((with_reducible exact aid.keep_call (KH2.out _))) | ((with_reducible exact aid.keep_call (KH3.out _))) | ((with_reducible exact aid.keep_call (KH4.out _))))))))
          refine wpQuiet_nil ?_
          rintro _ ⟨s4, rfl⟩
          go_wp2_with fail
          go_ret
          exact ⟨rfl, aid.kbk (aid.kbk (aid.kbk HX.out s2) s3) s4⟩
        · have hl0 : (l == 4294967295) = false := by simpa using cl
          have hf2 := H4.out cl
          have kh4' := fun W => kh4 W (by omega) (by omega)
          rw [hf2] at kh4'
          have KH4 := Lib.hid kh4'
          have hl2 : l + 1 < 4294967296 := by omega
          clear kh3 kh4 ca cl hf kh3' hf2 kh4'
          refine aid.wp_region_keep (by kernel_rfl) (by kernel_rfl) ?_
          repeat (go_big_quiet_step (((first | (go_at_call 28; exact aid.keep_call (KL.out _)) | (go_at_call 30; exact aid.keep_call (KF.out _)) | (go_at_call 21; first | ((with_reducible exact aid.keep_call (KH1.out _))) | ((with_reducible exact aid.keep_call (KH2.out _))) | ((with_reducible exact aid.keep_call (KH3.out _))) | ((with_reducible exact aid.keep_call (KH4.out _))))))))
          refine wpQuiet_nil ?_
          rintro _ ⟨s4, rfl⟩
          go_wp2_with fail
          go_ret
          exact ⟨rfl, aid.kbk (aid.kbk (aid.kbk HX.out s2) s3) s4⟩

theorem walk (a n : Int) (w : World) (ha : U32 a) (hn : I64 n) :
    Calls Try.prog 10 #[.agg #[.int .u32 a, .int .i64 n]] w fun e w' => e = .returned (.bool true) ∧ Below w.heap.size w w' := by
  obtain ⟨a0, a1⟩ := ha
  cases hr : rightB a n
  · have kc := fun W => ip1.check_any a n W a0 a1
    simp only [hr, Bool.false_eq_true, if_false] at kc
    have KC := Lib.hid kc
    clear kc hr hn
    go_enter Try.func10, Try.ntmps10
    go_wp2_with fail
    refine (aid.keep_first (ip1.last_any _ _ _ (by omega) (by omega))).mono ?_
    rintro e _ ⟨rfl, s1, rfl⟩
    rw [show lastI 167772160 8 = 184549375 by decide]
    have f0 := aid.keep_cell (aid.new2a w (.int .u32 a) (.int .i64 n) 27)
    have f1 := aid.keep_cell (aid.new2b w (.int .u32 a) (.int .i64 n) 27)
    have HX := Lib.hid (aid.kba (Below.refl w.heap.size w) (.cells #[.int .u32 a, .int .i64 n] 27))
    go_wp2_with fail
    refine (aid.keep_call (KC.out _)).mono ?_
    rintro e _ ⟨rfl, s2, rfl⟩
    go_wp2_with fail
    go_ret
    exact ⟨rfl, aid.kbk HX.out s2⟩
  · obtain ⟨h1, h2, h3⟩ := rightB_iff.1 hr
    obtain ⟨k, rfl⟩ := Int.eq_ofNat_of_zero_le h1
    have hl := last_right hr
    have hp := sz_pos (k : Int)
    have hbits := last_bits a k a0 a1
    have hlt : lastI a k < 4294967296 := by
      rw [← hbits]
      have hm := maskI_bd (k : Int)
      have hx : ∀ x y : Int, bits .or .u32 x y < 4294967296 := fun x y => by
        have : bits .or .u32 x y = IntKind.u32.wrap ((BitVec.ofInt 32 x ||| BitVec.ofInt 32 y).toNat : Int) := rfl
        rw [this, IntKind.wrap_u32]
        omega
      exact hx _ _
    refine walk_yes a k (lastI a k) (sz k) w a0 a1 hr (by omega) rfl rfl hl hp hlt ((has_range hr).2 (by omega)) ((has_range hr).2 (by omega)) (fun _ => has_false hr (by omega)) (fun _ => has_false hr (by omega))

set_option maxRecDepth 100000 in
theorem lifted (os : Os) (started : os.Started) (H : Type) (enc : TypeId × Value → H) :
    ReturnsInHanded {} Try.checked os 10 .any (Rows.ipRangesSpec.pre6 enc Try.prog Try.f10 Rows.ipRangesRow.domain false) (Rows.ipRangesSpec.post enc Try.prog Try.f10 false true false false) := by
  refine returnsInHanded_of_change (C := Try.checked) own started (by kernel_rfl) Try.func10
    (ChangeSpec.witness6 (enc := enc) (C := Try.checked) false ⟨#[], #[.agg #[.int .u32 0, .int .i64 0]], []⟩ 8 (by kernel_rfl) (by kernel_rfl) (by kernel_rfl) (by kernel_rfl)) ?_
  intro W base args ds gs before hval0 hW hcnd _
  have hval : ∀ (j : Nat) t v, Try.f10.params[j]? = some t → args[j]? = some v → Value.okWide Try.prog W .any base t v := hval0
  obtain ⟨p, q, hA0, _⟩ := id hW
  have hA : DataW.TrodAll enc Try.prog W 0 (fun _ => true) true Try.f10.params.toList args.toList ds p := hA0
  rw [Try.params10] at hA hval
  obtain ⟨v0, vs0, d0, ds0, p0, q0, hargs, rfl, rfl, h0, r0⟩ := trodAll_cons hA
  obtain ⟨rfl, rfl, rfl⟩ := trodAll_nil r0
  obtain rfl : args = #[v0] := by cases args; simp_all
  obtain ⟨a, n, rfl, ha, hn⟩ := open_pfx (hval 0 _ v0 rfl rfl) h0
  refine (walk a n W ha hn).mono fun e W' ⟨he, hb⟩ => ⟨_, he, ?_⟩
  exact law_post laidOut rfl (by kernel_rfl) Try.underlying4 (by kernel_rfl) (fun ds h => by match ds, h with | [_], _ => rfl) hW hb

theorem over : Rows.ipRangesRow.holds Try.pinned (OpenSpec.ofChange Rows.ipRangesSpec) :=
  OpenClaim.holds_of_wide 10 Try.f10 rfl rfl rfl rfl rfl rfl rfl ⟨rfl, rfl, rfl, rfl, rfl⟩ rfl rfl rfl rfl rfl (by kernel_rfl) Try.func10 (by kernel_rfl)
    (of_decide_eq_true (by kernel_rfl)) (by unfold Func.isWrapper; first | (rw [if_pos (by decide +kernel)]; kernel_rfl) | (rw [if_neg (by decide +kernel)]; exact ⟨rfl, rfl⟩))
    (fun os started H enc _ => lifted os started H enc)

theorem proved : Rows.IpRangesSaid := over
end Go.Proofs.Ytjpjgehhkjljfaa.lawRanges
