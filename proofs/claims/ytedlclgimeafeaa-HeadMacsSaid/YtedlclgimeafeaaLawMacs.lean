/- HeadMacs: for every address and every number the law answers true. No condition. -/
import Derived.Test.YtedlclgimeafeaaHOpen
import Derived.Test.YtedlclgimeafeaaHMac
import Derived.Test.YtedlclgimeafeaaAid
set_option linter.unusedVariables false
namespace Go.Proofs.Ytedlclgimeafeaa.lawMacs
open Go.ChangeShapes Go.WideShapes Go.ChangeAt Go.RowKit Go.Proofs.Ytedlclgimeafeaa.frame Go.Proofs.Ytedlclgimeafeaa.hmath

theorem wrap_id {n : Int} (h0 : 0 ≤ n) (h1 : n < 18446744073709551616) : IntKind.u64.wrap n = n := by rw [IntKind.wrap_u64, Int.emod_eq_of_lt h0 h1]

set_option maxRecDepth 100000 in
set_option maxHeartbeats 2000000 in
theorem walk (m : Mac) (n : Int) (w : World) (hm : m.ok) (hn : hmath.U64 n) :
    Calls Try.prog 9 #[m.val, .int .u64 n] w fun e w' => e = .returned (.bool true) ∧ Below w.heap.size w w' := by
  obtain ⟨n0, n1⟩ := hn
  have b258 : ofI 258 = ⟨0, 0, 0, 0, 1, 2⟩ := rfl
  have hm258 : Mac.ok ⟨0, 0, 0, 0, 1, 2⟩ := by constructor <;> (constructor <;> decide)
  obtain ⟨M0, M1⟩ := macI_bd hm
  have K1 := Lib.hid (fun w => hmac.of_any 258 (by decide) (by decide) w)
  have K2 := Lib.hid (fun w => hmac.num_any _ hm258 w)
  rw [b258] at K1
  simp only [Mac.val, show macI ⟨0, 0, 0, 0, 1, 2⟩ = 258 by decide] at K1 K2
  have K3 := Lib.hid (fun w => hmac.num_any m hm w)
  have K4 := Lib.hid (fun w => hmac.of_any (macI m) M0 (by omega) w)
  have K5 := Lib.hid (fun w => hmac.of_any n n0 n1 w)
  have K6 := Lib.hid (fun w => hmac.num_any (ofI n) (ofI_ok n) w)
  rw [of_mac hm] at K4
  rw [mac_of_any n0] at K6
  have q1 := hmac.neq_mac 0 0 0 0 1 2
  have q2 := hmac.eql_mac m.a0 m.a1 m.a2 m.a3 m.a4 m.a5
  have hmI : macI m = ((((m.a0 * 256 + m.a1) * 256 + m.a2) * 256 + m.a3) * 256 + m.a4) * 256 + m.a5 := rfl
  obtain ⟨x, hx⟩ : ∃ x, x = macI m := ⟨_, rfl⟩
  rw [← hx] at hmI K3 K4 M0 M1
  clear hx
  obtain ⟨o, ho⟩ : ∃ o, o = ofI n := ⟨_, rfl⟩
  rw [← ho] at K5 K6
  clear ho
  obtain ⟨⟨p0, r0⟩, ⟨p1, r1⟩, ⟨p2, r2⟩, ⟨p3, r3⟩, ⟨p4, r4⟩, ⟨p5, r5⟩⟩ := hm
  obtain ⟨a0, a1, a2, a3, a4, a5⟩ := m
  dsimp only at *
  simp only [Mac.val] at K3 K4 K5 K6 ⊢
  have i0 : ∀ w, (Instr.index 64 (.agg #[.int .u8 a0, .int .u8 a1, .int .u8 a2, .int .u8 a3, .int .u8 a4, .int .u8 a5]) (.int .i64 0)).run Try.prog w = .ok (.int .u8 a0) w := fun _ => by kernel_rfl
  have i1 : ∀ w, (Instr.index 64 (.agg #[.int .u8 a0, .int .u8 a1, .int .u8 a2, .int .u8 a3, .int .u8 a4, .int .u8 a5]) (.int .i64 1)).run Try.prog w = .ok (.int .u8 a1) w := fun _ => by kernel_rfl
  have i2 : ∀ w, (Instr.index 64 (.agg #[.int .u8 a0, .int .u8 a1, .int .u8 a2, .int .u8 a3, .int .u8 a4, .int .u8 a5]) (.int .i64 2)).run Try.prog w = .ok (.int .u8 a2) w := fun _ => by kernel_rfl
  have i3 : ∀ w, (Instr.index 64 (.agg #[.int .u8 a0, .int .u8 a1, .int .u8 a2, .int .u8 a3, .int .u8 a4, .int .u8 a5]) (.int .i64 3)).run Try.prog w = .ok (.int .u8 a3) w := fun _ => by kernel_rfl
  have i4 : ∀ w, (Instr.index 64 (.agg #[.int .u8 a0, .int .u8 a1, .int .u8 a2, .int .u8 a3, .int .u8 a4, .int .u8 a5]) (.int .i64 4)).run Try.prog w = .ok (.int .u8 a4) w := fun _ => by kernel_rfl
  have i5 : ∀ w, (Instr.index 64 (.agg #[.int .u8 a0, .int .u8 a1, .int .u8 a2, .int .u8 a3, .int .u8 a4, .int .u8 a5]) (.int .i64 5)).run Try.prog w = .ok (.int .u8 a5) w := fun _ => by kernel_rfl
  have hmX := Lib.hid hmI
  clear hmI
  have B0 := Lib.hid ((Below.refl w.heap.size w).alloc (Nat.le_refl _) (.cells #[.int .u8 a0, .int .u8 a1, .int .u8 a2, .int .u8 a3, .int .u8 a4, .int .u8 a5] 64))
  have cells : ∀ j v, [Value.int .u8 a0, .int .u8 a1, .int .u8 a2, .int .u8 a3, .int .u8 a4, .int .u8 a5][j]? = some v → (w.alloc (.cells #[.int .u8 a0, .int .u8 a1, .int .u8 a2, .int .u8 a3, .int .u8 a4, .int .u8 a5] 64)).cell? ⟨w.heap.size, j, none⟩ = some v := by
    intro j v hj
    go_simp
  have hs0 : (w.alloc (.cells #[.int .u8 a0, .int .u8 a1, .int .u8 a2, .int .u8 a3, .int .u8 a4, .int .u8 a5] 64)).heap.size = w.heap.size + 1 := by simp
  go_enter Try.func9, Try.ntmps9
  go_wp2_with fail
  refine (K1.out _).mono ?_
  rintro e w1 ⟨rfl, hb1⟩
  have B1 := Lib.hid ((B0.out).trans (hb1.mono (by omega)))
  have C1 := Lib.hid (fun j v hj => aid.kc hb1 (cells j v hj))
  clear hb1 cells B0 hs0
  go_wp2_with fail
  refine (K2.out _).mono ?_
  rintro e w2 ⟨rfl, hb2⟩
  have B2 := Lib.hid (aid.bnext B1.out hb2 B1.out.size)
  have c0 := aid.kc hb2 (C1.out 0 _ rfl)
  have c1 := aid.kc hb2 (C1.out 1 _ rfl)
  have c2 := aid.kc hb2 (C1.out 2 _ rfl)
  have c3 := aid.kc hb2 (C1.out 3 _ rfl)
  have c4 := aid.kc hb2 (C1.out 4 _ rfl)
  have c5 := aid.kc hb2 (C1.out 5 _ rfl)
  clear hb2 C1 B1
  go_wp2_with fail
  go_rounds 7
  rw [← hmX.out]
  have k0 := fun s : aid.Keep w2 => aid.keep_cell c0 s
  have k1 := fun s : aid.Keep w2 => aid.keep_cell c1 s
  have k2 := fun s : aid.Keep w2 => aid.keep_cell c2 s
  have k3 := fun s : aid.Keep w2 => aid.keep_cell c3 s
  have k4 := fun s : aid.Keep w2 => aid.keep_cell c4 s
  have k5 := fun s : aid.Keep w2 => aid.keep_cell c5 s
  clear c0 c1 c2 c3 c4 c5 i0 i1 i2 i3 i4 i5 q1 K1 K2 b258 hm258
  refine aid.wp_region_keep (by kernel_rfl) (by kernel_rfl) ?_
  repeat (go_big_quiet_step (((first | (go_at_call 32; first | ((with_reducible exact aid.keep_call (K3.out _))) | ((with_reducible exact aid.keep_call (K6.out _)))) | (go_at_call 31; first | ((with_reducible exact aid.keep_call (K4.out _))) | ((with_reducible exact aid.keep_call (K5.out _))))))))
  refine wpQuiet_nil ?_
  rintro _ ⟨s, rfl⟩
  go_wp2_with fail
  go_ret
  exact ⟨rfl, aid.kbk B2.out s⟩

set_option maxRecDepth 100000 in
theorem lifted (os : Os) (started : os.Started) (H : Type) (enc : TypeId × Value → H) :
    ReturnsInHanded {} Try.checked os 9 .any (Rows.headMacsSpec.pre6 enc Try.prog Try.f9 Rows.headMacsRow.domain false) (Rows.headMacsSpec.post enc Try.prog Try.f9 false true false false) := by
  refine returnsInHanded_of_change (C := Try.checked) own started (by kernel_rfl) Try.func9
    (ChangeSpec.witness6 (enc := enc) (C := Try.checked) false ⟨#[], #[.agg #[.int .u8 0, .int .u8 0, .int .u8 0, .int .u8 0, .int .u8 0, .int .u8 0], .int .u64 0], []⟩ 8 (by kernel_rfl) (by kernel_rfl) (by kernel_rfl) (by kernel_rfl)) ?_
  intro W base args ds gs before hval0 hW hcnd _
  have hval : ∀ (j : Nat) t v, Try.f9.params[j]? = some t → args[j]? = some v → Value.okWide Try.prog W .any base t v := hval0
  obtain ⟨p, q, hA0, _⟩ := id hW
  have hA : DataW.TrodAll enc Try.prog W 0 (fun _ => true) true Try.f9.params.toList args.toList ds p := hA0
  rw [Try.params9] at hA hval
  obtain ⟨v0, vs0, d0, ds0, p0, q0, hargs, rfl, rfl, h0, r0⟩ := trodAll_cons hA
  obtain ⟨v1, vs1, d1, ds1, p1, q1, rfl, rfl, rfl, h1, r1⟩ := trodAll_cons r0
  obtain ⟨rfl, rfl, rfl⟩ := trodAll_nil r1
  obtain rfl : args = #[v0, v1] := by cases args; simp_all
  obtain ⟨m, rfl, hm⟩ := hopen.open_mac (hval 0 _ v0 rfl rfl) h0
  obtain ⟨n, rfl, hn⟩ := hopen.open_u64 Try.underlying65 (hval 1 _ v1 rfl rfl) h1
  refine (walk m n W hm hn).mono fun e W' ⟨he, hb⟩ => ⟨_, he, ?_⟩
  exact law_post laidOut rfl (by kernel_rfl) Try.underlying4 (by kernel_rfl) (fun ds h => by match ds, h with | [_, _], _ => rfl) hW hb

theorem over : Rows.headMacsRow.holds Try.pinned (OpenSpec.ofChange Rows.headMacsSpec) :=
  OpenClaim.holds_of_wide 9 Try.f9 rfl rfl rfl rfl rfl rfl rfl ⟨rfl, rfl, rfl, rfl, rfl⟩ rfl rfl rfl rfl rfl (by kernel_rfl) Try.func9 (by kernel_rfl)
    (of_decide_eq_true (by kernel_rfl)) (by unfold Func.isWrapper; first | (rw [if_pos (by decide +kernel)]; kernel_rfl) | (rw [if_neg (by decide +kernel)]; exact ⟨rfl, rfl⟩))
    (fun os started H enc _ => lifted os started H enc)

theorem proved : Rows.HeadMacsSaid := over
end Go.Proofs.Ytedlclgimeafeaa.lawMacs
