/- ClockRoom: for any int the law answers true: 256 names are due at once, and no more; a nil clock has nothing. No condition. -/
import Derived.Test.YthcbhehdilaejaaLawClockLate
set_option linter.unusedVariables false
set_option linter.unusedSimpArgs false
namespace Go.Proofs.Ythcbhehdilaejaa.lawClockRoom
open Go.ChangeShapes Go.WideShapes Go.ChangeAt Go.RowKit Go.Lib Go.Shelf Go.Proofs.Ythcbhehdilaejaa.frame Go.Proofs.Ythcbhehdilaejaa.ckmath Go.Proofs.Ythcbhehdilaejaa.ck Go.Proofs.Ythcbhehdilaejaa.lawClockLate

def upTo : Nat → List E
  | 0 => []
  | k + 1 => ((k : Int), (k : Int)) :: upTo k
theorem upTo_len : ∀ k, (upTo k).length = k
  | 0 => rfl
  | k + 1 => by rw [upTo, List.length_cons, upTo_len k]
theorem upTo_lt : ∀ k x, x ∈ upTo k → 0 ≤ x.2 ∧ x.2 < (k : Int)
  | 0, x, h => by cases h
  | k + 1, x, h => by
    rcases List.mem_cons.1 h with rfl | h
    · dsimp only; omega
    · have := upTo_lt k x h; omega
theorem upTo_has : ∀ k n : Nat, n < k → ∃ M, (upTo k).Perm (((n : Int), (n : Int)) :: M)
  | k + 1, n, h => by
    by_cases e : n = k
    · subst e; exact ⟨upTo n, List.Perm.refl _⟩
    · obtain ⟨M, p⟩ := upTo_has k n (by omega)
      exact ⟨((k : Int), (k : Int)) :: M, (p.cons _).trans (List.Perm.swap _ _ _)⟩

section
set_option maxRecDepth 100000
theorem nil_when (n : Int) (w : World) : Calls Try.prog 11 #[.pointer none, .int .i64 n] w fun e w' => e = .returned (.tuple #[.int .i64 0, .bool false]) ∧ w = w' := by
  go_enter Try.func11, Try.ntmps11
  go_wp2_with fail
  exact bodyPost_ret (v := .tuple #[.int .i64 0, .bool false]) (by simp [results, Try.results11, go_sem]) rfl ⟨rfl, rfl⟩
theorem nil_next (n : Int) (w : World) : Calls Try.prog 12 #[.pointer none, .int .i64 n] w fun e w' => e = .returned (.tuple #[.int .i64 0, .bool false]) ∧ w = w' := by
  go_enter Try.func12, Try.ntmps12
  go_wp2_with fail
  exact bodyPost_ret (v := .tuple #[.int .i64 0, .bool false]) (by simp [results, Try.results12, go_sem]) rfl ⟨rfl, rfl⟩
theorem nil_set (n t : Int) (w : World) : Calls Try.prog 9 #[.pointer none, .int .i64 n, .int .i64 t] w fun e w' => e = .returned (.int .i64 1) ∧ w = w' := by
  go_enter Try.func9, Try.ntmps9
  go_wp2_with fail
  go_ret
  exact ⟨rfl, rfl⟩
theorem nil_stop (n : Int) (w : World) : Calls Try.prog 10 #[.pointer none, .int .i64 n] w fun e w' => e = .returned (.bool false) ∧ w = w' := by
  go_enter Try.func10, Try.ntmps10
  go_wp2_with fail
  go_ret
  exact ⟨rfl, rfl⟩
theorem nil_now (w : World) : Calls Try.prog 13 #[.pointer none] w fun e w' => e = .returned (.int .i64 0) ∧ w = w' := by
  go_enter Try.func13, Try.ntmps13
  go_wp2_with fail
  go_ret
  exact ⟨rfl, rfl⟩
theorem nil_len (w : World) : Calls Try.prog 14 #[.pointer none] w fun e w' => e = .returned (.int .i64 0) ∧ w = w' := by
  go_enter Try.func14, Try.ntmps14
  go_wp2_with fail
  go_ret
  exact ⟨rfl, rfl⟩
end

set_option maxRecDepth 100000 in
set_option maxHeartbeats 2000000 in
theorem walk (n : Int) (w : World) (hn : I64 n) : Calls Try.prog 5 #[.int .i64 n] w fun e w' => e = .returned (.bool true) ∧ Below w.heap.size w w' := by
  have e1 := and_255 n
  obtain ⟨m, hm, hmn⟩ : ∃ m : Nat, n % 256 = (m : Int) ∧ m < 256 := ⟨(n % 256).toNat, by omega, by omega⟩
  rw [hm] at e1
  obtain ⟨M, hM⟩ := upTo_has 256 m hmn
  have HM := Lib.hid hM
  have KH := Lib.hid (head_true w)
  clear hm hn hM
  go_enter Try.func5, Try.ntmps5
  go_wp2_with fail
  refine KH.out.mono ?_
  rintro e w1 ⟨rfl, b1⟩
  have B1 := Lib.hid b1
  have K0 := Lib.hid (new_any w1.heap.size w1 (Nat.le_refl _))
  clear b1 KH
  go_wp2_with fail
  refine K0.out.mono ?_
  rintro e w2 ⟨rfl, c2, b2⟩
  have C2 := Lib.hid c2
  have FIN : Hid (∀ W v', Tr w2 w1.heap.size (.slice none 0 0) W v' → Below w.heap.size w W) := Lib.hid fun W v' t => (aid.kb b2 B1.out).trans ((ck_below t c2 b2.size).mono B1.out.size)
  clear b2 c2 K0
  go_wp2_with fail
  go_loopw [4] (fun s4 wr => ∃ (i : Nat) (v' : Value), i ≤ 256 ∧ s4 = .int .i64 i ∧ Hid (Ck wr w1.heap.size w1.heap.size v' 0 (upTo i)) ∧ Hid (Tr w2 w1.heap.size (.slice none 0 0) wr v')) (fun s4 _ => 256 - (intOf s4).toNat)
  case atStart => exact ⟨0, _, by omega, rfl, C2, Lib.hid (Tr.refl _ _ _)⟩
  case round =>
    obtain ⟨i, v', hi, rfl, C, T⟩ := hrel
    by_cases hlt : i < 256
    · have hlt2 : (i : Int) < 256 := by omega
      have K1 := Lib.hid (set_new C.out (name := (i : Int)) (fun x hx e => by have := upTo_lt i x hx; omega) (by rw [upTo_len]; exact hlt) (i : Int) (by omega) (by omega))
      go_wp2_with fail
      refine K1.out.mono ?_
      rintro e w3 ⟨rfl, v3, c3, t3⟩
      have C3 := Lib.hid (show Ck w3 w1.heap.size w1.heap.size v3 0 (upTo (i + 1)) from c3)
      have T3 := Lib.hid (T.out.trans t3)
      clear c3 t3 K1
      go_wp2_with fail
      go_roundw
      case rel => exact ⟨i + 1, v3, by omega, by go_num, C3, T3⟩
      case measure => simp [intOf]; omega
    · obtain rfl : i = 256 := by omega
      have K1 := Lib.hid (fun W => nil_when 1 W)
      have K2 := Lib.hid (fun W => nil_next 5 W)
      have K3 := Lib.hid (fun W => nil_set 1 1 W)
      have K4 := Lib.hid (fun W => nil_stop 1 W)
      have K5 := Lib.hid (fun W => nil_now W)
      have K6 := Lib.hid (fun W => nil_len W)
      go_wp2_with fail
      refine (K1.out _).mono ?_
      rintro e w3 ⟨rfl, rfl⟩
      go_wp2_with fail
      refine (K2.out _).mono ?_
      rintro e w3 ⟨rfl, rfl⟩
      go_wp2_with fail
      refine (K3.out _).mono ?_
      rintro e w3 ⟨rfl, rfl⟩
      go_wp2_with fail
      refine (K4.out _).mono ?_
      rintro e w3 ⟨rfl, rfl⟩
      go_wp2_with fail
      refine (K5.out _).mono ?_
      rintro e w3 ⟨rfl, rfl⟩
      go_wp2_with fail
      refine (K6.out _).mono ?_
      rintro e w3 ⟨rfl, rfl⟩
      have K7 := Lib.hid (set_many C.out (name := 999) (fun x hx e => by have := upTo_lt 256 x hx; omega) (upTo_len 256) 1 (by decide) (by decide))
      clear K1 K2 K3 K4 K5 K6
      go_wp2_with fail
      refine K7.out.mono ?_
      rintro e w4 ⟨rfl, b4⟩
      have C4 := Lib.hid ((C.out.below b4).perm HM.out)
      have T4 := Lib.hid (T.out.then b4)
      have K8 := Lib.hid (set_old C4.out 7 (by decide) (by decide))
      clear b4 K7
      go_wp2_with fail
      refine K8.out.mono ?_
      rintro e w5 ⟨rfl, c5, t5⟩
      have C5 := Lib.hid c5
      have T5 := Lib.hid (T4.out.trans t5)
      have K9 := Lib.hid (stop_yes c5)
      have ND := Lib.hid (show ∀ x ∈ M, x.2 ≠ (m : Int) from fun x hx e => by
        have := c5.nd
        simp only [List.map_cons, List.nodup_cons] at this
        exact this.1 (List.mem_map.2 ⟨x, hx, e⟩))
      have LE := Lib.hid (show M.length < 256 from by
        have := c5.le
        simp at this; omega)
      have BIG := Lib.hid (show ∀ x ∈ M, x.2 ≠ 999 from fun x hx e => by
        have := upTo_lt 256 x (HM.out.mem_iff.2 (List.mem_cons_of_mem _ hx)); omega)
      clear c5 t5 K8
      go_wp2_with fail
      refine K9.out.mono ?_
      rintro e w6 ⟨rfl, v6, c6, t6⟩
      have T6 := Lib.hid (T5.out.trans t6)
      have C6 := Lib.hid c6
      have K10 := Lib.hid (stop_no c6 ND.out)
      clear c6 t6 K9
      go_wp2_with fail
      refine K10.out.mono ?_
      rintro e w7 ⟨rfl, b7⟩
      have T7 := Lib.hid (T6.out.then b7)
      have K11 := Lib.hid (set_new (C6.out.below b7) BIG.out LE.out 1 (by decide) (by decide))
      clear b7 K10
      go_wp2_with fail
      refine K11.out.mono ?_
      rintro e w8 ⟨rfl, v8, c8, t8⟩
      have BF := Lib.hid (FIN.out _ _ (T7.out.trans t8))
      clear c8 t8 K11
      go_wp2_with fail
      go_ret
      exact ⟨rfl, BF.out⟩

set_option maxRecDepth 100000 in
theorem lifted (os : Os) (started : os.Started) (H : Type) (enc : TypeId × Value → H) :
    ReturnsInHanded {} Try.checked os 5 .any (Rows.clockRoomSpec.pre6 enc Try.prog Try.f5 Rows.clockRoomRow.domain false) (Rows.clockRoomSpec.post enc Try.prog Try.f5 false true false false) := by
  refine returnsInHanded_of_change (C := Try.checked) own started (by kernel_rfl) Try.func5
    (ChangeSpec.witness6 (enc := enc) (C := Try.checked) false ⟨#[], #[.int .i64 0], []⟩ 8 (by kernel_rfl) (by kernel_rfl) (by kernel_rfl) (by kernel_rfl)) ?_
  intro W base args ds gs before hval0 hW hcnd _
  have hval : ∀ (j : Nat) t v, Try.f5.params[j]? = some t → args[j]? = some v → Value.okWide Try.prog W .any base t v := hval0
  obtain ⟨p, q, hA0, _⟩ := id hW
  have hA : DataW.TrodAll enc Try.prog W 0 (fun _ => true) true Try.f5.params.toList args.toList ds p := hA0
  rw [Try.params5] at hA hval
  obtain ⟨v0, vs0, d0, ds0, p0, q0, hargs, rfl, rfl, h0, r0⟩ := trodAll_cons hA
  obtain ⟨rfl, rfl, rfl⟩ := trodAll_nil r0
  obtain rfl : args = #[v0] := by cases args; simp_all
  obtain ⟨n, rfl, hn⟩ := open_i64 Try.underlying3 (hval 0 _ v0 rfl rfl) h0
  refine (walk n W hn).mono fun e W' ⟨he, hb⟩ => ⟨_, he, ?_⟩
  exact law_post laidOut rfl (by kernel_rfl) Try.underlying4 (by kernel_rfl) (fun ds h => by match ds, h with | [_], _ => rfl) hW hb

theorem over : Rows.clockRoomRow.holds Try.pinned (OpenSpec.ofChange Rows.clockRoomSpec) :=
  OpenClaim.holds_of_wide 5 Try.f5 rfl rfl rfl rfl rfl rfl rfl ⟨rfl, rfl, rfl, rfl, rfl⟩ rfl rfl rfl rfl rfl (by kernel_rfl) Try.func5 (by kernel_rfl)
    (of_decide_eq_true (by kernel_rfl)) (by unfold Func.isWrapper; first | (rw [if_pos (by decide +kernel)]; kernel_rfl) | (rw [if_neg (by decide +kernel)]; exact ⟨rfl, rfl⟩))
    (fun os started H enc _ => lifted os started H enc)

theorem proved : Rows.ClockRoomSaid := over
end Go.Proofs.Ythcbhehdilaejaa.lawClockRoom
