import Derived.Test.YthcbhehdilaejaaCkUp
/- container/heap's down, at a clock's entries. -/
set_option linter.unusedVariables false
set_option linter.unusedSimpArgs false
namespace Go.Proofs.Ythcbhehdilaejaa.ck
open Go.RowKit Go.Lib Go.Proofs.Ythcbhehdilaejaa.ckmath

structure Dn (w : World) (B c : Nat) (v : Value) (now : Int) (l : Array E) (n i0 : Nat) (b : Bool) (w' : World) (l' : Array E) : Prop where
  hp : Hp w' B c v now l'
  tr : Tr w c v w' v
  perm : l'.toList.Perm l.toList
  size : l'.size = l.size
  tail : ∀ k, n ≤ k → k < l.size → l'[k]! = l[k]!
  yes : b = true → Heap l' n
  no : b = false → UpI l' n i0
/-- where the walk is -/
structure DnR (w : World) (B c : Nat) (v : Value) (now : Int) (l : Array E) (n i0 : Nat) (wr : World) (i : Nat) (lk : Array E) : Prop where
  hp : Hp wr B c v now lk
  tr : Tr w c v wr v
  perm : lk.toList.Perm l.toList
  size : lk.size = l.size
  tail : ∀ k, n ≤ k → k < l.size → lk[k]! = l[k]!
  inv : DnI lk n i (decide (i0 < i))
  ge : i0 ≤ i
  le : i ≤ 1000
theorem DnR.stop {w wr : World} {B c : Nat} {v : Value} {now : Int} {l lk : Array E} {n i0 i : Nat} (h : DnR w B c v now l n i0 wr i lk) (hc : ∀ k, 0 < k → k < n → par k = i → ltE lk[k]! lk[i]! = false) : Dn w B c v now l n i0 (decide (i0 < i)) wr lk := by
  have s := h.inv.stop hc
  refine ⟨h.hp, h.tr, h.perm, h.size, h.tail, s.1, fun hb => ?_⟩
  have : i = i0 := by have := h.ge; have := of_decide_eq_false hb; omega
  rw [← this]; exact s.2 hb
theorem DnR.below {w wr wr' : World} {B c : Nat} {v : Value} {now : Int} {l lk : Array E} {n i0 i : Nat} (h : DnR w B c v now l n i0 wr i lk) (hb : Below wr.heap.size wr wr') : DnR w B c v now l n i0 wr' i lk :=
  ⟨h.hp.below hb, h.tr.then hb, h.perm, h.size, h.tail, h.inv, h.ge, h.le⟩
theorem DnR.step {w wr wr' : World} {B c : Nat} {v : Value} {now : Int} {l lk : Array E} {n i0 i j : Nat} (h : DnR w B c v now l n i0 wr i lk) (hn : n ≤ l.size) (hn1 : n ≤ 1000) (hp : Hp wr' B c v now (sw lk i j)) (ht : Tr wr c v wr' v) (hj : par j = i) (h0 : 0 < j) (hjn : j < n)
    (hl : ltE lk[j]! lk[i]! = true) (hm : ∀ k, 0 < k → k < n → par k = i → ltE lk[k]! lk[j]! = false) : DnR w B c v now l n i0 wr' j (sw lk i j) := by
  have hs := h.size
  have hg := h.ge
  have hpl := par_lt h0
  have hd : decide (i0 < j) = true := decide_eq_true (by omega)
  refine ⟨hp, h.tr.trans ht, (sw_perm lk i j (by omega) (by omega)).trans h.perm, by rw [sw_size]; exact hs, fun k hk hkl => ?_, by rw [hd]; exact h.inv.step (by omega) h0 hjn hj hl hm, by omega, by omega⟩
  rw [sw_get lk i j k (by omega), if_neg (by omega), if_neg (by omega)]
  exact h.tail k hk hkl

set_option maxRecDepth 100000 in
set_option maxHeartbeats 4000000 in
theorem down_any {w : World} {B c : Nat} {v : Value} {now : Int} {l : Array E} (hp : Hp w B c v now l) (i0 n : Nat) (hn : n ≤ l.size) (hi : i0 ≤ 1000) (hD : DnI l n i0 false) (hm : l.size ≤ 1000) :
    Calls Try.prog 22 #[.iface 50 (.pointer (some ⟨c, 1, none⟩)), .int .i64 i0, .int .i64 n] w fun e w' => ∃ b l', e = .returned (.bool b) ∧ Dn w B c v now l n i0 b w' l' := by
  have hn9 : n ≤ 1000 := by omega
  have HM := Lib.hid hm
  have HN := Lib.hid hn
  have R0 : Hid (DnR w B c v now l n i0 w i0 l) := Lib.hid ⟨hp, Tr.refl _ _ _, List.Perm.refl _, rfl, fun _ _ _ => rfl, by rw [decide_eq_false (Nat.lt_irrefl _)]; exact hD, Nat.le_refl _, hi⟩
  clear hp hm hn hD
  go_enter Try.func22, Try.ntmps22
  go_wp2_with fail
  go_loopw [7] (fun s7 wr => ∃ (i : Nat) (lk : Array E), s7 = .int .i64 i ∧ Hid (DnR w B c v now l n i0 wr i lk)) (fun s7 _ => 2000 - (intOf s7).toNat)
  case atStart => exact ⟨i0, l, rfl, R0⟩
  case round =>
    obtain ⟨i, lk, rfl, R⟩ := hrel
    have hi9 : i ≤ 1000 := R.out.le
    have a1 : IntKind.i64.wrap (2 * (i : Int)) = 2 * (i : Int) := IntWalk.i64_in _ (by omega)
    have a2 : IntKind.i64.wrap (2 * (i : Int) + 1) = 2 * (i : Int) + 1 := IntWalk.i64_in _ (by omega)
    have a3 : IntKind.i64.wrap (2 * (i : Int) + 1 + 1) = 2 * (i : Int) + 1 + 1 := IntWalk.i64_in _ (by omega)
    have z1 : decide (2 * (i : Int) + 1 < 0) = false := decide_eq_false (by omega)
    by_cases h0 : n ≤ 2 * i + 1
    · have d0 : decide ((n : Int) ≤ 2 * (i : Int) + 1) = true := decide_eq_true (by omega)
      go_wp2_with fail
      go_ret
      exact ⟨_, lk, rfl, R.out.stop fun k k0 kn kp => by have := par_kids k0 kp; omega⟩
    · have d0 : decide ((n : Int) ≤ 2 * (i : Int) + 1) = false := decide_eq_false (by omega)
      have hnl := HN.out
      have hm9 := HM.out
      have hs := R.out.size
      have LN : Hid (lk.size ≤ 1000 ∧ n ≤ lk.size) := Lib.hid (by omega)
      clear hnl hm9 hs
      by_cases h1 : 2 * i + 2 < n
      · have d1 : decide (2 * (i : Int) + 1 + 1 < (n : Int)) = true := decide_eq_true (by omega)
        have d1' : 2 * (i : Int) + 1 + 1 < (n : Int) := by omega
        have mL1 := mLess wr c v R.out.hp.c1
        have K1 := less_hp R.out.hp (2 * i + 2) (2 * i + 1) (by have := LN.out; omega) (by have := LN.out; omega) LN.out.1
        rw [show (((2 * i + 2 : Nat)) : Int) = 2 * (i : Int) + 1 + 1 by omega, show (((2 * i + 1 : Nat)) : Int) = 2 * (i : Int) + 1 by omega] at K1
        obtain ⟨b1, hb1⟩ : ∃ b, b = ltE lk[2 * i + 2]! lk[2 * i + 1]! := ⟨_, rfl⟩
        rw [← hb1] at K1
        have KK1 := Lib.hid K1
        have HB1 := Lib.hid hb1
        clear K1 hb1
        go_wp2_with fail
        refine KK1.out.mono ?_
        rintro e v1 ⟨rfl, hbv1⟩
        have R1 := Lib.hid (R.out.below hbv1)
        clear hbv1 mL1 KK1
        cases b1 with
        | true =>
          have MIN : Hid (∀ k, 0 < k → k < n → par k = i → ltE lk[k]! lk[2 * i + 2]! = false) := Lib.hid fun k k0 kn kp => by
            rcases par_kids k0 kp with e | e
            · rw [e]; exact ltE_asymm HB1.out.symm
            · rw [e]; exact geE_refl _
          have mL2 := mLess v1 c v R1.out.hp.c1
          have K2 := less_hp R1.out.hp (2 * i + 2) i (by have := LN.out; omega) (by have := LN.out; omega) LN.out.1
          rw [show (((2 * i + 2 : Nat)) : Int) = 2 * (i : Int) + 1 + 1 by omega] at K2
          obtain ⟨b2, hb2⟩ : ∃ b, b = ltE lk[2 * i + 2]! lk[i]! := ⟨_, rfl⟩
          rw [← hb2] at K2
          have KK2 := Lib.hid K2
          have HB2 := Lib.hid hb2
          clear K2 hb2
          go_wp2_with fail
          refine KK2.out.mono ?_
          rintro e v2 ⟨rfl, hbv⟩
          have R2 := Lib.hid (R1.out.below hbv)
          have mS := mSwap v2 c v R2.out.hp.c1
          have K3 := swap_hp R2.out.hp i (2 * i + 2) (by have := LN.out; omega) (by have := LN.out; omega) LN.out.1
          rw [show (((2 * i + 2 : Nat)) : Int) = 2 * (i : Int) + 1 + 1 by omega] at K3
          have KK3 := Lib.hid K3
          clear K3 hbv mL2 KK2
          cases b2 with
          | false =>
            clear mS KK3
            go_wp2_with fail
            go_ret
            exact ⟨_, lk, rfl, R2.out.stop fun k k0 kn kp => geE_trans (MIN.out k k0 kn kp) HB2.out.symm⟩
          | true =>
            go_wp2_with fail
            refine KK3.out.mono ?_
            rintro e v3 ⟨rfl, h3, t3⟩
            have R3 := Lib.hid (R2.out.step HN.out hn9 h3 t3 (by unfold par; omega) (by omega) (by omega) HB2.out.symm MIN.out)
            clear h3 t3 mS KK3
            go_wp2_with fail
            go_roundw
            case rel => exact ⟨2 * i + 2, _, by go_num, R3⟩
            case measure => simp [intOf]; omega
        | false =>
          have MIN : Hid (∀ k, 0 < k → k < n → par k = i → ltE lk[k]! lk[2 * i + 1]! = false) := Lib.hid fun k k0 kn kp => by
            rcases par_kids k0 kp with e | e
            · rw [e]; exact geE_refl _
            · rw [e]; exact HB1.out.symm
          have mL2 := mLess v1 c v R1.out.hp.c1
          have K2 := less_hp R1.out.hp (2 * i + 1) i (by have := LN.out; omega) (by have := LN.out; omega) LN.out.1
          rw [show (((2 * i + 1 : Nat)) : Int) = 2 * (i : Int) + 1 by omega] at K2
          obtain ⟨b2, hb2⟩ : ∃ b, b = ltE lk[2 * i + 1]! lk[i]! := ⟨_, rfl⟩
          rw [← hb2] at K2
          have KK2 := Lib.hid K2
          have HB2 := Lib.hid hb2
          clear K2 hb2
          go_wp2_with fail
          refine KK2.out.mono ?_
          rintro e v2 ⟨rfl, hbv⟩
          have R2 := Lib.hid (R1.out.below hbv)
          have mS := mSwap v2 c v R2.out.hp.c1
          have K3 := swap_hp R2.out.hp i (2 * i + 1) (by have := LN.out; omega) (by have := LN.out; omega) LN.out.1
          rw [show (((2 * i + 1 : Nat)) : Int) = 2 * (i : Int) + 1 by omega] at K3
          have KK3 := Lib.hid K3
          clear K3 hbv mL2 KK2
          cases b2 with
          | false =>
            clear mS KK3
            go_wp2_with fail
            go_ret
            exact ⟨_, lk, rfl, R2.out.stop fun k k0 kn kp => geE_trans (MIN.out k k0 kn kp) HB2.out.symm⟩
          | true =>
            go_wp2_with fail
            refine KK3.out.mono ?_
            rintro e v3 ⟨rfl, h3, t3⟩
            have R3 := Lib.hid (R2.out.step HN.out hn9 h3 t3 (by unfold par; omega) (by omega) (by omega) HB2.out.symm MIN.out)
            clear h3 t3 mS KK3
            go_wp2_with fail
            go_roundw
            case rel => exact ⟨2 * i + 1, _, by go_num, R3⟩
            case measure => simp [intOf]; omega
      · have d1 : decide (2 * (i : Int) + 1 + 1 < (n : Int)) = false := decide_eq_false (by omega)
        have MIN : Hid (∀ k, 0 < k → k < n → par k = i → ltE lk[k]! lk[2 * i + 1]! = false) := Lib.hid fun k k0 kn kp => by
          rcases par_kids k0 kp with e | e
          · rw [e]; exact geE_refl _
          · omega
        have mL2 := mLess wr c v R.out.hp.c1
        have K2 := less_hp R.out.hp (2 * i + 1) i (by have := LN.out; omega) (by have := LN.out; omega) LN.out.1
        rw [show (((2 * i + 1 : Nat)) : Int) = 2 * (i : Int) + 1 by omega] at K2
        obtain ⟨b2, hb2⟩ : ∃ b, b = ltE lk[2 * i + 1]! lk[i]! := ⟨_, rfl⟩
        rw [← hb2] at K2
        have KK2 := Lib.hid K2
        have HB2 := Lib.hid hb2
        clear K2 hb2
        go_wp2_with fail
        refine KK2.out.mono ?_
        rintro e v2 ⟨rfl, hbv⟩
        have R2 := Lib.hid (R.out.below hbv)
        have mS := mSwap v2 c v R2.out.hp.c1
        have K3 := swap_hp R2.out.hp i (2 * i + 1) (by have := LN.out; omega) (by have := LN.out; omega) LN.out.1
        rw [show (((2 * i + 1 : Nat)) : Int) = 2 * (i : Int) + 1 by omega] at K3
        have KK3 := Lib.hid K3
        clear K3 hbv mL2 KK2
        cases b2 with
        | false =>
          clear mS KK3
          go_wp2_with fail
          go_ret
          exact ⟨_, lk, rfl, R2.out.stop fun k k0 kn kp => geE_trans (MIN.out k k0 kn kp) HB2.out.symm⟩
        | true =>
          go_wp2_with fail
          refine KK3.out.mono ?_
          rintro e v3 ⟨rfl, h3, t3⟩
          have R3 := Lib.hid (R2.out.step HN.out hn9 h3 t3 (by unfold par; omega) (by omega) (by omega) HB2.out.symm MIN.out)
          clear h3 t3 mS KK3
          go_wp2_with fail
          go_roundw
          case rel => exact ⟨2 * i + 1, _, by go_num, R3⟩
          case measure => simp [intOf]; omega
end Go.Proofs.Ythcbhehdilaejaa.ck
