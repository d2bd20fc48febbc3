import Derived.Test.YthcbhehdilaejaaCkHp2
/- container/heap's up, at a clock's entries. -/
set_option linter.unusedVariables false
set_option linter.unusedSimpArgs false
namespace Go.Proofs.Ythcbhehdilaejaa.ck
open Go.RowKit Go.Lib Go.Proofs.Ythcbhehdilaejaa.ckmath

theorem less_hp {w : World} {B c : Nat} {v : Value} {now : Int} {l : Array E} (hp : Hp w B c v now l) (i j : Nat) (hi : i < l.size) (hj : j < l.size) (hm : l.size ≤ 1000) :
    Calls Try.prog 41 #[v, .int .i64 i, .int .i64 j] w fun e w' => e = .returned (.bool (ltE l[i]! l[j]!)) ∧ Below w.heap.size w w' := by
  obtain ⟨g, cap, rfl, _⟩ := hp.form (by omega)
  exact less_any g l.size cap l i j w rfl (own2_row hp.own).2 hi hj hm
theorem swap_hp {w : World} {B c : Nat} {v : Value} {now : Int} {l : Array E} (hp : Hp w B c v now l) (i j : Nat) (hi : i < l.size) (hj : j < l.size) (hm : l.size ≤ 1000) :
    Calls Try.prog 42 #[v, .int .i64 i, .int .i64 j] w fun e w' => e = .returned (.tuple #[]) ∧ Hp w' B c v now (sw l i j) ∧ Tr w c v w' v := by
  obtain ⟨g, cap, rfl, _⟩ := hp.form (by omega)
  refine (swap_any B g l.size cap l i j w hp.own hi hj hm).mono ?_
  rintro e w' ⟨he, ho, hg⟩
  have hc := hg.block c hp.lt (fun e => hp.nb e.symm)
  refine ⟨he, ⟨(World.cell?_of_block (a := ⟨c, 0, none⟩) hc).trans hp.c0, (World.cell?_of_block (a := ⟨c, 1, none⟩) hc).trans hp.c1, (World.frozen?_of_block (a := ⟨c, 0, none⟩) hc).trans hp.f0, (World.frozen?_of_block (a := ⟨c, 1, none⟩) hc).trans hp.f1, by rw [sw_size]; exact ho, hp.nb, hp.hB⟩, Kept.of_grown hg (fun x hx => .inr hx), fun x hx => .inl hx⟩

set_option maxRecDepth 100000 in
set_option maxHeartbeats 2000000 in
theorem up_any {w : World} {B c : Nat} {v : Value} {now : Int} {l : Array E} (hp : Hp w B c v now l) (j n : Nat) (hj : j < n) (hn : n ≤ l.size) (hU : UpI l n j) (hm : l.size ≤ 1000) :
    Calls Try.prog 23 #[.iface 50 (.pointer (some ⟨c, 1, none⟩)), .int .i64 j] w fun e w' => e = .returned (.tuple #[]) ∧ ∃ l', Hp w' B c v now l' ∧ Tr w c v w' v ∧ l'.toList.Perm l.toList ∧ Heap l' n ∧ l'.size = l.size ∧ ∀ k, n ≤ k → k < l.size → l'[k]! = l[k]! := by
  have HP := Lib.hid hp
  have HU := Lib.hid hU
  have HM := Lib.hid hm
  have HJ := Lib.hid hj
  have HN := Lib.hid hn
  clear hp hU hm hj hn
  go_enter Try.func23, Try.ntmps23
  go_wp2_with fail
  go_loopw [1] (fun s1 wr => ∃ (j' : Nat) (lk : Array E), s1 = .int .i64 j' ∧ Hid (j' < n ∧ lk.size = l.size ∧ n ≤ l.size ∧ ∀ k, n ≤ k → k < l.size → lk[k]! = l[k]!) ∧ Hid (Hp wr B c v now lk) ∧ Hid (Tr w c v wr v) ∧ Hid (lk.toList.Perm l.toList) ∧ Hid (UpI lk n j')) (fun s1 _ => (intOf s1).toNat)
  case atStart => exact ⟨j, l, rfl, Lib.hid ⟨HJ.out, rfl, HN.out, fun _ _ _ => rfl⟩, HP, Lib.hid (Tr.refl _ _ _), Lib.hid (List.Perm.refl _), HU⟩
  case round =>
    obtain ⟨j', lk, rfl, S, H, T, Pm, U⟩ := hrel
    have hb9 : j' ≤ 1000 := by have := S.out; have := HM.out; omega
    by_cases h0 : j' = 0
    · subst h0
      have q0 : Int.tdiv ((0 : Int) - 1) 2 = 0 := by decide
      have q1 : Int.tdiv (-1) 2 = 0 := by decide
      go_wp2_with fail
      go_end0
      exact ⟨rfl, lk, H.out, T.out, Pm.out, U.out.done0, S.out.2.1, S.out.2.2.2⟩
    · have hp0 := par_lt (show 0 < j' by omega)
      obtain ⟨p, hpp⟩ : ∃ p, p = par j' := ⟨_, rfl⟩
      rw [← hpp] at hp0
      have q1 : Int.tdiv ((j' : Int) - 1) 2 = (p : Int) := by rw [Int.tdiv_eq_ediv_of_nonneg (by omega), hpp]; unfold par; omega
      have HPP := Lib.hid hpp
      have q2 : IntKind.i64.wrap ((j' : Int) - 1) = (j' : Int) - 1 := IntWalk.i64_in _ (by omega)
      have q3 : IntKind.i64.wrap (p : Int) = (p : Int) := IntWalk.i64_in _ (by omega)
      have q4 : ((p : Int) == (j' : Int)) = false := by simp; omega
      have q5 : ¬ ((p : Int) = (j' : Int)) := by omega
      have mL := mLess wr c v H.out.c1
      have K1 := Lib.hid (less_hp H.out j' p (by have := S.out; omega) (by have := S.out; omega) (by have := S.out; have := HM.out; omega))
      obtain ⟨b, hb⟩ : ∃ b, b = ltE lk[j']! lk[p]! := ⟨_, rfl⟩
      rw [← hb] at K1
      have HB := Lib.hid hb
      clear hpp hb
      go_wp2_with fail
      refine K1.out.mono ?_
      rintro e v1 ⟨rfl, hb1⟩
      have H1 := Lib.hid (H.out.below hb1)
      have T1 := Lib.hid (T.out.then hb1)
      have mS := mSwap v1 c v H1.out.c1
      have K2 := Lib.hid (swap_hp H1.out p j' (by have := S.out; omega) (by have := S.out; omega) (by have := S.out; have := HM.out; omega))
      clear hb1 mL K1
      cases b with
      | false =>
        have HD := HB.out
        clear mS K2
        go_wp2_with fail
        go_end0
        exact ⟨rfl, lk, H1.out, T1.out, Pm.out, U.out.done (by rw [← HPP.out]; exact HD.symm), S.out.2.1, S.out.2.2.2⟩
      | true =>
        go_wp2_with fail
        refine K2.out.mono ?_
        rintro e v2 ⟨rfl, h2, t2⟩
        have H2 := Lib.hid h2
        have T2 := Lib.hid (T1.out.trans t2)
        have U2 := Lib.hid (U.out.step (by have := S.out; omega) (by omega) S.out.1 (by rw [← HPP.out]; exact HB.out.symm))
        rw [← HPP.out] at U2
        have P2 := Lib.hid ((sw_perm lk p j' (by have := S.out; omega) (by have := S.out; omega)).trans Pm.out)
        have S2 := Lib.hid (show p < n ∧ (sw lk p j').size = l.size ∧ n ≤ l.size ∧ ∀ k, n ≤ k → k < l.size → (sw lk p j')[k]! = l[k]! from ⟨by have := S.out; omega, by rw [sw_size]; exact S.out.2.1, S.out.2.2.1, fun k hk hkl => by
          have := S.out
          rw [sw_get lk p j' k (by omega), if_neg (by omega), if_neg (by omega)]
          exact this.2.2.2 k hk hkl⟩)
        clear h2 t2 mS K2
        go_wp2_with fail
        go_roundw
        case rel => exact ⟨p, _, rfl, S2, H2, T2, P2, U2⟩
        case measure => simp [intOf]; omega
end Go.Proofs.Ythcbhehdilaejaa.ck
