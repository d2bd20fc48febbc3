import Derived.Test.YthcbhehdilaejaaCkDown
/- container/heap's Fix, Push, Remove, Pop, at a clock's entries. -/
set_option linter.unusedVariables false
set_option linter.unusedSimpArgs false
namespace Go.Proofs.Ythcbhehdilaejaa.ck
open Go.RowKit Go.Lib Go.Proofs.Ythcbhehdilaejaa.ckmath

/-- a clock's entries, in form -/
structure Hh (w : World) (B c : Nat) (v : Value) (now : Int) (l : Array E) : Prop where
  hp : Hp w B c v now l
  heap : Heap l l.size

set_option maxRecDepth 100000 in
set_option maxHeartbeats 2000000 in
theorem fix_any {w : World} {B c : Nat} {v : Value} {now : Int} {l : Array E} (hp : Hp w B c v now l) (i : Nat) (hi : i < l.size) (hD : DnI l l.size i false) (hm : l.size ≤ 1000) :
    Calls Try.prog 16 #[.iface 50 (.pointer (some ⟨c, 1, none⟩)), .int .i64 i] w fun e w' => e = .returned (.tuple #[]) ∧ ∃ l', Hh w' B c v now l' ∧ Tr w c v w' v ∧ l'.toList.Perm l.toList := by
  have mL := mLen w c v hp.c1
  obtain ⟨a, cap, hv⟩ := hp.shape
  have K0 := Lib.hid (len_any a l.size cap w)
  have K1 := Lib.hid (down_any hp i l.size (Nat.le_refl _) (by omega) hD hm)
  rw [← hv] at K0
  have HM := Lib.hid hm
  have HI := Lib.hid hi
  clear hp hD hm hi hv
  go_enter Try.func16, Try.ntmps16
  go_wp2_with fail
  refine K0.out.mono ?_
  rintro e w1 ⟨rfl, rfl⟩
  go_wp2_with fail
  refine K1.out.mono ?_
  rintro e w1 ⟨b, l1, rfl, d⟩
  have D := Lib.hid d
  clear d mL K0 K1
  cases b with
  | true =>
    go_wp2_with fail
    go_end0
    exact ⟨rfl, l1, ⟨D.out.hp, by rw [D.out.size]; exact D.out.yes rfl⟩, D.out.tr, D.out.perm⟩
  | false =>
    have K2 := Lib.hid (up_any D.out.hp i l.size HI.out (by rw [D.out.size]; exact Nat.le_refl _) (D.out.no rfl) (by rw [D.out.size]; exact HM.out))
    go_wp2_with fail
    refine K2.out.mono ?_
    rintro e w2 ⟨rfl, l2, h2, t2, p2, hh2, s2, _⟩
    have R := Lib.hid (show ∃ l', Hh w2 B c v now l' ∧ Tr w c v w2 v ∧ l'.toList.Perm l.toList from ⟨l2, ⟨h2, by rw [s2, D.out.size]; exact hh2⟩, D.out.tr.trans t2, p2.trans D.out.perm⟩)
    clear h2 t2 p2 hh2 s2
    go_wp2_with fail
    go_end0
    exact ⟨rfl, R.out⟩

set_option maxRecDepth 100000 in
set_option maxHeartbeats 2000000 in
theorem hpush_any {w : World} {B c : Nat} {v : Value} {now : Int} {l : Array E} (hp : Hh w B c v now l) (x1 x2 : Int) (hB : B ≤ w.heap.size) (hm : l.size ≤ 900) :
    Calls Try.prog 17 #[.iface 50 (.pointer (some ⟨c, 1, none⟩)), .iface 48 (.agg #[.int .i64 x1, .int .i64 x2])] w fun e w' => e = .returned (.tuple #[]) ∧ ∃ v' l', Hh w' B c v' now l' ∧ Tr w c v w' v' ∧ l'.toList.Perm ((x1, x2) :: l.toList) := by
  have mP := mPush w c
  have K0 := Lib.hid (push_any B c v now l x1 x2 w hp.hp hB (by omega))
  have HH := Lib.hid hp
  have HM := Lib.hid hm
  have w1 : IntKind.i64.wrap (l.size : Int) = (l.size : Int) := IntWalk.i64_in _ (by omega)
  clear hp hm
  go_enter Try.func17, Try.ntmps17
  go_wp2_with fail
  refine K0.out.mono ?_
  rintro e v1 ⟨rfl, v', h1, t1⟩
  have mL := mLen v1 c v' h1.c1
  obtain ⟨a, cap, hv⟩ := h1.shape
  have K1 := len_any a (l.push (x1, x2)).size cap v1
  rw [← hv, Array.size_push] at K1
  have KK1 := Lib.hid K1
  have K2 := Lib.hid (up_any h1 l.size (l.size + 1) (by omega) (by rw [Array.size_push]; exact Nat.le_refl _) (UpI.of_push HH.out.heap) (by rw [Array.size_push]; have := HM.out; omega))
  have T1 := Lib.hid t1
  clear h1 t1 hv K1 mP
  go_wp2_with fail
  refine KK1.out.mono ?_
  rintro e w1 ⟨rfl, rfl⟩
  go_wp2_with fail
  refine K2.out.mono ?_
  rintro e w2 ⟨rfl, l2, h2, t2, p2, hh2, s2, _⟩
  have R := Lib.hid (show ∃ v' l', Hh w2 B c v' now l' ∧ Tr w c v w2 v' ∧ l'.toList.Perm ((x1, x2) :: l.toList) from ⟨v', l2, ⟨h2, by rw [s2, Array.size_push]; exact hh2⟩, T1.out.trans t2, p2.trans (by rw [Array.toList_push]; exact List.perm_append_comm)⟩)
  clear h2 t2 p2 hh2 s2
  go_wp2_with fail
  go_end0
  exact ⟨rfl, R.out⟩

/-- one is taken out -/
structure Rm (w : World) (B c : Nat) (v : Value) (now : Int) (l : Array E) (x : E) (w' : World) : Prop where
  is : ∃ v' l', Hh w' B c v' now l' ∧ Tr w c v w' v' ∧ l.toList.Perm (x :: l'.toList)
theorem pop_hp {w : World} {B c : Nat} {v : Value} {now : Int} {l : Array E} (hp : Hp w B c v now l) (m : Nat) (hl : l.size = m + 1) (hH : Heap l m) (hm : m ≤ 900) (x1 x2 : Int) (hx : l[m]! = (x1, x2)) :
    Calls Try.prog 46 #[.pointer (some ⟨c, 1, none⟩)] w fun e w' => e = .returned (.iface 48 (.agg #[.int .i64 x1, .int .i64 x2])) ∧ Rm w B c v now l (x1, x2) w' := by
  obtain ⟨g, cap, rfl, hcap⟩ := hp.form (by omega)
  have hp' := hp
  rw [hl] at hp' hcap ⊢
  refine (pop_any B c g m cap now l w hp' hl hcap (by omega)).mono ?_
  rintro e w' ⟨rfl, h1, t1⟩
  rw [hx]
  refine ⟨rfl, ⟨_, _, ⟨h1, Heap.pop (by rw [hl, Nat.add_sub_cancel]; exact hH)⟩, t1, ?_⟩⟩
  have := pop_perm (l := l) (by omega)
  rw [hl, Nat.add_sub_cancel, hx] at this
  exact this
theorem Rm.trans {w w1 w2 : World} {B c : Nat} {v v1 : Value} {now : Int} {l l1 : Array E} {x : E} (t : Tr w c v w1 v1) (p : l1.toList.Perm l.toList) (h : Rm w1 B c v1 now l1 x w2) : Rm w B c v now l x w2 := by
  obtain ⟨v', l', h1, h2, h3⟩ := h.is
  exact ⟨v', l', h1, t.trans h2, p.symm.trans h3⟩

set_option maxRecDepth 100000 in
set_option maxHeartbeats 2000000 in
theorem hpop_any {w : World} {B c : Nat} {v : Value} {now : Int} {l : Array E} (hp : Hh w B c v now l) (m : Nat) (hl : l.size = m + 1) (hm : m ≤ 900) (x1 x2 : Int) (hx : l[0]! = (x1, x2)) :
    Calls Try.prog 19 #[.iface 50 (.pointer (some ⟨c, 1, none⟩))] w fun e w' => e = .returned (.iface 48 (.agg #[.int .i64 x1, .int .i64 x2])) ∧ Rm w B c v now l (x1, x2) w' := by
  have mL := mLen w c v hp.hp.c1
  have mS := mSwap w c v hp.hp.c1
  obtain ⟨a, cap, hv⟩ := hp.hp.shape
  have K0 := len_any a l.size cap w
  rw [← hv, hl] at K0
  have KK0 := Lib.hid K0
  have K1 := swap_hp hp.hp 0 m (by omega) (by omega) (by omega)
  have KK1 := Lib.hid K1
  have w1 : IntKind.i64.wrap (m : Int) = (m : Int) := IntWalk.i64_in _ (by omega)
  have DD : Hid (DnI (sw l 0 m) m 0 false) := Lib.hid (DnI.of (hp.heap.less (by omega)) (fun k hk hk0 => by rw [sw_get l 0 m k (by omega), if_neg (by omega), if_neg hk0]))
  have SS : Hid ((sw l 0 m).size = m + 1) := Lib.hid (by rw [sw_size]; exact hl)
  have LL : Hid ((sw l 0 m)[m]! = (x1, x2)) := Lib.hid (by rw [sw_get l 0 m m (by omega), if_pos rfl]; exact hx)
  have PP : Hid ((sw l 0 m).toList.Perm l.toList) := Lib.hid (sw_perm l 0 m (by omega) (by omega))
  clear hp hl hx K0 K1 hv
  go_enter Try.func19, Try.ntmps19
  go_wp2_with fail
  refine KK0.out.mono ?_
  rintro e w1 ⟨rfl, rfl⟩
  go_wp2_with fail
  refine KK1.out.mono ?_
  rintro e w1 ⟨rfl, h1, t1⟩
  have K2 := Lib.hid (down_any h1 0 m (by rw [SS.out]; omega) (by omega) DD.out (by rw [SS.out]; omega))
  have T1 := Lib.hid t1
  clear mL mS KK0 KK1 h1 t1
  go_wp2_with fail
  refine K2.out.mono ?_
  rintro e w2 ⟨b, l2, rfl, d⟩
  have hh : Heap l2 m := by
    cases b
    · exact (d.no rfl).done0
    · exact d.yes rfl
  have K3 := Lib.hid (pop_hp d.hp m (by rw [d.size]; exact SS.out) hh hm x1 x2 (by rw [d.tail m (Nat.le_refl _) (by rw [SS.out]; omega)]; exact LL.out))
  have D := Lib.hid d
  have mP := mPop w2 c
  clear hh d K2
  go_wp2_with fail
  refine K3.out.mono ?_
  rintro e w3 ⟨rfl, r⟩
  have R := Lib.hid (Rm.trans (T1.out.trans D.out.tr) (D.out.perm.trans PP.out) r)
  clear r mP
  go_wp2_with fail
  go_ret
  exact ⟨rfl, R.out⟩

set_option maxRecDepth 100000 in
set_option maxHeartbeats 2000000 in
theorem hremove_last {w : World} {B c : Nat} {v : Value} {now : Int} {l : Array E} (hp : Hh w B c v now l) (m : Nat) (hl : l.size = m + 1) (hm : m ≤ 900) (x1 x2 : Int) (hx : l[m]! = (x1, x2)) :
    Calls Try.prog 18 #[.iface 50 (.pointer (some ⟨c, 1, none⟩)), .int .i64 m] w fun e w' => e = .returned (.iface 48 (.agg #[.int .i64 x1, .int .i64 x2])) ∧ Rm w B c v now l (x1, x2) w' := by
  have mL := mLen w c v hp.hp.c1
  have mP := mPop w c
  obtain ⟨a, cap, hv⟩ := hp.hp.shape
  have K0 := len_any a l.size cap w
  rw [← hv, hl] at K0
  have KK0 := Lib.hid K0
  have w1 : IntKind.i64.wrap (m : Int) = (m : Int) := IntWalk.i64_in _ (by omega)
  have K3 := Lib.hid (pop_hp hp.hp m hl (hp.heap.less (by omega)) hm x1 x2 hx)
  clear hp hl hx K0 hv
  go_enter Try.func18, Try.ntmps18
  go_wp2_with fail
  refine KK0.out.mono ?_
  rintro e w1 ⟨rfl, rfl⟩
  go_wp2_with fail
  refine K3.out.mono ?_
  rintro e w3 ⟨rfl, r⟩
  have R := Lib.hid r
  clear r mP
  go_wp2_with fail
  go_ret
  exact ⟨rfl, R.out⟩

set_option maxRecDepth 100000 in
set_option maxHeartbeats 2000000 in
theorem hremove_mid {w : World} {B c : Nat} {v : Value} {now : Int} {l : Array E} (hp : Hh w B c v now l) (m i : Nat) (hl : l.size = m + 1) (him : i < m) (hm : m ≤ 900) (x1 x2 : Int) (hx : l[i]! = (x1, x2)) :
    Calls Try.prog 18 #[.iface 50 (.pointer (some ⟨c, 1, none⟩)), .int .i64 i] w fun e w' => e = .returned (.iface 48 (.agg #[.int .i64 x1, .int .i64 x2])) ∧ Rm w B c v now l (x1, x2) w' := by
  have mL := mLen w c v hp.hp.c1
  have mS := mSwap w c v hp.hp.c1
  obtain ⟨a, cap, hv⟩ := hp.hp.shape
  have K0 := len_any a l.size cap w
  rw [← hv, hl] at K0
  have KK0 := Lib.hid K0
  have K1 := swap_hp hp.hp i m (by omega) (by omega) (by omega)
  have KK1 := Lib.hid K1
  have w1 : IntKind.i64.wrap (m : Int) = (m : Int) := IntWalk.i64_in _ (by omega)
  have ne : ((m : Int) == (i : Int)) = false := by simp; omega
  have DD : Hid (DnI (sw l i m) m i false) := Lib.hid (DnI.of (hp.heap.less (by omega)) (fun k hk hk0 => by rw [sw_get l i m k (by omega), if_neg (by omega), if_neg hk0]))
  have SS : Hid ((sw l i m).size = m + 1) := Lib.hid (by rw [sw_size]; exact hl)
  have LL : Hid ((sw l i m)[m]! = (x1, x2)) := Lib.hid (by rw [sw_get l i m m (by omega), if_pos rfl]; exact hx)
  have PP : Hid ((sw l i m).toList.Perm l.toList) := Lib.hid (sw_perm l i m (by omega) (by omega))
  clear hp hl hx K0 K1 hv
  go_enter Try.func18, Try.ntmps18
  go_wp2_with fail
  refine KK0.out.mono ?_
  rintro e w1 ⟨rfl, rfl⟩
  go_wp2_with fail
  refine KK1.out.mono ?_
  rintro e w1 ⟨rfl, h1, t1⟩
  have K2 := Lib.hid (down_any h1 i m (by rw [SS.out]; omega) (by omega) DD.out (by rw [SS.out]; omega))
  have T1 := Lib.hid t1
  clear mL mS KK0 KK1 h1 t1
  go_wp2_with fail
  refine K2.out.mono ?_
  rintro e w2 ⟨b, l2, rfl, d⟩
  have D := Lib.hid d
  clear d K2
  cases b with
  | true =>
    have K3 := Lib.hid (pop_hp D.out.hp m (by rw [D.out.size]; exact SS.out) (D.out.yes rfl) hm x1 x2 (by rw [D.out.tail m (Nat.le_refl _) (by rw [SS.out]; omega)]; exact LL.out))
    have mP := mPop w2 c
    go_wp2_with fail
    refine K3.out.mono ?_
    rintro e w3 ⟨rfl, r⟩
    have R := Lib.hid (Rm.trans (T1.out.trans D.out.tr) (D.out.perm.trans PP.out) r)
    clear r mP
    go_wp2_with fail
    go_ret
    exact ⟨rfl, R.out⟩
  | false =>
    have K4 := Lib.hid (up_any D.out.hp i m him (by rw [D.out.size, SS.out]; omega) (D.out.no rfl) (by rw [D.out.size, SS.out]; omega))
    go_wp2_with fail
    refine K4.out.mono ?_
    rintro e w3 ⟨rfl, l3, h3, t3, p3, hh3, s3, k3⟩
    have K3 := Lib.hid (pop_hp h3 m (by rw [s3, D.out.size]; exact SS.out) hh3 hm x1 x2 (by rw [k3 m (Nat.le_refl _) (by rw [D.out.size, SS.out]; omega), D.out.tail m (Nat.le_refl _) (by rw [SS.out]; omega)]; exact LL.out))
    have T3 := Lib.hid t3
    have P3 := Lib.hid p3
    have mP := mPop w3 c
    clear h3 t3 p3 hh3 s3 k3 K4
    go_wp2_with fail
    refine K3.out.mono ?_
    rintro e w4 ⟨rfl, r⟩
    have R := Lib.hid (Rm.trans ((T1.out.trans D.out.tr).trans T3.out) ((P3.out.trans D.out.perm).trans PP.out) r)
    clear r mP
    go_wp2_with fail
    go_ret
    exact ⟨rfl, R.out⟩
theorem hremove_any {w : World} {B c : Nat} {v : Value} {now : Int} {l : Array E} (hp : Hh w B c v now l) (i : Nat) (hi : i < l.size) (hm : l.size ≤ 900) (x1 x2 : Int) (hx : l[i]! = (x1, x2)) :
    Calls Try.prog 18 #[.iface 50 (.pointer (some ⟨c, 1, none⟩)), .int .i64 i] w fun e w' => e = .returned (.iface 48 (.agg #[.int .i64 x1, .int .i64 x2])) ∧ Rm w B c v now l (x1, x2) w' := by
  obtain ⟨m, hl⟩ : ∃ m, l.size = m + 1 := ⟨l.size - 1, by omega⟩
  by_cases e : i = m
  · subst e; exact hremove_last hp i hl (by omega) x1 x2 hx
  · exact hremove_mid hp m i hl (by omega) (by omega) x1 x2 hx
end Go.Proofs.Ythcbhehdilaejaa.ck
