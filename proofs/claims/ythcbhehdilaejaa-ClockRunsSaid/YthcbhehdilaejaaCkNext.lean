import Derived.Test.YthcbhehdilaejaaCkStop
/- The clock: Next. -/
set_option linter.unusedVariables false
set_option linter.unusedSimpArgs false
namespace Go.Proofs.Ythcbhehdilaejaa.ck
open Go.RowKit Go.Lib Go.Proofs.Ythcbhehdilaejaa.ckmath

theorem same_of_ge {x y : E} (h : ltE x y = false) (k : ltE y x = false) : x = y := by
  obtain ⟨x1, x2⟩ := x
  obtain ⟨y1, y2⟩ := y
  rw [geE_iff] at h k
  dsimp only at h k
  have a : x1 = y1 := by omega
  have b : x2 = y2 := by omega
  rw [a, b]
/-- what stands first, if it stands ahead of all others -/
theorem first_is {l : Array E} {x : E} {M : List E} (hH : Heap l l.size) (p : l.toList.Perm (x :: M)) (hm : ∀ y ∈ M, ltE y x = false) : l[0]! = x := by
  have hs : 0 < l.size := by have := p.length_eq; simp at this; omega
  have h1 : ltE x l[0]! = false := by
    have hx : x ∈ l.toList := p.mem_iff.2 (List.mem_cons_self ..)
    obtain ⟨i, hi, e⟩ := List.mem_iff_getElem.1 hx
    have hi' : i < l.size := by simpa using hi
    have := heap_root hH i hi'
    rw [getElem!_pos l i hi'] at this
    have e2 : l[i] = x := by rw [← e]; simp
    rw [e2] at this
    exact this
  have h2 : ltE l[0]! x = false := by
    rcases List.mem_cons.1 (p.mem_iff.1 (get_mem hs)) with e | e
    · rw [e]; exact geE_refl _
    · exact hm _ e
  exact same_of_ge h2 h1
theorem ck_time {w : World} {B c : Nat} {v : Value} {now t : Int} {L : List E} (H : Ck w B c v now L) (h0 : 0 ≤ t) (h1 : t ≤ 1073741824) (ht : ∀ x ∈ L, t ≤ x.1) : Ck (w.setCell ⟨c, 0, none⟩ (.int .i64 t)) B c v t L ∧ Tr w c v (w.setCell ⟨c, 0, none⟩ (.int .i64 t)) v := by
  obtain ⟨l, h, p⟩ := H.ex
  exact ⟨⟨⟨l, ⟨hp_set0 h.hp, h.heap⟩, p⟩, H.nd, H.le, h0, h1, fun x hx => ⟨ht x hx, (H.ats x hx).2⟩⟩, (Kept.refl _ _).setCell (.inl (.inl rfl)) _, fun x hx => .inl hx⟩

set_option maxRecDepth 100000 in
set_option maxHeartbeats 2000000 in
theorem next_empty {w : World} {B c : Nat} {v : Value} {now : Int} (H : Ck w B c v now []) (t : Int) (h1 : now ≤ t) (h2 : t ≤ 1073741824) :
    Calls Try.prog 12 #[.pointer (some ⟨c, 0, none⟩), .int .i64 t] w fun e w' => e = .returned (.tuple #[.int .i64 0, .bool false]) ∧ Ck w' B c v t [] ∧ Tr w c v w' v := by
  have R := Lib.hid (ck_time (t := t) H (by have := H.t0; omega) h2 (fun x hx => by cases hx))
  obtain ⟨l, h, p⟩ := H.ex
  have c0 := h.hp.c0
  have c1 := h.hp.c1
  have f0 := h.hp.f0
  obtain ⟨a, cap, hv⟩ := h.hp.shape
  have e : l.size = 0 := by have := p.length_eq; simp at this; simp [this]
  rw [hv, e] at c1
  have m1 : (t ≤ 1073741824) = True := eq_true h2
  have m2 : decide (t ≤ 1073741824) = true := decide_eq_true h2
  have m3 : decide (t ≤ now) = decide (t ≤ now) := rfl
  clear h p H hv e
  by_cases hq : t ≤ now
  · obtain rfl : t = now := by omega
    go_enter Try.func12, Try.ntmps12
    go_wp2_with fail
    exact bodyPost_ret (v := .tuple #[.int .i64 0, .bool false]) (by simp [results, Try.results12, go_sem]) rfl ⟨rfl, R.out⟩
  · go_enter Try.func12, Try.ntmps12
    go_wp2_with fail
    exact bodyPost_ret (v := .tuple #[.int .i64 0, .bool false]) (by simp [results, Try.results12, go_sem]) rfl ⟨rfl, R.out⟩

set_option maxRecDepth 100000 in
set_option maxHeartbeats 2000000 in
theorem next_wait {w : World} {B c : Nat} {v : Value} {now : Int} {L : List E} (H : Ck w B c v now L) (hne : L ≠ []) (t : Int) (h1 : now ≤ t) (h2 : t ≤ 1073741824) (hw : ∀ x ∈ L, t < x.1) :
    Calls Try.prog 12 #[.pointer (some ⟨c, 0, none⟩), .int .i64 t] w fun e w' => e = .returned (.tuple #[.int .i64 0, .bool false]) ∧ Ck w' B c v t L ∧ Tr w c v w' v := by
  have R := Lib.hid (ck_time (t := t) H (by have := H.t0; omega) h2 (fun x hx => by have := hw x hx; omega))
  obtain ⟨l, h, p⟩ := H.ex
  have c0 := h.hp.c0
  have c1 := h.hp.c1
  have f0 := h.hp.f0
  have hs : 0 < l.size := by
    cases L with
    | nil => exact absurd rfl hne
    | cons x L => have := p.length_eq; simp at this; omega
  obtain ⟨g, cap, rfl, _⟩ := h.hp.form hs
  have r0 := ((own2_row h.hp.own).2 0 hs).1
  have hq := hw _ (p.mem_iff.1 (get_mem hs))
  obtain ⟨q, hqq⟩ : ∃ q, q = l[0]!.1 := ⟨_, rfl⟩
  rw [← hqq] at r0 hq
  rw [Nat.zero_mul] at r0
  obtain ⟨N, hN⟩ : ∃ N, N = l.size := ⟨_, rfl⟩
  rw [← hN] at R c1 hs ⊢
  have n0 : ((N : Int) == 0) = false := by simp; omega
  have n1 : ¬ ((N : Int) = 0) := by omega
  have n2 : (0 : Int) < (N : Int) := by omega
  have n3 : ¬ (N = 0) := by omega
  have n4 : (N == 0) = false := by simp; omega
  have d0 : decide (t < q) = true := decide_eq_true hq
  have m1 : (t ≤ 1073741824) = True := eq_true h2
  clear h p H hw hqq hN hne
  by_cases hq : t ≤ now
  · obtain rfl : t = now := by omega
    go_enter Try.func12, Try.ntmps12
    go_wp2_with fail
    exact bodyPost_ret (v := .tuple #[.int .i64 0, .bool false]) (by simp [results, Try.results12, go_sem]) rfl ⟨rfl, R.out⟩
  · go_enter Try.func12, Try.ntmps12
    go_wp2_with fail
    exact bodyPost_ret (v := .tuple #[.int .i64 0, .bool false]) (by simp [results, Try.results12, go_sem]) rfl ⟨rfl, R.out⟩

/-- behind Pop: the time is when it was -/
theorem next_end {w w2 : World} {B c : Nat} {v : Value} {now a n : Int} {M : List E} {ob : Obj} (H : Ck w B c v now ((a, n) :: M)) (hm : ∀ y ∈ M, ltE y (a, n) = false) (h : ∃ v', Ck w2 B c v' now M ∧ Tr w c v w2 v') :
    ∃ v', Ck ((w2.setCell ⟨c, 0, none⟩ (.int .i64 a)).alloc ob) B c v' a M ∧ Tr w c v ((w2.setCell ⟨c, 0, none⟩ (.int .i64 a)).alloc ob) v' := by
  obtain ⟨v', h1, h2⟩ := h
  have ha := H.ats (a, n) (List.mem_cons_self ..)
  have h0 := H.t0
  dsimp only at ha
  obtain ⟨h3, h4⟩ := ck_time (t := a) h1 (by omega) ha.2 (fun x hx => by have := hm x hx; rw [geE_iff] at this; dsimp only at this; omega)
  exact ⟨v', h3.below ((Below.refl _ _).alloc (Nat.le_refl _) ob), (h2.trans h4).then ((Below.refl _ _).alloc (Nat.le_refl _) ob)⟩
set_option maxRecDepth 100000 in
set_option maxHeartbeats 2000000 in
theorem next_some {w : World} {B c : Nat} {v : Value} {now a n : Int} {M : List E} (H : Ck w B c v now ((a, n) :: M)) (hm : ∀ y ∈ M, ltE y (a, n) = false) (t : Int) (h1 : now ≤ t) (h2 : t ≤ 1073741824) (hw : a ≤ t) :
    Calls Try.prog 12 #[.pointer (some ⟨c, 0, none⟩), .int .i64 t] w fun e w' => e = .returned (.tuple #[.int .i64 n, .bool true]) ∧ ∃ v', Ck w' B c v' a M ∧ Tr w c v w' v' := by
  obtain ⟨l, h, p⟩ := H.ex
  have c0 := h.hp.c0
  have c1 := h.hp.c1
  have hs : 0 < l.size := by have := p.length_eq; simp at this; omega
  have hs2 : l.size ≤ 256 := by have := p.length_eq; have := H.le; simp at *; omega
  have hx := first_is h.heap p hm
  have CK := Lib.hid H
  have PP := Lib.hid p
  have MM := Lib.hid hm
  obtain ⟨m, hl⟩ : ∃ m, l.size = m + 1 := ⟨l.size - 1, by omega⟩
  have K1 := Lib.hid (hpop_any h m hl (by omega) a n hx)
  obtain ⟨g, cap, hv, _⟩ := h.hp.form hs
  have r0 := h.hp.own
  rw [hv] at r0
  have r0 := ((own2_row r0).2 0 hs).1
  rw [hx] at r0
  dsimp only at r0
  rw [Nat.zero_mul] at r0
  rw [hv, hl] at c1
  have n0 : (((m + 1 : Nat) : Int) == 0) = false := by simp; omega
  have n1 : ¬ ((((m + 1 : Nat)) : Int) = 0) := by omega
  have n2 : (0 : Int) < ((m + 1 : Nat) : Int) := by omega
  have n3 : ¬ (m + 1 = 0) := by omega
  have n4 : (0 : Int) < (m : Int) + 1 := by omega
  have n5 : ¬ ((m : Int) + 1 = 0) := by omega
  have d0 : decide (t < a) = false := decide_eq_false (by omega)
  have m1 : (t ≤ 1073741824) = True := eq_true h2
  have TA := assert_due (.agg #[.int .i64 a, .int .i64 n])
  clear h p H hw hv hm hs hs2 hx hl
  by_cases hq : t ≤ now
  · obtain rfl : t = now := by omega
    go_enter Try.func12, Try.ntmps12
    go_wp2_with fail
    refine K1.out.mono ?_
    rintro e w2 ⟨rfl, r⟩
    have R := ck_rm CK.out PP.out (Below.refl _ _) r
    have RES := Lib.hid (next_end (ob := .cells #[.int .i64 a, .int .i64 n] 48) CK.out MM.out R)
    obtain ⟨v2, k2, _⟩ := R
    obtain ⟨l2, g2, _⟩ := k2.ex
    have a0 := g2.hp.c0
    have b0 := g2.hp.f0
    have lt := g2.hp.lt
    have a1 := aid.ca (.cells #[.int .i64 a, .int .i64 n] 48) a0
    have b1 : (w2.alloc (.cells #[.int .i64 a, .int .i64 n] 48)).frozen? ⟨c, 0, none⟩ = false := (((Below.refl w2.heap.size w2).alloc (Nat.le_refl _) _).frozen (p := ⟨c, 0, none⟩) lt).trans b0
    clear r k2 g2 K1
    go_wp2_with fail
    exact bodyPost_ret (v := .tuple #[.int .i64 n, .bool true]) (by simp [results, Try.results12, go_sem]) rfl ⟨rfl, RES.out⟩
  · go_enter Try.func12, Try.ntmps12
    go_wp2_with fail
    refine K1.out.mono ?_
    rintro e w2 ⟨rfl, r⟩
    have R := ck_rm CK.out PP.out (Below.refl _ _) r
    have RES := Lib.hid (next_end (ob := .cells #[.int .i64 a, .int .i64 n] 48) CK.out MM.out R)
    obtain ⟨v2, k2, _⟩ := R
    obtain ⟨l2, g2, _⟩ := k2.ex
    have a0 := g2.hp.c0
    have b0 := g2.hp.f0
    have lt := g2.hp.lt
    have a1 := aid.ca (.cells #[.int .i64 a, .int .i64 n] 48) a0
    have b1 : (w2.alloc (.cells #[.int .i64 a, .int .i64 n] 48)).frozen? ⟨c, 0, none⟩ = false := (((Below.refl w2.heap.size w2).alloc (Nat.le_refl _) _).frozen (p := ⟨c, 0, none⟩) lt).trans b0
    clear r k2 g2 K1
    go_wp2_with fail
    exact bodyPost_ret (v := .tuple #[.int .i64 n, .bool true]) (by simp [results, Try.results12, go_sem]) rfl ⟨rfl, RES.out⟩
end Go.Proofs.Ythcbhehdilaejaa.ck
