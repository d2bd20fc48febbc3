import Derived.Test.YthcbhehdilaejaaCkFind
/- The clock itself: New, Set. -/
set_option linter.unusedVariables false
set_option linter.unusedSimpArgs false
namespace Go.Proofs.Ythcbhehdilaejaa.ck
open Go.RowKit Go.Lib Go.Proofs.Ythcbhehdilaejaa.ckmath

/-- A CLOCK: its time, and what is due, each name once -/
structure Ck (w : World) (B c : Nat) (v : Value) (now : Int) (L : List E) : Prop where
  ex : ∃ l, Hh w B c v now l ∧ l.toList.Perm L
  nd : (L.map (·.2)).Nodup
  le : L.length ≤ 256
  t0 : 0 ≤ now
  t1 : now ≤ 1073741824
  ats : ∀ x ∈ L, now ≤ x.1 ∧ x.1 ≤ 1073741824
theorem Ck.perm {w : World} {B c : Nat} {v : Value} {now : Int} {L M : List E} (h : Ck w B c v now L) (p : L.Perm M) : Ck w B c v now M := by
  obtain ⟨l, h1, h2⟩ := h.ex
  exact ⟨⟨l, h1, h2.trans p⟩, (p.map (·.2)).nodup_iff.1 h.nd, by rw [← p.length_eq]; exact h.le, h.t0, h.t1, fun x hx => h.ats x (p.mem_iff.2 hx)⟩
theorem Hh.below {w w' : World} {B c : Nat} {v : Value} {now : Int} {l : Array E} (h : Hh w B c v now l) (hb : Below w.heap.size w w') : Hh w' B c v now l := ⟨h.hp.below hb, h.heap⟩
theorem Ck.below {w w' : World} {B c : Nat} {v : Value} {now : Int} {L : List E} (h : Ck w B c v now L) (hb : Below w.heap.size w w') : Ck w' B c v now L := by
  obtain ⟨l, h1, h2⟩ := h.ex
  exact ⟨⟨l, h1.below hb, h2⟩, h.nd, h.le, h.t0, h.t1, h.ats⟩
theorem Ck.kept {m : Nat → Prop} {w w' : World} {B c : Nat} {v : Value} {now : Int} {L : List E} (h : Ck w B c v now L) (hb : Kept m w w') (hm : ∀ x, mine c v x → ¬ m x) : Ck w' B c v now L := by
  obtain ⟨l, h1, h2⟩ := h.ex
  exact ⟨⟨l, ⟨h1.hp.kept hb hm, h1.heap⟩, h2⟩, h.nd, h.le, h.t0, h.t1, h.ats⟩

theorem get_mem {l : Array E} {i : Nat} (h : i < l.size) : l[i]! ∈ l.toList := by rw [getElem!_pos l i h]; simp
theorem one_name {a n : Int} {M : List E} (nd : (((a, n) :: M).map (·.2)).Nodup) {x : E} (hx : x ∈ (a, n) :: M) (e : x.2 = n) : x = (a, n) := by
  rcases List.mem_cons.1 hx with h | h
  · exact h
  · simp only [List.map_cons, List.nodup_cons] at nd
    exact absurd (List.mem_map.2 ⟨x, h, e⟩) nd.1
theorem find_hit {l : Array E} {a n r : Int} {M : List E} (p : l.toList.Perm ((a, n) :: M)) (nd : (((a, n) :: M).map (·.2)).Nodup) (h : findN l n r 0) : ∃ i : Nat, r = i ∧ i < l.size ∧ l[i]! = (a, n) := by
  rcases h with ⟨i, hr, _, hi, hn⟩ | ⟨_, hn⟩
  · exact ⟨i, hr, hi, one_name nd (p.mem_iff.1 (get_mem hi)) hn⟩
  · exfalso
    have : (a, n) ∈ l.toList := p.mem_iff.2 (List.mem_cons_self ..)
    obtain ⟨i, hi, e⟩ := List.mem_iff_getElem.1 this
    have hi' : i < l.size := by simpa using hi
    refine hn i (Nat.zero_le _) hi' ?_
    rw [getElem!_pos l i hi']
    have e2 : l[i] = (a, n) := by rw [← e]; simp
    rw [e2]
theorem find_miss {l : Array E} {n r : Int} {L : List E} (p : l.toList.Perm L) (hn : ∀ x ∈ L, x.2 ≠ n) (h : findN l n r 0) : r = -1 := by
  rcases h with ⟨i, hr, _, hi, e⟩ | ⟨e, _⟩
  · exact absurd e (hn _ (p.mem_iff.1 (get_mem hi)))
  · exact e
theorem erase_p : ∀ (L : List E) (i : Nat) (h : i < L.length), (L[i] :: L.eraseIdx i).Perm L
  | x :: L, 0, _ => List.Perm.refl _
  | x :: L, i + 1, h => by
    have hi : i < L.length := by simpa using h
    have ih := erase_p L i hi
    show (L[i] :: x :: L.eraseIdx i).Perm (x :: L)
    exact (List.Perm.swap x L[i] _).trans (ih.cons x)
theorem set_p (y : E) : ∀ (L : List E) (i : Nat) (h : i < L.length), (L.set i y).Perm (y :: L.eraseIdx i)
  | x :: L, 0, _ => List.Perm.refl _
  | x :: L, i + 1, h => by
    have ih := set_p y L i (by simpa using h)
    show (x :: L.set i y).Perm (y :: x :: L.eraseIdx i)
    exact (ih.cons x).trans (List.Perm.swap y x _)
theorem erase_perm {l : Array E} {x : E} {i : Nat} {M : List E} (hi : i < l.size) (hx : l[i]! = x) (p : l.toList.Perm (x :: M)) : (l.toList.eraseIdx i).Perm M := by
  have q := erase_p l.toList i (by simpa using hi)
  have e : l.toList[i]'(by simpa using hi) = x := by rw [← hx, getElem!_pos l i hi]; simp
  rw [e] at q
  exact (q.trans p).cons_inv
theorem set_perm {l : Array E} {x y : E} {i : Nat} {M : List E} (hi : i < l.size) (hx : l[i]! = x) (p : l.toList.Perm (x :: M)) : (l.setIfInBounds i y).toList.Perm (y :: M) := by
  rw [Array.toList_setIfInBounds]
  exact (set_p y l.toList i (by simpa using hi)).trans ((erase_perm hi hx p).cons y)
theorem hp_at {w : World} {B c g cap : Nat} {now t n : Int} {l : Array E} {i : Nat} {a : Int} (hp : Hp w B c (.slice (some ⟨g, 0, none⟩) l.size cap) now l) (hi : i < l.size) (hx : l[i]! = (a, n)) :
    Hp (w.setCell ⟨g, i * 2, none⟩ (.int .i64 t)) B c (.slice (some ⟨g, 0, none⟩) l.size cap) now (l.setIfInBounds i (t, n)) ∧ Kept (mine c (.slice (some ⟨g, 0, none⟩) l.size cap)) w (w.setCell ⟨g, i * 2, none⟩ (.int .i64 t)) := by
  have gc : g ≠ c := fun e => hp.nb (by rw [e]; rfl)
  obtain ⟨o, k⟩ := hp.own.stored (i * 2) (.int .i64 t)
  have e : (fl2 l).set (i * 2) (.int .i64 t) = fl2 (l.setIfInBounds i (t, n)) := by
    apply fl2_ext
    · simp [fl2_len]
    · intro k hk
      have hk' : k < l.size := by simpa using hk
      have g0 := fl2_get l k 0 hk' (by omega)
      have g1 := fl2_get l k 1 hk' (by omega)
      rw [Nat.add_zero] at g0
      have L := fl2_len l
      rw [set_get l i k _ hk']
      by_cases e : k = i
      · subst e
        rw [if_pos rfl]
        constructor
        · rw [List.getElem?_set_self (by omega)]
        · rw [List.getElem?_set_ne (by omega), g1, hx]; rfl
      · rw [if_neg e]
        constructor
        · rw [List.getElem?_set_ne (by omega), g0]; rfl
        · rw [List.getElem?_set_ne (by omega), g1]; rfl
  have far : ∀ j, (⟨g, i * 2, none⟩ : Addr) ≠ ⟨c, j, none⟩ := fun j x => gc (by simpa using congrArg Addr.block x)
  refine ⟨⟨(World.cell?_setCell_other _ _ _ _ (far 0)).trans hp.c0, (World.cell?_setCell_other _ _ _ _ (far 1)).trans hp.c1, by rw [World.frozen?_setCell]; exact hp.f0, by rw [World.frozen?_setCell]; exact hp.f1, ?_, hp.nb, hp.hB⟩, (Kept.refl _ _).setCell (.inl (.inr rfl)) _⟩
  rw [← e, Array.size_setIfInBounds]
  exact o
theorem set_size (l : Array E) (i : Nat) (x : E) : (l.setIfInBounds i x).size = l.size := by simp

set_option maxRecDepth 100000 in
theorem new_any (B : Nat) (w : World) (hB : B ≤ w.heap.size) : Calls Try.prog 8 #[] w fun e w' => e = .returned (.pointer (some ⟨w.heap.size, 0, none⟩)) ∧ Ck w' B w.heap.size (.slice none 0 0) 0 [] ∧ Below w.heap.size w w' := by
  go_enter Try.func8, Try.ntmps8
  go_wp2_with fail
  go_ret
  have BW : Below w.heap.size w (w.alloc (.cells #[.int .i64 0, .slice none 0 0] 45)) := (Below.refl w.heap.size w).alloc (Nat.le_refl _) _
  refine ⟨rfl, ⟨⟨#[], ⟨⟨World.cell?_alloc_at _ _ _ _ rfl, World.cell?_alloc_at _ _ _ _ rfl, World.frozen?_alloc_at _ _ _ _ rfl, World.frozen?_alloc_at _ _ _ _ rfl, World.ownsRow_nil _ _ _ _, (fun e => by cases e), hB⟩, fun k _ hk => absurd hk (Nat.not_lt_zero _)⟩, List.Perm.refl _⟩, List.nodup_nil, by simp, by omega, by omega, fun x hx => by cases hx⟩, BW⟩

set_option maxRecDepth 100000 in
set_option maxHeartbeats 1000000 in
theorem set_bad {w : World} {B c : Nat} {v : Value} {now : Int} {L : List E} (H : Ck w B c v now L) (name t : Int) (ht : t < now ∨ 1073741824 < t) :
    Calls Try.prog 9 #[.pointer (some ⟨c, 0, none⟩), .int .i64 name, .int .i64 t] w fun e w' => e = .returned (.int .i64 1) ∧ w = w' := by
  obtain ⟨l, h, p⟩ := H.ex
  have c0 := h.hp.c0
  by_cases h1 : t < now
  · have d1 : decide (t < now) = true := decide_eq_true h1
    clear H h p ht
    go_enter Try.func9, Try.ntmps9
    go_wp2_with fail
    go_ret
    exact ⟨rfl, rfl⟩
  · have d1 : decide (t < now) = false := decide_eq_false h1
    have d2 : decide (1073741824 < t) = true := decide_eq_true (by omega)
    clear H h p ht
    go_enter Try.func9, Try.ntmps9
    go_wp2_with fail
    go_ret
    exact ⟨rfl, rfl⟩
set_option maxRecDepth 100000 in
set_option maxHeartbeats 2000000 in
theorem set_old {w : World} {B c : Nat} {v : Value} {now a name : Int} {M : List E} (H : Ck w B c v now ((a, name) :: M)) (t : Int) (h1 : now ≤ t) (h2 : t ≤ 1073741824) :
    Calls Try.prog 9 #[.pointer (some ⟨c, 0, none⟩), .int .i64 name, .int .i64 t] w fun e w' => e = .returned (.int .i64 0) ∧ Ck w' B c v now ((t, name) :: M) ∧ Tr w c v w' v := by
  obtain ⟨l, h, p⟩ := H.ex
  have hsz : l.size ≤ 256 := by have := p.length_eq; have := H.le; simp at *; omega
  have hsz0 : 0 < l.size := by have := p.length_eq; simp at *; omega
  have c0 := h.hp.c0
  have c1 := h.hp.c1
  obtain ⟨g, cap, rfl, _⟩ := h.hp.form hsz0
  have K0 := Lib.hid (find_any h.hp name (by omega))
  have d1 : decide (t < now) = false := decide_eq_false (by omega)
  have d2 : decide (1073741824 < t) = false := decide_eq_false (by omega)
  have HH := Lib.hid h
  have PP := Lib.hid p
  have CK := Lib.hid H
  have T1 := Lib.hid h1
  have T2 := Lib.hid h2
  have HZ := Lib.hid hsz
  clear h p H h1 h2 hsz hsz0
  go_enter Try.func9, Try.ntmps9
  go_wp2_with fail
  refine K0.out.mono ?_
  rintro e w1 ⟨r, rfl, hf, hb1⟩
  obtain ⟨i, rfl, hi, hx⟩ := find_hit PP.out CK.out.nd hf
  have H1 := Lib.hid (HH.out.below hb1)
  have TR1 := Lib.hid (Tr.of_below (c := c) (v := .slice (some ⟨g, 0, none⟩) l.size cap) hb1)
  have RW := (own2_row H1.out.hp.own).2 i hi
  have r0 := RW.1
  have fz := H1.out.hp.own.frozenAt (i * 2)
  have b1 := H1.out.hp.c1
  have i1 : (0 : Int) ≤ (i : Int) := by omega
  have i2 : (i : Int) < (l.size : Int) := by omega
  have i3 : ¬ ((i : Int) < 0) := by omega
  obtain ⟨hp2, kk2⟩ := hp_at (t := t) H1.out.hp hi hx
  have K1 := fix_any hp2 i (by rw [set_size]; exact hi) (by rw [set_size]; exact DnI.of H1.out.heap (fun k hk hne => by rw [set_get l i k _ hk, if_neg hne])) (by rw [set_size]; have := HZ.out; omega)
  have KK1 := Lib.hid K1
  have KE2 := Lib.hid kk2
  have SP := Lib.hid (set_perm (y := (t, name)) hi hx PP.out)
  obtain ⟨q, hq⟩ : ∃ q, q = l[i]!.1 := ⟨_, rfl⟩
  rw [← hq] at r0
  clear hf hb1 RW hp2 kk2 K1 hx hq K0 c0 c1
  go_wp2_with fail
  refine KK1.out.mono ?_
  rintro e w2 ⟨rfl, l2, h2, t2, p2⟩
  have RES := Lib.hid (show Ck w2 B c (.slice (some ⟨g, 0, none⟩) l.size cap) now ((t, name) :: M) ∧ Tr w c (.slice (some ⟨g, 0, none⟩) l.size cap) w2 (.slice (some ⟨g, 0, none⟩) l.size cap) from
    ⟨⟨⟨l2, h2, p2.trans SP.out⟩, by have := CK.out.nd; simpa using this, by have := CK.out.le; simpa using this, CK.out.t0, CK.out.t1, fun x hx => by
      rcases List.mem_cons.1 hx with rfl | hx
      · exact ⟨T1.out, T2.out⟩
      · exact CK.out.ats x (List.mem_cons_of_mem _ hx)⟩, TR1.out.trans (Tr.trans ⟨KE2.out, fun x hx => .inl hx⟩ t2)⟩)
  clear h2 t2 p2 KK1
  go_wp2_with fail
  go_ret
  exact ⟨rfl, RES.out⟩

set_option maxRecDepth 100000 in
set_option maxHeartbeats 2000000 in
theorem set_new {w : World} {B c : Nat} {v : Value} {now name : Int} {L : List E} (H : Ck w B c v now L) (hn : ∀ x ∈ L, x.2 ≠ name) (hl : L.length < 256) (t : Int) (h1 : now ≤ t) (h2 : t ≤ 1073741824) :
    Calls Try.prog 9 #[.pointer (some ⟨c, 0, none⟩), .int .i64 name, .int .i64 t] w fun e w' => e = .returned (.int .i64 0) ∧ ∃ v', Ck w' B c v' now ((t, name) :: L) ∧ Tr w c v w' v' := by
  obtain ⟨l, h, p⟩ := H.ex
  have hsz : l.size < 256 := by have := p.length_eq; simp at *; omega
  have c0 := h.hp.c0
  have c1 := h.hp.c1
  have K0 := Lib.hid (find_any h.hp name (by omega))
  obtain ⟨a, cap, hv⟩ := h.hp.shape
  have d1 : decide (t < now) = false := decide_eq_false (by omega)
  have d2 : decide (1073741824 < t) = false := decide_eq_false (by omega)
  have d3 : ¬ ((256 : Int) ≤ (l.size : Int)) := by omega
  have d4 : ¬ (256 ≤ l.size) := by omega
  have HH := Lib.hid h
  have PP := Lib.hid p
  have CK := Lib.hid H
  have T1 := Lib.hid h1
  have T2 := Lib.hid h2
  have HZ := Lib.hid hsz
  have HL := Lib.hid hl
  have HNN := Lib.hid hn
  have HV := Lib.hid hv
  clear h p H h1 h2 hsz hl hn hv
  go_enter Try.func9, Try.ntmps9
  go_wp2_with fail
  refine K0.out.mono ?_
  rintro e w1 ⟨r, rfl, hf, hb1⟩
  obtain rfl := find_miss PP.out HNN.out hf
  have H1 := Lib.hid (HH.out.below hb1)
  have TR1 := Lib.hid (Tr.of_below (c := c) (v := v) hb1)
  have b1 := H1.out.hp.c1
  rw [HV.out] at b1
  have K1 := Lib.hid (hpush_any H1.out t name (by have := H1.out.hp.hB; have := H1.out.hp.lt; omega) (by have := HZ.out; omega))
  clear hf hb1 K0 c0 c1
  go_wp2_with fail
  refine K1.out.mono ?_
  rintro e w2 ⟨rfl, v', l2, h2, t2, p2⟩
  have RES := Lib.hid (show ∃ v', Ck w2 B c v' now ((t, name) :: L) ∧ Tr w c v w2 v' from
    ⟨v', ⟨⟨l2, h2, p2.trans (PP.out.cons _)⟩, by
      simp only [List.map_cons, List.nodup_cons]
      exact ⟨fun hx => by
        obtain ⟨x, hx, e⟩ := List.mem_map.1 hx
        exact HNN.out x hx e, CK.out.nd⟩, by have := HL.out; simp; omega, CK.out.t0, CK.out.t1, fun x hx => by
      rcases List.mem_cons.1 hx with rfl | hx
      · exact ⟨T1.out, T2.out⟩
      · exact CK.out.ats x hx⟩, TR1.out.trans t2⟩)
  clear h2 t2 p2 K1
  go_wp2_with fail
  go_ret
  exact ⟨rfl, RES.out⟩

set_option maxRecDepth 100000 in
set_option maxHeartbeats 2000000 in
theorem set_many {w : World} {B c : Nat} {v : Value} {now name : Int} {L : List E} (H : Ck w B c v now L) (hn : ∀ x ∈ L, x.2 ≠ name) (hl : L.length = 256) (t : Int) (h1 : now ≤ t) (h2 : t ≤ 1073741824) :
    Calls Try.prog 9 #[.pointer (some ⟨c, 0, none⟩), .int .i64 name, .int .i64 t] w fun e w' => e = .returned (.int .i64 3) ∧ Below w.heap.size w w' := by
  obtain ⟨l, h, p⟩ := H.ex
  have hsz : l.size = 256 := by have := p.length_eq; simp at *; omega
  have c0 := h.hp.c0
  have c1 := h.hp.c1
  have K0 := Lib.hid (find_any h.hp name (by omega))
  obtain ⟨a, cap, hv⟩ := h.hp.shape
  rw [hsz] at hv
  have d1 : decide (t < now) = false := decide_eq_false (by omega)
  have d2 : decide (1073741824 < t) = false := decide_eq_false (by omega)
  have HH := Lib.hid h
  have PP := Lib.hid p
  have HNN := Lib.hid hn
  have HV := Lib.hid hv
  clear h p H h1 h2 hsz hl hn hv
  go_enter Try.func9, Try.ntmps9
  go_wp2_with fail
  refine K0.out.mono ?_
  rintro e w1 ⟨r, rfl, hf, hb1⟩
  obtain rfl := find_miss PP.out HNN.out hf
  have b1 := (HH.out.below hb1).hp.c1
  rw [HV.out] at b1
  have BB := Lib.hid hb1
  clear hf hb1 K0 c0 c1
  go_wp2_with fail
  go_ret
  exact ⟨rfl, BB.out⟩
end Go.Proofs.Ythcbhehdilaejaa.ck
