import Derived.Test.YtbfejmehbbieeaaPsHead1
import Derived.Test.YtbfejmehbbieeaaPsOf3
/- The statements' own make2: two sets of what is in its form. -/
set_option linter.unusedVariables false
set_option linter.unusedSimpArgs false
namespace Go.Proofs.Ytbfejmehbbieeaa.psmake
open Go.RowKit Go.Shelf Go.Lib Go.Sort Go.Proofs.Ytbfejmehbbieeaa.math1 Go.Proofs.Ytbfejmehbbieeaa.pscmp Go.Proofs.Ytbfejmehbbieeaa.psfind Go.Proofs.Ytbfejmehbbieeaa.pssort Go.Proofs.Ytbfejmehbbieeaa.psuniq Go.Proofs.Ytbfejmehbbieeaa.pscompact Go.Proofs.Ytbfejmehbbieeaa.psof Go.Proofs.Ytbfejmehbbieeaa.psask Go.Proofs.Ytbfejmehbbieeaa.psplaces Go.Proofs.Ytbfejmehbbieeaa.psgroup

/-- what is in its form, of the first k -/
def okTo (d : Array P2) : Nat → Array P2
  | 0 => #[]
  | k + 1 => if rightB d[k]!.1 d[k]!.2 = true then (okTo d k).push d[k]! else okTo d k
def okD (d : Array P2) : Array P2 := okTo d d.size
theorem okTo_size (d : Array P2) : ∀ k, (okTo d k).size ≤ k
  | 0 => Nat.le_refl _
  | k + 1 => by
    have := okTo_size d k
    rw [okTo]; split
    · rw [Array.size_push]; omega
    · omega
theorem okTo_all (d : Array P2) (hu : AllU d) : ∀ k, k ≤ d.size → ∀ x ∈ (okTo d k).toList, rightB x.1 x.2 = true ∧ 0 ≤ x.1 ∧ x.1 < 4294967296
  | 0, _ => fun x hx => by simp [okTo] at hx
  | k + 1, h => fun x hx => by
    rw [okTo] at hx
    split at hx
    · rename_i hr
      rw [Array.toList_push, List.mem_append] at hx
      rcases hx with hx | hx
      · exact okTo_all d hu k (by omega) x hx
      · obtain rfl : x = d[k]! := by simpa using hx
        exact ⟨hr, hu k (by omega)⟩
    · exact okTo_all d hu k (by omega) x hx
theorem okD_ok {d : Array P2} (hu : AllU d) : AllOk (okD d) ∧ AllU (okD d) := by
  have h := okTo_all d hu d.size (Nat.le_refl _)
  have g : ∀ j, j < (okD d).size → (okD d)[j]! ∈ (okTo d d.size).toList := fun j hj => mem_get.2 ⟨j, hj, rfl⟩
  exact ⟨fun j hj => (h _ (g j hj)).1, fun j hj => (h _ (g j hj)).2⟩
theorem okTo_mem (d : Array P2) (x : P2) : ∀ k, x ∈ (okTo d k).toList ↔ ∃ j, j < k ∧ d[j]! = x ∧ rightB x.1 x.2 = true
  | 0 => by simp [okTo]
  | k + 1 => by
    rw [okTo]
    split
    · rename_i hr
      rw [Array.toList_push, List.mem_append, okTo_mem d x k]
      constructor
      · rintro (⟨j, h1, h2, h3⟩ | h)
        · exact ⟨j, by omega, h2, h3⟩
        · obtain rfl : x = d[k]! := by simpa using h
          exact ⟨k, by omega, rfl, hr⟩
      · rintro ⟨j, h1, h2, h3⟩
        by_cases e : j = k
        · right; rw [← h2, e]; simp
        · exact .inl ⟨j, by omega, h2, h3⟩
    · rename_i hr
      rw [okTo_mem d x k]
      constructor
      · rintro ⟨j, h1, h2, h3⟩; exact ⟨j, by omega, h2, h3⟩
      · rintro ⟨j, h1, h2, h3⟩
        by_cases e : j = k
        · rw [e] at h2; rw [← h2] at h3; exact absurd h3 hr
        · exact ⟨j, by omega, h2, h3⟩

/-- an own row, as Of asks for it -/
theorem isRow_of_own {w : World} {base g n cap : Nat} {d : Array P2} (h : w.ownsRow base 26 2 (.slice (some ⟨g, 0, none⟩) n cap) n (fl d)) : IsRow w (.slice (some ⟨g, 0, none⟩) n cap) d := by
  obtain ⟨hl, hH, _, hlt, _⟩ := holds_of_own h
  exact .inr ⟨g, 0, cap, by rw [hl], row_of_holds hH, hlt⟩
theorem own_empty (w : World) (base : Nat) (hb : base ≤ w.heap.size) : (w.alloc (.cells #[] 26)).ownsRow base 26 2 (.slice (some ⟨w.heap.size, 0, none⟩) 0 0) 0 [] :=
  World.ownsRow_made w #[] 0 hb (by unfold maxLen; omega) rfl

theorem row_far {W : World} {b o : Nat} {d : Array P2} (h : Row W b o d) {p : Addr} {a : Option Addr} {n c : Nat} (hp : W.cell? p = some (.slice a n c)) (v : Value) : Row (W.setCell p v) b o d := fun k hk => by
  obtain ⟨h0, h1⟩ := h k hk
  have e0 : p ≠ ⟨b, o + k * 2, none⟩ := fun e => by rw [e, h0] at hp; cases hp
  have e1 : p ≠ ⟨b, o + k * 2 + 1, none⟩ := fun e => by rw [e, h1] at hp; cases hp
  exact ⟨(World.cell?_setCell_other _ _ _ _ e0).trans h0, (World.cell?_setCell_other _ _ _ _ e1).trans h1⟩
theorem isRow_far {W : World} {s : Value} {d : Array P2} (h : IsRow W s d) {p : Addr} {a : Option Addr} {n c : Nat} (hp : W.cell? p = some (.slice a n c)) (v : Value) : IsRow (W.setCell p v) s d := by
  rcases h with h | ⟨b, o, cap, e, r, l⟩
  · exact .inl h
  · exact .inr ⟨b, o, cap, e, row_far r hp v, by simpa using l⟩
theorem two_far {W : World} {s : Value} {d : Array P2} (h : IsRow W s d) {p q : Addr} (hpq : p ≠ q) {a a' : Option Addr} {n n' c c' : Nat} (hp : W.cell? p = some (.slice a n c)) (hq : W.cell? q = some (.slice a' n' c')) (v v' : Value) : IsRow ((W.setCell p v).setCell q v') s d :=
  isRow_far (isRow_far h hp v) ((World.cell?_setCell_other _ _ _ _ hpq).trans hq) v'

set_option maxRecDepth 100000 in
set_option maxHeartbeats 1000000 in
theorem make2_cap (s1 s2 : Value) (d1 d2 : Array P2) (w : World) (h1 : IsRow w s1 d1) (h2 : IsRow w s2 d2) (u1 : AllU d1) (u2 : AllU d2) (n1 : d1.size ≤ 60) (n2 : d2.size ≤ 60) :
    Calls Try.prog 20 #[s1, s2] w fun e w' => (∃ x y, e = .returned (.tuple #[.agg #[x], .agg #[y]]) ∧ IsRow w' x (mk (okD d1)) ∧ IsRow w' y (mk (okD d2)) ∧ CapOk x (mk (okD d1)).size ∧ CapOk y (mk (okD d2)).size) ∧ Below w.heap.size w w' := by
  obtain ⟨a1, c1, e1⟩ := pssame.IsRow.shape h1
  obtain ⟨a2, c2, e2⟩ := pssame.IsRow.shape h2
  obtain ⟨N1, hN1⟩ : ∃ N, N = d1.size := ⟨_, rfl⟩
  obtain ⟨N2, hN2⟩ : ∃ N, N = d2.size := ⟨_, rfl⟩
  rw [← hN1] at e1 n1
  rw [← hN2] at e2 n2
  subst e1 e2
  have H1 := Lib.hid h1
  have H2 := Lib.hid h2
  have U1 := Lib.hid u1
  have U2 := Lib.hid u2
  have HN1 := Lib.hid hN1
  have HN2 := Lib.hid hN2
  obtain ⟨ip0, hi, hz0, hz1, hz2⟩ : ∃ i, Try.prog.info? 26 = some i ∧ i.zero = some (.agg #[.int .u32 0, .int .i64 0]) ∧ i.size = 2 ∧ i.bytes = 16 := by
    have h := infoPfx
    cases h2 : Try.prog.info? 26 with
    | none => rw [h2] at h; cases h
    | some i => rw [h2] at h; simp at h; exact ⟨i, rfl, h.1, h.2.1, h.2.2⟩
  have I1 := Lib.hid hi
  have I2 := Lib.hid hz0
  have I3 := Lib.hid hz1
  have I4 := Lib.hid hz2
  clear h1 h2 u1 u2 hN1 hN2 hi hz0 hz1 hz2
  go_enter Try.func20, Try.ntmps20
  go_wp2_with fail
  have OX0 := own_empty ((w.alloc (.cells #[.slice none 0 0] 29)).alloc (.cells #[.slice none 0 0] 29)) (w.heap.size + 2) (by simp)
  have OY0 := own_empty (((w.alloc (.cells #[.slice none 0 0] 29)).alloc (.cells #[.slice none 0 0] 29)).alloc (.cells #[] 26)) (w.heap.size + 2) (by simp)
  have G0 : ((w.alloc (.cells #[.slice none 0 0] 29)).alloc (.cells #[.slice none 0 0] 29)).heap.size = w.heap.size + 2 := by simp
  have G1 : (((w.alloc (.cells #[.slice none 0 0] 29)).alloc (.cells #[.slice none 0 0] 29)).alloc (.cells #[] 26)).heap.size = w.heap.size + 3 := by simp
  have OX1 := World.ownsRow.alloc OX0 (.cells #[] 26)
  have c4 : ((w.alloc (.cells #[.slice none 0 0] 29)).alloc (.cells #[.slice none 0 0] 29)).cell? ⟨w.heap.size, 0, none⟩ = some (.slice none 0 0) := aid.ca _ (by go_simp)
  have c5 : ((w.alloc (.cells #[.slice none 0 0] 29)).alloc (.cells #[.slice none 0 0] 29)).cell? ⟨w.heap.size + 1, 0, none⟩ = some (.slice none 0 0) := by go_simp
  have f4 : ((w.alloc (.cells #[.slice none 0 0] 29)).alloc (.cells #[.slice none 0 0] 29)).frozen? ⟨w.heap.size, 0, none⟩ = false := by go_simp
  have f5 : ((w.alloc (.cells #[.slice none 0 0] 29)).alloc (.cells #[.slice none 0 0] 29)).frozen? ⟨w.heap.size + 1, 0, none⟩ = false := by go_simp
  have BW := Lib.hid (((Below.refl w.heap.size w).alloc (Nat.le_refl _) (.cells #[.slice none 0 0] 29)).alloc (by simp) (.cells #[.slice none 0 0] 29))
  obtain ⟨W0, hW0⟩ : ∃ W0, W0 = (w.alloc (.cells #[.slice none 0 0] 29)).alloc (.cells #[.slice none 0 0] 29) := ⟨_, rfl⟩
  rw [← hW0] at OX0 OY0 G0 G1 OX1 c4 c5 f4 f5 BW ⊢
  rw [G1] at OY0
  rw [G0] at OX0 OX1
  have BWW := Lib.hid ((((Below.refl (w.heap.size + 2) W0).alloc (by omega) (.cells #[] 26)).alloc (by omega) (.cells #[] 26)))
  have OX := Lib.hid OX1
  have OYe := Lib.hid OY0
  have C4 := Lib.hid c4
  have C5 := Lib.hid c5
  have F4 := Lib.hid f4
  have F5 := Lib.hid f5
  clear hW0 OX0 OX1 OY0 c4 c5 f4 f5 G1
  go_loopw [6, 20] (fun xv iv wr => ∃ k g cap : Nat, k ≤ N1 ∧ iv = .int .i64 k ∧ xv = .slice (some ⟨g, 0, none⟩) (okTo d1 k).size cap ∧ Hid (wr.ownsRow (w.heap.size + 2) 26 2 (.slice (some ⟨g, 0, none⟩) (okTo d1 k).size cap) (okTo d1 k).size (fl (okTo d1 k))) ∧ Hid (wr.ownsRow (w.heap.size + 2) 26 2 (.slice (some ⟨(w.heap.size + 3), 0, none⟩) 0 0) 0 []) ∧ (w.heap.size + 3) ≠ g ∧ Hid (Below (w.heap.size + 2) W0 wr)) (fun _ iv _ => N1 - (intOf iv).toNat)
  case atStart => exact ⟨0, w.heap.size + 2, 0, by omega, rfl, rfl, Lib.hid (by rw [show fl (okTo d1 0) = [] from pshead.fl_nil]; exact OX.out), OYe, by omega, BWW⟩
  case round =>
    obtain ⟨k, g, cap, hk, rfl, rfl, O, OY, hne, Bl⟩ := hrel
    by_cases hlt : k < N1
    · have hd : k < d1.size := by rw [← HN1.out]; exact hlt
      have hws : w.heap.size + 2 ≤ wr.heap.size := by have := Bl.out.size; omega
      obtain ⟨b, o, rfl, RW⟩ : ∃ b o, a1 = some ⟨b, o, none⟩ ∧ Row w b o d1 := by
        rcases H1.out with ⟨_, e⟩ | ⟨b, o, cp, e, r, _⟩
        · rw [e] at hd; exact absurd hd (Nat.not_lt_zero _)
        · simp only [Value.slice.injEq] at e
          exact ⟨b, o, e.1, r⟩
      have RR := RW.below (BW.out.trans (Bl.out.mono (Nat.le_add_right _ 2)))
      have k0 := (RR k hd).1
      have k1 := (RR k hd).2
      obtain ⟨⟨x1, x2⟩, hx⟩ : ∃ x, x = d1[k]! := ⟨_, rfl⟩
      have hxu := U1.out k hd
      rw [← hx] at k0 k1 hxu
      dsimp only at k0 k1 hxu
      have K := Lib.hid (fun W => ip1.check_any x1 x2 W hxu.1 hxu.2)
      have HX := Lib.hid hx
      have hsk := okTo_size d1 k
      have BA := Lib.hid (fun o' : Obj => (Below.refl wr.heap.size wr).alloc (Nat.le_refl _) o')
      clear RR RW hx hxu
      cases hr : rightB x1 x2
      · rw [hr] at K
        simp only [Bool.false_eq_true, if_false] at K
        have hst := Lib.hid (show okTo d1 (k + 1) = okTo d1 k from by rw [okTo, ← HX.out, hr]; rfl)
        clear hr
        go_wp2_with fail
        refine (K.out _).mono ?_
        rintro e w1 ⟨rfl, hb⟩
        have hbw := aid.kb hb (BA.out (.cells #[.int .u32 x1, .int .i64 x2] 26))
        have O1 := Lib.hid (own_below O.out hbw)
        have OY1 := Lib.hid (own_below OY.out hbw)
        have B1 := Lib.hid (Bl.out.trans (hbw.mono hws))
        clear hb hbw
        go_wp2_with fail
        go_roundw
        case rel => exact ⟨k + 1, g, cap, by omega, by go_num, by rw [hst.out], by rw [hst.out]; exact O1, OY1, hne, B1⟩
        case measure => simp [intOf]; omega
      · rw [hr] at K
        simp only [if_true] at K
        have hst := Lib.hid (show okTo d1 (k + 1) = (okTo d1 k).push (x1, x2) from by rw [okTo, ← HX.out, hr]; rfl)
        clear hr
        go_wp2_with fail
        refine (K.out _).mono ?_
        rintro e w1 ⟨rfl, hb⟩
        have hbw := aid.kb hb (BA.out (.cells #[.int .u32 x1, .int .i64 x2] 26))
        have O1 := own_below O.out hbw
        have OY1 := own_below OY.out hbw
        have B1 := Bl.out.trans (hbw.mono hws)
        have q0 := aid.kc hb (aid.new2a wr (.int .u32 x1) (.int .i64 x2) 26)
        have q1 := aid.kc hb (aid.new2b wr (.int .u32 x1) (.int .i64 x2) 26)
        have hws1 : w.heap.size + 2 ≤ w1.heap.size := by have := hbw.size; omega
        have OWN := Lib.hid (World.ownsRow.alloc O1 (.cells #[.int .u32 x1, .int .i64 x2] 26))
        have OYA := Lib.hid (World.ownsRow.alloc OY1 (.cells #[.int .u32 x1, .int .i64 x2] 26))
        have BLA := Lib.hid (B1.alloc hws1 (.cells #[.int .u32 x1, .int .i64 x2] 26))
        have NW := Lib.hid (show ∀ (j : Nat) u, (enc (x1, x2))[j]? = some u → (w1.alloc (.cells #[.int .u32 x1, .int .i64 x2] 26)).cell? ((⟨w1.heap.size, 0, none⟩ : Addr).add j) = some u from fun j u hu => by
          rw [Addr.add_mid]
          match j, hu with
          | 0, hu => simp [enc] at hu; rw [← hu]; exact aid.new2a w1 _ _ _
          | 1, hu => simp [enc] at hu; rw [← hu]; exact aid.new2b w1 _ _ _
          | j + 2, hu => simp [enc] at hu)
        have E1 : ∀ u ∈ enc (x1, x2), u.oneCell' = true := fun u hu => by simp [enc] at hu; rcases hu with rfl | rfl <;> rfl
        have hgb := Lib.hid (O1.lt g rfl).1
        clear hb hbw O1 OY1 B1 K
        go_wp2_with (at_builtin; refine wpList_append_lies _ rfl (.tmp 27) (.tmp 29) 22 rfl (w.heap.size + 2) 26 ip0 (.agg #[.int .u32 0, .int .i64 0]) 2 16 Try.underlying22 I1.out I2.out I3.out I4.out rfl (by decide) _ (okTo d1 k).size (fl (okTo d1 k)) rfl OWN.out ⟨w1.heap.size, 0, none⟩ 1 1 (enc (x1, x2)) rfl rfl NW.out E1 (by decide) (by unfold maxLen; omega) (by omega) (by simp; omega) _ rfl ?_)
        intro g' cap' w3 hown3 hgrow3 hat3 hlt3
        have O3 := Lib.hid (show w3.ownsRow (w.heap.size + 2) 26 2 (.slice (some ⟨g', 0, none⟩) (okTo d1 (k + 1)).size cap') (okTo d1 (k + 1)).size (fl (okTo d1 (k + 1))) from by
          rw [hst.out, fl_push, Array.size_push]; exact hown3)
        have OY3 := Lib.hid (OYA.out.kept hgrow3 (.inr (fun e => hne (by simpa [Value.ownBlock] using e))))
        have hob := (OYA.out.lt (w.heap.size + 3) rfl).2
        have hne3 : (w.heap.size + 3) ≠ g' := by
          rcases hat3 with e | e
          · simp only [Value.ownBlock, Option.some.injEq] at e
            omega
          · simp at e hob
            omega
        have B3 := Lib.hid (BLA.out.grown hgrow3 (by simp; omega) (fun q hq => by
          simp only [Value.ownBlock, Option.some.injEq] at hq
          have := hgb.out
          omega))
        have hsz : (okTo d1 (k + 1)).size = (okTo d1 k).size + 1 := by rw [hst.out, Array.size_push]
        clear hown3 hgrow3 hat3 hlt3 hob
        go_wp2_with fail
        go_roundw
        case rel => exact ⟨k + 1, g', cap', by omega, by go_num, by rw [hsz], O3, OY3, hne3, B3⟩
        case measure => simp [intOf]; omega
    · have hk' : k = N1 := by omega
      subst hk'
      obtain ⟨gx, hgx⟩ : ∃ q, q = g := ⟨_, rfl⟩
      obtain ⟨cx, hcx⟩ : ∃ q, q = cap := ⟨_, rfl⟩
      have hX0 : (okTo d1 k).size ≤ 60 := by have := okTo_size d1 k; omega
      obtain ⟨X, hX⟩ : ∃ X, X = okTo d1 k := ⟨_, rfl⟩
      rw [← hX, ← hgx, ← hcx] at O ⊢
      rw [← hgx] at hne
      rw [← hX] at hX0
      have HXX := Lib.hid (show X = okD d1 from by rw [hX, okD, ← HN1.out])
      clear hX hgx hcx
      go_wp2_with fail
      go_loopw [7, 34] (fun xv iv wr => ∃ k g cap : Nat, k ≤ N2 ∧ iv = .int .i64 k ∧ xv = .slice (some ⟨g, 0, none⟩) (okTo d2 k).size cap ∧ Hid (wr.ownsRow (w.heap.size + 2) 26 2 (.slice (some ⟨g, 0, none⟩) (okTo d2 k).size cap) (okTo d2 k).size (fl (okTo d2 k))) ∧ Hid (wr.ownsRow (w.heap.size + 2) 26 2 (.slice (some ⟨gx, 0, none⟩) X.size cx) X.size (fl X)) ∧ gx ≠ g ∧ Hid (Below (w.heap.size + 2) W0 wr)) (fun _ iv _ => N2 - (intOf iv).toNat)
      case atStart => exact ⟨0, w.heap.size + 3, 0, by omega, rfl, rfl, Lib.hid (by rw [show fl (okTo d2 0) = [] from pshead.fl_nil]; exact OY.out), O, Ne.symm hne, Bl⟩
      case round =>
        obtain ⟨k, g, cap, hk, rfl, rfl, O, OY, hne, Bl⟩ := hrel
        by_cases hlt : k < N2
        · have hd : k < d2.size := by rw [← HN2.out]; exact hlt
          have hws : w.heap.size + 2 ≤ wr.heap.size := by have := Bl.out.size; omega
          obtain ⟨b, o, rfl, RW⟩ : ∃ b o, a2 = some ⟨b, o, none⟩ ∧ Row w b o d2 := by
            rcases H2.out with ⟨_, e⟩ | ⟨b, o, cp, e, r, _⟩
            · rw [e] at hd; exact absurd hd (Nat.not_lt_zero _)
            · simp only [Value.slice.injEq] at e
              exact ⟨b, o, e.1, r⟩
          have RR := RW.below (BW.out.trans (Bl.out.mono (Nat.le_add_right _ 2)))
          have k0 := (RR k hd).1
          have k1 := (RR k hd).2
          obtain ⟨⟨x1, x2⟩, hx⟩ : ∃ x, x = d2[k]! := ⟨_, rfl⟩
          have hxu := U2.out k hd
          rw [← hx] at k0 k1 hxu
          dsimp only at k0 k1 hxu
          have K := Lib.hid (fun W => ip1.check_any x1 x2 W hxu.1 hxu.2)
          have HX := Lib.hid hx
          have hsk := okTo_size d2 k
          have BA := Lib.hid (fun o' : Obj => (Below.refl wr.heap.size wr).alloc (Nat.le_refl _) o')
          clear RR RW hx hxu
          cases hr : rightB x1 x2
          · rw [hr] at K
            simp only [Bool.false_eq_true, if_false] at K
            have hst := Lib.hid (show okTo d2 (k + 1) = okTo d2 k from by rw [okTo, ← HX.out, hr]; rfl)
            clear hr
            go_wp2_with fail
            refine (K.out _).mono ?_
            rintro e w1 ⟨rfl, hb⟩
            have hbw := aid.kb hb (BA.out (.cells #[.int .u32 x1, .int .i64 x2] 26))
            have O1 := Lib.hid (own_below O.out hbw)
            have OY1 := Lib.hid (own_below OY.out hbw)
            have B1 := Lib.hid (Bl.out.trans (hbw.mono hws))
            clear hb hbw
            go_wp2_with fail
            go_roundw
            case rel => exact ⟨k + 1, g, cap, by omega, by go_num, by rw [hst.out], by rw [hst.out]; exact O1, OY1, hne, B1⟩
            case measure => simp [intOf]; omega
          · rw [hr] at K
            simp only [if_true] at K
            have hst := Lib.hid (show okTo d2 (k + 1) = (okTo d2 k).push (x1, x2) from by rw [okTo, ← HX.out, hr]; rfl)
            clear hr
            go_wp2_with fail
            refine (K.out _).mono ?_
            rintro e w1 ⟨rfl, hb⟩
            have hbw := aid.kb hb (BA.out (.cells #[.int .u32 x1, .int .i64 x2] 26))
            have O1 := own_below O.out hbw
            have OY1 := own_below OY.out hbw
            have B1 := Bl.out.trans (hbw.mono hws)
            have q0 := aid.kc hb (aid.new2a wr (.int .u32 x1) (.int .i64 x2) 26)
            have q1 := aid.kc hb (aid.new2b wr (.int .u32 x1) (.int .i64 x2) 26)
            have hws1 : w.heap.size + 2 ≤ w1.heap.size := by have := hbw.size; omega
            have OWN := Lib.hid (World.ownsRow.alloc O1 (.cells #[.int .u32 x1, .int .i64 x2] 26))
            have OYA := Lib.hid (World.ownsRow.alloc OY1 (.cells #[.int .u32 x1, .int .i64 x2] 26))
            have BLA := Lib.hid (B1.alloc hws1 (.cells #[.int .u32 x1, .int .i64 x2] 26))
            have NW := Lib.hid (show ∀ (j : Nat) u, (enc (x1, x2))[j]? = some u → (w1.alloc (.cells #[.int .u32 x1, .int .i64 x2] 26)).cell? ((⟨w1.heap.size, 0, none⟩ : Addr).add j) = some u from fun j u hu => by
              rw [Addr.add_mid]
              match j, hu with
              | 0, hu => simp [enc] at hu; rw [← hu]; exact aid.new2a w1 _ _ _
              | 1, hu => simp [enc] at hu; rw [← hu]; exact aid.new2b w1 _ _ _
              | j + 2, hu => simp [enc] at hu)
            have E1 : ∀ u ∈ enc (x1, x2), u.oneCell' = true := fun u hu => by simp [enc] at hu; rcases hu with rfl | rfl <;> rfl
            have hgb := Lib.hid (O1.lt g rfl).1
            clear hb hbw O1 OY1 B1 K
            go_wp2_with (at_builtin; refine wpList_append_lies _ rfl (.tmp 41) (.tmp 43) 22 rfl (w.heap.size + 2) 26 ip0 (.agg #[.int .u32 0, .int .i64 0]) 2 16 Try.underlying22 I1.out I2.out I3.out I4.out rfl (by decide) _ (okTo d2 k).size (fl (okTo d2 k)) rfl OWN.out ⟨w1.heap.size, 0, none⟩ 1 1 (enc (x1, x2)) rfl rfl NW.out E1 (by decide) (by unfold maxLen; omega) (by omega) (by simp; omega) _ rfl ?_)
            intro g' cap' w3 hown3 hgrow3 hat3 hlt3
            have O3 := Lib.hid (show w3.ownsRow (w.heap.size + 2) 26 2 (.slice (some ⟨g', 0, none⟩) (okTo d2 (k + 1)).size cap') (okTo d2 (k + 1)).size (fl (okTo d2 (k + 1))) from by
              rw [hst.out, fl_push, Array.size_push]; exact hown3)
            have OY3 := Lib.hid (OYA.out.kept hgrow3 (.inr (fun e => hne (by simpa [Value.ownBlock] using e))))
            have hob := (OYA.out.lt gx rfl).2
            have hne3 : gx ≠ g' := by
              rcases hat3 with e | e
              · simp only [Value.ownBlock, Option.some.injEq] at e
                omega
              · simp at e hob
                omega
            have B3 := Lib.hid (BLA.out.grown hgrow3 (by simp; omega) (fun q hq => by
              simp only [Value.ownBlock, Option.some.injEq] at hq
              have := hgb.out
              omega))
            have hsz : (okTo d2 (k + 1)).size = (okTo d2 k).size + 1 := by rw [hst.out, Array.size_push]
            clear hown3 hgrow3 hat3 hlt3 hob
            go_wp2_with fail
            go_roundw
            case rel => exact ⟨k + 1, g', cap', by omega, by go_num, by rw [hsz], O3, OY3, hne3, B3⟩
            case measure => simp [intOf]; omega
        · have hk' : k = N2 := by omega
          subst hk'
          have hsy : (okTo d2 k).size ≤ 60 := by have := okTo_size d2 k; omega
          obtain ⟨Y, hY⟩ : ∃ Y, Y = okTo d2 k := ⟨_, rfl⟩
          rw [← hY] at O hsy ⊢
          have HYY := Lib.hid (show Y = okD d2 from by rw [hY, okD, ← HN2.out])
          clear hY
          have KX := Lib.hid (of_set2 (.slice (some ⟨gx, 0, none⟩) X.size cx) X wr (isRow_of_own OY.out) (by omega) (by rw [HXX.out]; exact (okD_ok U1.out).2) (by rw [HXX.out]; exact (okD_ok U1.out).1) (by have := mk_size X; omega))
          go_wp2_with fail
          refine KX.out.mono ?_
          rintro e v1 ⟨⟨sx, rfl, hsx, pcx⟩, hb1⟩
          have PCX := Lib.hid pcx
          clear pcx
          obtain ⟨ax, mx, cx2, rfl⟩ : ∃ a n c, sx = Value.slice a n c := by
            obtain ⟨a, c, h⟩ := pssame.IsRow.shape hsx
            exact ⟨a, _, c, h⟩
          have y1 : Below v1.heap.size v1 (v1.alloc (.cells #[.slice ax mx cx2] 29)) := (Below.refl _ _).alloc (Nat.le_refl _) _
          have z1 := aid.kb y1 hb1
          have KY := Lib.hid (of_set2 (.slice (some ⟨g, 0, none⟩) Y.size cap) Y _ (isRow_of_own (own_below O.out z1)) (by omega) (by rw [HYY.out]; exact (okD_ok U2.out).2) (by rw [HYY.out]; exact (okD_ok U2.out).1) (by have := mk_size Y; omega))
          have hwr : w.heap.size + 2 ≤ wr.heap.size := by have := Bl.out.size; omega
          have BV := Lib.hid (Bl.out.trans (z1.mono hwr))
          have RX := Lib.hid (hsx.below y1)
          have CX := Lib.hid (show (v1.alloc (.cells #[.slice ax mx cx2] 29)).cell? ⟨v1.heap.size, 0, none⟩ = some (.slice ax mx cx2) by go_simp)
          have hv1 : wr.heap.size ≤ v1.heap.size := hb1.size
          clear hsx y1 z1 hb1
          go_wp2_with fail
          refine KY.out.mono ?_
          rintro e v2 ⟨⟨sy, rfl, hsy2, pcy⟩, hb2⟩
          have PCY := Lib.hid pcy
          clear pcy
          obtain ⟨ay, my, cy2, rfl⟩ : ∃ a n c, sy = Value.slice a n c := by
            obtain ⟨a, c, h⟩ := pssame.IsRow.shape hsy2
            exact ⟨a, _, c, h⟩
          have y2 : Below v2.heap.size v2 (v2.alloc (.cells #[.slice ay my cy2] 29)) := (Below.refl _ _).alloc (Nat.le_refl _) _
          have z2 := aid.kb y2 hb2
          have BV2 := BV.out.trans (z2.mono (by simp; omega))
          have RX2 := Lib.hid (RX.out.below z2)
          have RY2 := Lib.hid (hsy2.below y2)
          have n12 := aid.kc z2 CX.out
          have n14 : (v2.alloc (.cells #[.slice ay my cy2] 29)).cell? ⟨v2.heap.size, 0, none⟩ = some (.slice ay my cy2) := by go_simp
          have hw0 : w.heap.size < w.heap.size + 2 := by omega
          have hw1 : w.heap.size + 1 < w.heap.size + 2 := by omega
          have n4 := (BV2.cell (p := ⟨w.heap.size, 0, none⟩) hw0).trans C4.out
          have n5 := (BV2.cell (p := ⟨w.heap.size + 1, 0, none⟩) hw1).trans C5.out
          have m4 := (BV2.frozen (p := ⟨w.heap.size, 0, none⟩) hw0).trans F4.out
          have m5 := (BV2.frozen (p := ⟨w.heap.size + 1, 0, none⟩) hw1).trans F5.out
          have hv2 : v1.heap.size < v2.heap.size := by have := hb2.size; simp at this; omega
          have BFIN := Lib.hid (BW.out.trans (BV2.mono (Nat.le_add_right _ 2)))
          have XE := Lib.hid (show mk X = mk (okD d1) by rw [HXX.out])
          have YE := Lib.hid (show mk Y = mk (okD d2) by rw [HYY.out])
          clear hsy2 y2 z2 BV2 hb2
          have hq1 : v1.heap.size ≠ w.heap.size := by omega
          have hq2 : v1.heap.size ≠ w.heap.size + 1 := by omega
          have hq3 : v2.heap.size ≠ w.heap.size := by omega
          have hq4 : v2.heap.size ≠ w.heap.size + 1 := by omega
          go_wp2_with fail
          go_region
          all_goals
            go_wp2_with fail
            refine bodyPost_ret (v := .tuple #[.agg #[.slice ax mx cx2], .agg #[.slice ay my cy2]]) (by simp [results, Try.results20, go_sem, n4, n5]) rfl ⟨⟨_, _, rfl, ?_, ?_, by rw [← XE.out]; exact PCX.out, by rw [← YE.out]; exact PCY.out⟩, ?_⟩
            · rw [← XE.out]
              first | exact two_far RX2.out (by simp) n4 n5 _ _ | exact two_far RX2.out (by simp) n5 n4 _ _
            · rw [← YE.out]
              first | exact two_far RY2.out (by simp) n4 n5 _ _ | exact two_far RY2.out (by simp) n5 n4 _ _
            · exact ((BFIN.out.setCell (p := ⟨_, 0, none⟩) (by simp) _).setCell (p := ⟨_, 0, none⟩) (by simp) _).drew
theorem make2_any (s1 s2 : Value) (d1 d2 : Array P2) (w : World) (h1 : IsRow w s1 d1) (h2 : IsRow w s2 d2) (u1 : AllU d1) (u2 : AllU d2) (n1 : d1.size ≤ 60) (n2 : d2.size ≤ 60) :
    Calls Try.prog 20 #[s1, s2] w fun e w' => (∃ x y, e = .returned (.tuple #[.agg #[x], .agg #[y]]) ∧ IsRow w' x (mk (okD d1)) ∧ IsRow w' y (mk (okD d2))) ∧ Below w.heap.size w w' :=
  (make2_cap s1 s2 d1 d2 w h1 h2 u1 u2 n1 n2).mono fun e w' ⟨⟨x, y, he, hx, hy, _, _⟩, hb⟩ => ⟨⟨x, y, he, hx, hy⟩, hb⟩
end Go.Proofs.Ytbfejmehbbieeaa.psmake
