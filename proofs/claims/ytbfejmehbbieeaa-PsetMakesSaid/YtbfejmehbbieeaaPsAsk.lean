import Derived.Test.YtbfejmehbbieeaaPsOf2
import Derived.Test.YtbfejmehbbieeaaPsEqual
import Derived.Test.YtbfejmehbbieeaaPsCompare
/- Package pset: List, Has, Covers, Same, Cmp of sets. -/
set_option linter.unusedVariables false
set_option linter.unusedSimpArgs false
namespace Go.Proofs.Ytbfejmehbbieeaa.psask
open Go.RowKit Go.Shelf Go.Lib Go.Sort Go.Proofs.Ytbfejmehbbieeaa.math1 Go.Proofs.Ytbfejmehbbieeaa.pscmp Go.Proofs.Ytbfejmehbbieeaa.psfind Go.Proofs.Ytbfejmehbbieeaa.pssort Go.Proofs.Ytbfejmehbbieeaa.psuniq Go.Proofs.Ytbfejmehbbieeaa.pscompact Go.Proofs.Ytbfejmehbbieeaa.psof

theorem sizeOfPfx : ∀ w, (Go.sizeOf 26).run Try.prog w = .ok 2 w := fun w => by kernel_rfl

/-- List: the prefixes in new memory -/
theorem list_any (s : Value) (d : Array P2) (w : World) (hR : IsRow w s d) (hsz : d.size ≤ 4294967296) :
    Calls Try.prog 16 #[.agg #[s]] w fun e w' => (∃ s', e = .returned s' ∧ IsRow w' s' d) ∧ Below w.heap.size w w' := by
  rcases hR with ⟨rfl, rfl⟩ | ⟨b, o, cap, rfl, hR, _⟩
  · have hcon := fun W => AnyE.slices_Clone_nil Try.cloneP 0 0 W
    have K := Lib.hid (show ∀ W, Calls Try.prog 38 #[.slice none 0 0] W fun e w' => e = .returned (.slice none 0 0) ∧ w' = W from hcon)
    clear hcon
    go_enter Try.func16, Try.ntmps16
    go_wp2_with fail
    refine (K.out _).mono ?_
    rintro e w1 ⟨rfl, rfl⟩
    go_wp2_with fail
    go_ret
    exact ⟨⟨_, rfl, .inl ⟨rfl, rfl⟩⟩, (Below.refl _ _).alloc (Nat.le_refl _) _⟩
  · obtain ⟨ip0, hi, hz0, hz1, hz2⟩ : ∃ i, Try.prog.info? 26 = some i ∧ i.zero = some (.agg #[.int .u32 0, .int .i64 0]) ∧ i.size = 2 ∧ i.bytes = 16 := by
      have h := infoPfx
      cases h2 : Try.prog.info? 26 with
      | none => rw [h2] at h; cases h
      | some i => rw [h2] at h; simp at h; exact ⟨i, rfl, h.1, h.2.1, h.2.2⟩
    have hcon := fun W (hW : Row W b o d) => AnyE.slices_Clone Try.cloneP ip0 _ 2 16 hi hz0 hz1 hz2 rfl (by decide) sizeOfPfx b o d.size cap (fl d) W (fl_len d) (by unfold maxLen; omega) (by omega) (fun j u hu => by
      have := fl_row hW j u hu
      rwa [Addr.add_mid] at this) (fl_one d)
    have K := Lib.hid (show ∀ W, Row W b o d → Calls Try.prog 38 #[.slice (some ⟨b, o, none⟩) d.size cap] W fun e w' => ∃ v', e = .returned v' ∧ w'.ownsRow W.heap.size 26 2 v' d.size (fl d) ∧ v' ≠ .slice none 0 0 ∧ Below W.heap.size W w' from hcon)
    have R := Lib.hid hR
    clear hcon hi hz0 hz1 hz2 hR
    have RA := Lib.hid (fun o' : Obj => R.out.below ((Below.refl w.heap.size w).alloc (Nat.le_refl _) o'))
    go_enter Try.func16, Try.ntmps16
    go_wp2_with fail
    refine (K.out _ (RA.out _)).mono ?_
    rintro e w1 ⟨v', rfl, hown, hne, hb⟩
    have G := Lib.hid (show ∃ s', v' = s' ∧ IsRow w1 s' d from by
      rcases hown.2 with ⟨h, _⟩ | ⟨g, c, cur, rfl, _⟩
      · exact absurd h hne
      · exact ⟨_, rfl, .inr ⟨g, 0, c, rfl, row_of_holds (holds_of_own hown).2.1, (holds_of_own hown).2.2.2.1⟩⟩)
    have B := Lib.hid (aid.kb hb ((Below.refl w.heap.size w).alloc (Nat.le_refl _) (.cells #[.slice (some ⟨b, o, none⟩) d.size cap] 29)))
    clear hown hne hb
    go_wp2_with fail
    go_ret
    obtain ⟨s', rfl, h⟩ := G.out
    exact ⟨⟨_, rfl, h⟩, B.out⟩

set_option maxRecDepth 100000 in
theorem search_nil (t : P2) (w : World) :
    Calls Try.prog 39 #[.slice none 0 0, .agg #[.int .u32 t.1, .int .i64 t.2], .func (.func 26) #[] #[]] w
      fun e w' => (∃ i : Int, e = .returned (.tuple #[.int .i64 i, .bool false])) ∧ Below w.heap.size w w' := by
  have BW := Lib.hid ((Below.refl w.heap.size w).alloc (Nat.le_refl _) (.cells #[.int .u32 t.1, .int .i64 t.2] 26))
  go_enter Try.func39, Try.ntmps39
  go_wp2_with fail
  go_loopw [9, 10, 11] (fun iv jv hv wr => iv = .int .i64 0 ∧ jv = .int .i64 0 ∧ Hid (Below w.heap.size w wr)) (fun i j _ _ => 0)
  case atStart => exact ⟨rfl, rfl, BW⟩
  case round =>
    obtain ⟨rfl, rfl, B⟩ := hrel
    go_wp2_with fail
    refine aid.wp_region_keep (by kernel_rfl) (by kernel_rfl) ?_
    repeat (go_big_quiet_step (fail))
    refine wpQuiet_nil ?_
    rintro _ ⟨s, rfl⟩
    go_wp2_with fail
    exact bodyPost_ret (v := .tuple #[.int .i64 0, .bool false]) (by simp [results, Try.results39, go_sem]) rfl ⟨⟨0, rfl⟩, aid.kbk B.out s⟩

/-- Has -/
theorem has_set (s : Value) (d : Array P2) (t : P2) (w : World) (hR : IsRow w s d) (hs : Strict d) (hsz : d.size ≤ 4294967296) :
    Calls Try.prog 17 #[.agg #[s], .agg #[.int .u32 t.1, .int .i64 t.2]] w fun e w' => e = .returned (.bool (decide (t ∈ d.toList))) ∧ Below w.heap.size w w' := by
  have KK : ∀ W, IsRow W s d → Calls Try.prog 39 #[s, .agg #[.int .u32 t.1, .int .i64 t.2], .func (.func 26) #[] #[]] W
      fun e w' => (∃ i : Int, e = .returned (.tuple #[.int .i64 i, .bool (decide (t ∈ d.toList))])) ∧ Below W.heap.size W w' := by
    intro W hW
    rcases hW with ⟨rfl, rfl⟩ | ⟨b, o, cap, rfl, hW, _⟩
    · exact search_nil t W
    · exact psfind.search_any b o cap d t W hW hs (by omega)
  obtain ⟨a, m, c, rfl⟩ : ∃ a m c, s = .slice a m c := by
    rcases hR with ⟨rfl, _⟩ | ⟨b, o, cap, rfl, _⟩ <;> exact ⟨_, _, _, rfl⟩
  have K := Lib.hid KK
  have RA := Lib.hid (fun o1 o2 : Obj => (hR.below ((Below.refl w.heap.size w).alloc (Nat.le_refl _) o1)).below ((Below.refl _ _).alloc (Nat.le_refl _) o2))
  obtain ⟨r, hr⟩ : ∃ r, r = decide (t ∈ d.toList) := ⟨_, rfl⟩
  obtain ⟨t1, t2⟩ := t
  rw [← hr] at K ⊢
  dsimp only at K ⊢
  clear KK hR hr hs
  go_enter Try.func17, Try.ntmps17
  go_wp2_with fail
  refine (K.out _ (RA.out _ _)).mono ?_
  rintro e w1 ⟨⟨i, rfl⟩, hb⟩
  have B := Lib.hid (aid.kb hb (((Below.refl w.heap.size w).alloc (Nat.le_refl _) (.cells #[.slice a m c] 29)).alloc (by simp) (.cells #[.int .u32 t1, .int .i64 t2] 26)))
  clear hb
  go_wp2_with fail
  go_ret
  exact ⟨rfl, B.out⟩

/-- a prefix whose address is one -/
abbrev UP := { x : P2 // 0 ≤ x.1 ∧ x.1 < 4294967296 }
instance upInhabited : Inhabited UP := ⟨⟨(0, 0), by decide⟩⟩
def encU (x : UP) : List Value := [.int .u32 x.1.1, .int .i64 x.1.2]
theorem pred_covers (y : Int) (B : Nat) (w : World) (hy : 0 ≤ y ∧ y < 4294967296) (hB : B < w.heap.size) (hcell : w.cell? ⟨B, 0, none⟩ = some (.int .u32 y)) :
    PredBelow Try.prog 41 #[.pointer (some ⟨B, 0, none⟩)] (fun x : UP => .agg (encU x).toArray) (fun x => hasB x.1.1 x.1.2 y) w := fun W x hb => by
  have hc : W.cell? ⟨B, 0, none⟩ = some (.int .u32 y) := (hb.cell (p := ⟨B, 0, none⟩) hB).trans hcell
  obtain ⟨⟨a, n⟩, h0, h1⟩ := x
  show Calls Try.prog 41 #[.agg #[.int .u32 a, .int .i64 n], .pointer (some ⟨B, 0, none⟩)] W _
  have K := Lib.hid (fun W' => ip1.has_any a n y W' h0 h1 hy.1 hy.2)
  have CA := aid.ca (.cells #[.int .u32 a, .int .i64 n] 26) hc
  have BB := Lib.hid (hb.alloc hb.size (.cells #[.int .u32 a, .int .i64 n] 26))
  clear hb hcell hc
  go_enter Try.func41, Try.ntmps41
  go_wp2_with fail
  refine (K.out _).mono ?_
  rintro e w1 ⟨rfl, hb1⟩
  have B1 := Lib.hid (aid.kb hb1 BB.out)
  clear hb1
  go_wp2_with fail
  go_ret
  exact ⟨rfl, B1.out⟩

/-- does an address lie in one of the prefixes -/
def coversD (d : Array P2) (y : Int) : Bool := d.toList.any fun x => hasB x.1 x.2 y

theorem contains_nil (f : Value) (w : World) : Calls Try.prog 40 #[.slice none 0 0, f] w fun e w' => e = .returned (.bool false) ∧ Below w.heap.size w w' := by
  have K : ∀ W, Calls Try.prog 55 #[.slice none 0 0, f] W fun e w' => e = .returned (.int .i64 (-1)) ∧ W = w' := by
    intro W
    go_enter Try.func55, Try.ntmps55
    go_wp2_with fail
    go_loopw [8] (fun iv wr => iv = .int .i64 0 ∧ Hid (W = wr)) (fun _ _ => 0)
    case atStart => exact ⟨rfl, rfl⟩
    case round =>
      obtain ⟨rfl, E⟩ := hrel
      go_wp2_with fail
      go_ret
      exact ⟨rfl, E.out⟩
  have K1 := Lib.hid K
  clear K
  go_enter Try.func40, Try.ntmps40
  go_wp2_with fail
  refine (K1.out _).mono ?_
  rintro e w1 ⟨rfl, rfl⟩
  go_wp2_with fail
  go_ret
  exact ⟨rfl, Below.refl _ _⟩

theorem covers_set (s : Value) (d : Array P2) (y : Int) (w : World) (hR : IsRow w s d) (hu : AllU d) (hy : 0 ≤ y ∧ y < 4294967296) (hsz : d.size ≤ 4294967296) :
    Calls Try.prog 19 #[.agg #[s], .int .u32 y] w fun e w' => e = .returned (.bool (coversD d y)) ∧ Below w.heap.size w w' := by
  have KK : ∀ W B, Below w.heap.size w W → B < W.heap.size → W.cell? ⟨B, 0, none⟩ = some (.int .u32 y) → Calls Try.prog 40 #[s, .func (.func 41) #[] #[.pointer (some ⟨B, 0, none⟩)]] W fun e w' => e = .returned (.bool (coversD d y)) ∧ Below W.heap.size W w' := by
    intro W B hb hB hc
    rcases hR with ⟨rfl, rfl⟩ | ⟨b, o, cap, rfl, hR, hblk⟩
    · exact contains_nil _ W
    · have hbW : b < W.heap.size := Nat.lt_of_lt_of_le hblk hb.size
      have hRW := hR.below hb
      have eg : ∀ args w, (callFunc 41 args).run Try.prog w = .ok (.enter 41 args) w := enters_of Try.func41 (by kernel_rfl) rfl
      let zs : List UP := (List.range d.size).attach.map fun k => ⟨d[k.1]!, hu k.1 (List.mem_range.1 k.2)⟩
      have hzl : zs.length = d.size := by simp [zs]
      have hzg : ∀ j, j < d.size → (zs[j]!).1 = d[j]! := by
        intro j hj
        rw [getElem!_pos zs j (by rw [hzl]; exact hj)]
        simp [zs]
      have hcon := AnyQ.slices_ContainsFunc Try.containsP 2 aggPfx sizeOfPfx encU (fun _ => rfl) (fun x => hasB x.1.1 x.1.2 y) 41 #[.pointer (some ⟨B, 0, none⟩)] eg b o d.size cap zs W
        (pred_covers y B W hy hB hc) (by omega) (by omega) hbW (fun j hj i v hi => by
          rw [hzl] at hj
          have r := hRW j hj
          unfold encU at hi
          rw [hzg j hj] at hi
          match i, hi with
          | 0, hi => simp at hi; rw [← hi]; exact r.1
          | 1, hi => simp at hi; rw [← hi]; exact r.2
          | i + 2, hi => simp at hi)
      change Calls Try.prog 40 _ _ _ at hcon
      have e : (zs.take d.size).any (fun x => hasB x.1.1 x.1.2 y) = coversD d y := by
        unfold coversD
        rw [List.take_of_length_le (by omega)]
        apply Bool.eq_iff_iff.2
        rw [List.any_eq_true, List.any_eq_true]
        constructor
        · rintro ⟨x, hx, h⟩
          obtain ⟨j, hj, rfl⟩ := List.mem_iff_getElem.1 hx
          have hj' : j < d.size := by rw [← hzl]; exact hj
          refine ⟨d[j]!, mem_get.2 ⟨j, hj', rfl⟩, ?_⟩
          rw [← hzg j hj', getElem!_pos zs j hj]; exact h
        · rintro ⟨x, hx, h⟩
          obtain ⟨j, hj, rfl⟩ := mem_get.1 hx
          refine ⟨zs[j]!, by rw [getElem!_pos zs j (by rw [hzl]; exact hj)]; exact List.getElem_mem _, ?_⟩
          rw [hzg j hj]; exact h
      rw [e] at hcon
      exact hcon
  obtain ⟨a, m, c, rfl⟩ : ∃ a m c, s = .slice a m c := by
    rcases hR with ⟨rfl, _⟩ | ⟨b, o, cap, rfl, _⟩ <;> exact ⟨_, _, _, rfl⟩
  have K := Lib.hid KK
  have BA := Lib.hid (((Below.refl w.heap.size w).alloc (Nat.le_refl _) (.cells #[.slice a m c] 29)).alloc (by simp) (.cells #[.int .u32 y] 24))
  obtain ⟨r, hr⟩ : ∃ r, r = coversD d y := ⟨_, rfl⟩
  rw [← hr] at K ⊢
  clear KK hR hr hu
  go_enter Try.func19, Try.ntmps19
  go_wp2_with fail
  refine (K.out _ _ BA.out (by simp) (by go_simp)).mono ?_
  rintro e w1 ⟨rfl, hb⟩
  have B := Lib.hid (aid.kb hb BA.out)
  clear hb
  go_wp2_with fail
  go_ret
  exact ⟨rfl, B.out⟩
end Go.Proofs.Ytbfejmehbbieeaa.psask
