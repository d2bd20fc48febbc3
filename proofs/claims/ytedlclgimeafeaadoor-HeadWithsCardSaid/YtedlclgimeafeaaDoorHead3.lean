import Derived.Test.YtedlclgimeafeaaDoorHead2
import Derived.Deep.Cut
import Derived.Outline
/- Contract of (head.Header).With. -/
set_option linter.unusedVariables false
set_option linter.unusedSimpArgs false
namespace Go.Proofs.YtedlclgimeafeaaDoor.head3
open Go.RowKit Go.Proofs.YtedlclgimeafeaaDoor.hmath Go.Proofs.YtedlclgimeafeaaDoor.frame Go.Proofs.YtedlclgimeafeaaDoor.head1 Go.Proofs.YtedlclgimeafeaaDoor.hrow

theorem range_append {w : World} {b : Nat} : ∀ {xs : List Value} {o : Nat} {ys : List Value}, w.rangeAt b o (xs ++ ys) ↔ w.rangeAt b o xs ∧ w.rangeAt b (o + xs.length) ys := by
  intro xs o ys
  constructor
  · intro h
    refine ⟨fun j v hv => h j v ?_, fun j v hv => ?_⟩
    · rw [List.getElem?_append_left (List.getElem?_eq_some_iff.1 hv).1]; exact hv
    · have := h (xs.length + j) v (by rw [List.getElem?_append_right (by omega)]; simpa using hv)
      rw [Nat.add_assoc]; exact this
  · rintro ⟨h1, h2⟩ j v hv
    by_cases hj : j < xs.length
    · rw [List.getElem?_append_left hj] at hv; exact h1 j v hv
    · rw [List.getElem?_append_right (by omega)] at hv
      have := h2 (j - xs.length) v hv
      rw [show o + xs.length + (j - xs.length) = o + j by omega] at this
      exact this
/-- some cells of a row written anew -/
theorem splice {w : World} {b : Nat} {xs ys zs vs : List Value} (h : w.rangeAt b 0 (xs ++ (ys ++ zs))) (hl : vs.length = ys.length) (ht : w.there b xs.length vs.length) : (w.setCells b xs.length vs).rangeAt b 0 (xs ++ (vs ++ zs)) := by
  obtain ⟨h1, h2⟩ := range_append.1 h
  obtain ⟨h3, h4⟩ := range_append.1 h2
  refine range_append.2 ⟨World.rangeAt_setCells_apart h1 b _ vs (.inr (.inl (by omega))), range_append.2 ⟨?_, ?_⟩⟩
  · rw [Nat.zero_add]; exact World.rangeAt_setCells_same w b _ vs ht
  · rw [hl]; exact World.rangeAt_setCells_apart h4 b _ vs (.inr (.inr (by omega)))
theorem there_part {w : World} {b n : Nat} (h : w.there b 0 n) (o m : Nat) (ho : o + m ≤ n) : w.there b o m := fun j hj => by
  have := h (o + j) (by omega)
  rw [Nat.zero_add] at this
  exact this

def failI : Value := .tuple #[zeroHd.val, .int .i64 1]
def withV (h : Hd) (f n : Int) : Value := if 0 ≤ f ∧ f < 9 ∧ n ≤ fullI f then .tuple #[(setI h f n).val, .int .i64 0] else failI
theorem zeroRow : zeroHd.cells = #[.int .i64 0, .int .u8 0, .int .u8 0, .int .u8 0, .int .u8 0, .int .u8 0, .int .u8 0, .int .u8 0, .int .u8 0, .int .u8 0, .int .u8 0, .int .u8 0, .int .u8 0, .int .i64 0, .int .u32 0, .int .u32 0, .int .i64 0, .int .i64 0, .int .i64 0] := rfl

theorem results_with {tmps : Array Value} {W : World} {b : Nat} {e : Int} {cs : Array Value} (h6 : tmps.getD 6 undef = .pointer (some ⟨b, 0, none⟩)) (h7 : tmps.getD 7 undef = .int .i64 e)
    (hl : (loadVar 33 ⟨b, 0, none⟩).run Tryd.prog W = .ok (.agg cs) W) : (results Tryd.f13 tmps).run Tryd.prog W = .ok (.tuple #[.agg cs, .int .i64 e]) W := by
  have e6 : (asAddr (tmps.getD 6 undef)).run Tryd.prog W = .ok ⟨b, 0, none⟩ W := by rw [h6]; rfl
  simp only [results, Tryd.results13, Array.mapM_eq_mapM_toList, List.mapM_cons, List.mapM_nil, Sem.run_bind, Sem.run_pure, Result.andThen_ok, Sem.run_map, e6, hl, h7]
  simp [e6, hl, h7, Sem.run_bind]
set_option maxRecDepth 100000 in
set_option maxHeartbeats 4000000 in
theorem with_fail (cs : Array Value) (hcs : cs.size = 19) (f n : Int) (w : World) (full : Int) (wid : Int) (hbad : wid = 0 ∨ (wid ≠ 0 ∧ full < n))
    (k1 : ∀ w', Laid w' → Calls Tryd.prog 8 #[.int .i64 f] w' fun e w'' => e = .returned (.int .i64 wid) ∧ w' = w'')
    (k2 : ∀ w', Laid w' → Calls Tryd.prog 9 #[.int .i64 f] w' fun e w'' => e = .returned (.int .u64 full) ∧ w' = w'') (L : Laid w) :
    Calls Tryd.prog 13 #[.agg cs, .int .i64 f, .int .u64 n] w fun e w' => e = .returned failI ∧ Below w.heap.size w w' := by
  have B2 : Below w.heap.size w ((w.alloc (.cells cs 33)).alloc (.cells zeroHd.cells 33)) := ((Below.refl _ _).alloc (Nat.le_refl _) _).alloc (by simp) _
  have LL := Lib.hid (laid_below B2 L)
  have hS : (w.alloc (.cells cs 33)).heap.size = w.heap.size + 1 := by simp
  have hT := alloc_there (w.alloc (.cells cs 33)) zeroHd.cells 33
  have hT' : ((w.alloc (.cells cs 33)).alloc (.cells zeroHd.cells 33)).there (w.heap.size + 1) 0 19 := by rw [hS] at hT; exact hT
  have HT := Lib.hid hT'
  have hR := World.rangeAt_setCells_same _ (w.heap.size + 1) 0 zeroHd.cells.toList (by exact hT')
  have hl := run_loadVar_mid (P := Tryd.prog) _ (w.heap.size + 1) 0 33 zeroHd.cells.toList _ hR Tryd.underlying33 rfl (by rw [infoHdr]; rfl)
  have B3' := below_setCells (b := w.heap.size + 1) (by omega) zeroHd.cells.toList 0 _ B2
  obtain ⟨W2, hW2⟩ : ∃ W2, ((w.alloc (.cells cs 33)).alloc (.cells zeroHd.cells 33)).setCells (w.heap.size + 1) 0 zeroHd.cells.toList = W2 := ⟨_, rfl⟩
  rw [hW2] at B3' hl
  have HL := Lib.hid hl
  have B3 := Lib.hid B3'
  have HW := Lib.hid hW2
  clear B3' hW2
  have K1 := Lib.hid k1
  have K2 := Lib.hid k2
  clear k1 k2 L B2 hT hT' hR hl hS
  rcases hbad with rfl | ⟨hne, hlt⟩
  · go_enter Tryd.func13, Tryd.ntmps13
    go_wp2_with fail
    refine (K1.out _ LL.out).mono ?_
    rintro e w' ⟨rfl, rfl⟩
    go_upto_region 2 with fail
    refine wp_region_lit (wp_build_zero rfl rfl ?_)
    simp only [Act.put, List.setIfInBounds_toArray, List.set_cons_zero, List.set_cons_succ]
    refine wp_store_hdr rfl (.tmp 6) (.tmp 17) rfl (w.heap.size + 1) rfl zeroHd.cells rfl rfl (one_hdr _) HT.out W2 HW.out ?_
    simp only [Act.put]
    go_wp2_with fail
    exact bodyPost_ret (v := failI) (results_with rfl rfl HL.out) rfl ⟨rfl, B3.out⟩
  · have hwne : (wid == 0) = false := by simpa using hne
    go_enter Tryd.func13, Tryd.ntmps13
    go_wp2_with fail
    refine (K1.out _ LL.out).mono ?_
    rintro e w' ⟨rfl, rfl⟩
    go_wp2_with fail
    refine (K2.out _ LL.out).mono ?_
    rintro e w' ⟨rfl, rfl⟩
    go_upto_region 2 with fail
    refine wp_region_lit (wp_build_zero rfl rfl ?_)
    simp only [Act.put, List.setIfInBounds_toArray, List.set_cons_zero, List.set_cons_succ]
    refine wp_store_hdr rfl (.tmp 6) (.tmp 17) rfl (w.heap.size + 1) rfl zeroHd.cells rfl rfl (one_hdr _) HT.out W2 HW.out ?_
    simp only [Act.put]
    go_wp2_with fail
    exact bodyPost_ret (v := failI) (results_with rfl rfl HL.out) rfl ⟨rfl, B3.out⟩

end Go.Proofs.YtedlclgimeafeaaDoor.head3
