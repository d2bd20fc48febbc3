import Derived.Test.YtedlclgimeafeaaDoorHead7
import Derived.Test.YtedlclgimeafeaaDoorTail
import Derived.Deep.LoopGhost
/- Contract of (head.Header).Cmp. -/
set_option linter.unusedVariables false
set_option linter.unusedSimpArgs false
namespace Go.Proofs.YtedlclgimeafeaaDoor.head8
open Go.RowKit Go.Proofs.YtedlclgimeafeaaDoor.hmath Go.Proofs.YtedlclgimeafeaaDoor.frame Go.Proofs.YtedlclgimeafeaaDoor.head1 Go.Proofs.YtedlclgimeafeaaDoor.head2 Go.Proofs.YtedlclgimeafeaaDoor.hrow Go.Proofs.YtedlclgimeafeaaDoor.head3 Go.Proofs.YtedlclgimeafeaaDoor.head5 Go.Proofs.YtedlclgimeafeaaDoor.head6 Go.Proofs.YtedlclgimeafeaaDoor.head7

def cmp3 (x y : Int) : Int := if x < y then -1 else if y < x then 1 else 0
theorem cmp3_bd (x y : Int) : -1 ≤ cmp3 x y ∧ cmp3 x y ≤ 1 := by unfold cmp3; split <;> (try split) <;> omega
theorem compare_u64 (a b : Int) (w : World) : Calls Tryd.prog 19 #[.int .u64 a, .int .u64 b] w fun e w' => e = .returned (.int .i64 (cmp3 a b)) ∧ w = w' := by
  unfold cmp3
  by_cases h1 : a < b
  · go_enter Tryd.func19, Tryd.ntmps19
    go_wp2
    go_ret
    exact ⟨rfl, rfl⟩
  · by_cases h2 : b < a
    · go_enter Tryd.func19, Tryd.ntmps19
      go_wp2
      go_ret
      exact ⟨rfl, rfl⟩
    · go_enter Tryd.func19, Tryd.ntmps19
      go_wp2
      go_ret
      exact ⟨rfl, rfl⟩

/-- field by field from number k on -/
def cmpFrom (h g : Hd) : Nat → Nat → Int
  | 0, _ => 0
  | m + 1, k => if cmp3 (getI h k) (getI g k) = 0 then cmpFrom h g m (k + 1) else cmp3 (getI h k) (getI g k)
def cmpH (h g : Hd) : Int := cmpFrom h g 9 0
theorem cmpFrom_bd (h g : Hd) : ∀ m k, -1 ≤ cmpFrom h g m k ∧ cmpFrom h g m k ≤ 1
  | 0, _ => by simp [cmpFrom]
  | m + 1, k => by
    unfold cmpFrom
    split
    · exact cmpFrom_bd h g m (k + 1)
    · exact cmp3_bd _ _

/-- in a region that draws its order a header is read as a whole -/
theorem quiet_load_hdr {w0 : World} {ops : Array Oper} {Q : Act → Prop} {a : Act} {rest : List Oper} {op : Oper} (hw : Region.wanted op (yielded ops a.tmps) = true) (x : Operand) (ho : op.op = .load 33 x) (b : Nat) (hx : a.eval x = .pointer (some ⟨b, 0, none⟩)) (cs : Array Value)
    (hsz : cs.size = 19) (hc : w0.rangeAt b 0 cs.toList) (h : wpQuiet Tryd.prog ops (fun w' => ∃ s : aid.Keep w0, w' = s.world) Q rest (a.put op.dst (.agg cs))) : wpQuiet Tryd.prog ops (fun w' => ∃ s : aid.Keep w0, w' = s.world) Q (op :: rest) a := by
  unfold wpQuiet
  rw [if_pos hw]
  refine ⟨.agg cs, ?_, h⟩
  rintro _ ⟨s, rfl⟩
  have hl := run_loadVar_mid (P := Tryd.prog) s.world b 0 33 cs.toList _ (row_below s.below hc) Tryd.underlying33 rfl (by rw [infoHdr]; simp [hsz])
  unfold Oper.quietAt execOp
  simp only [ho, hx, Instr.loadAt, Instr.sureAddr, Sem.run_bind, Sem.run_pure, Result.andThen_ok, hl]
  exact ⟨rfl, rfl⟩

set_option maxRecDepth 100000 in
set_option maxHeartbeats 4000000 in
theorem cmp_any (h g : Hd) (hk : h.ok) (gk : g.ok) (w : World) (L : Laid w) : Calls Tryd.prog 14 #[h.val, g.val] w fun e w' => e = .returned (.int .i64 (cmpH h g)) ∧ Below w.heap.size w w' := by
  have KH := Lib.hid (fun (k : Nat) (hk9 : k < 9) w L => get_any h hk k (by unfold hmath.I64; omega) w L)
  have KG := Lib.hid (fun (k : Nat) (hk9 : k < 9) w L => get_any g gk k (by unfold hmath.I64; omega) w L)
  have L0 := Lib.hid L
  have hS : (w.alloc (.cells h.cells 33)).heap.size = w.heap.size + 1 := by simp
  have B0 := ((Below.refl w.heap.size w).alloc (Nat.le_refl _) (.cells h.cells 33)).alloc (by simp) (.cells g.cells 33)
  have RH := World.rangeAt_alloc (alloc_row w h.cells 33) (.cells g.cells 33)
  have RG := alloc_row (w.alloc (.cells h.cells 33)) g.cells 33
  rw [hS] at RG
  have HB := Lib.hid B0
  have HRH := Lib.hid RH
  have HRG := Lib.hid RG
  clear L hS B0 RH RG
  have hF : cmpFrom h g 9 0 = cmpH h g := rfl
  have HF := Lib.hid hF
  clear hF
  simp only [Hd.val] at KH KG ⊢
  go_enter Tryd.func14, Tryd.ntmps14
  go_wp2_with fail
  go_loopw [5, 6, 7] (fun fv cv iv wr => ∃ k : Nat, k ≤ 9 ∧ iv = .int .i64 k ∧ Hid (cmpFrom h g (9 - k) k = cmpH h g) ∧ Hid (wr.rangeAt w.heap.size 0 h.cells.toList) ∧ Hid (wr.rangeAt (w.heap.size + 1) 0 g.cells.toList) ∧ Hid (Below w.heap.size w wr)) (fun _ _ i _ => 9 - (intOf i).toNat)
  case atStart => exact ⟨0, by omega, rfl, HF, HRH, HRG, HB⟩
  case round =>
    obtain ⟨k, hk9, rfl, F, RH, RG, B⟩ := hrel
    by_cases hlt : k < 9
    · have LW := Lib.hid (laid_below B.out L0.out)
      have K1 := Lib.hid (fun s : aid.Keep wr => KH.out k hlt s.world (laid_below s.below LW.out))
      have K2 := Lib.hid (fun s : aid.Keep wr => KG.out k hlt s.world (laid_below s.below LW.out))
      have K3 := Lib.hid (compare_u64 (getI h k) (getI g k))
      have F2 : cmpH h g = if cmp3 (getI h k) (getI g k) = 0 then cmpFrom h g (9 - (k + 1)) (k + 1) else cmp3 (getI h k) (getI g k) := by
        have := F.out
        rw [show 9 - k = (9 - (k + 1)) + 1 by omega] at this
        rw [← this]
        rfl
      obtain ⟨c, hc⟩ : ∃ c, c = cmp3 (getI h k) (getI g k) := ⟨_, rfl⟩
      rw [← hc] at K3 F2
      obtain ⟨x, hx⟩ : ∃ x, x = getI h k := ⟨_, rfl⟩
      obtain ⟨y, hy⟩ : ∃ y, y = getI g k := ⟨_, rfl⟩
      rw [← hx] at K1 K3
      rw [← hy] at K2 K3
      clear hc hx hy F
      by_cases hz : c = 0
      · rw [if_pos hz] at F2
        have F3 := Lib.hid F2
        have hcb : (c != 0) = false := by simpa using hz
        clear F2 hz
        go_wp2_with fail
        refine aid.wp_region_keep (by kernel_rfl) (by kernel_rfl) ?_
        repeat (first | (refine quiet_load_hdr rfl (.tmp 2) rfl w.heap.size rfl h.cells rfl RH.out ?_; simp only [Act.put, List.setIfInBounds_toArray, List.set_cons_zero, List.set_cons_succ]) | (refine quiet_load_hdr rfl (.tmp 3) rfl (w.heap.size + 1) rfl g.cells rfl RG.out ?_; simp only [Act.put, List.setIfInBounds_toArray, List.set_cons_zero, List.set_cons_succ]) | go_big_quiet_step (((first | (go_at_call 10; first | ((with_reducible exact aid.keep_call (K1.out _))) | ((with_reducible exact aid.keep_call (K2.out _)))) | (go_at_call 19; exact aid.keep_same (K3.out _))))))
        refine wpQuiet_nil ?_
        rintro _ ⟨s, rfl⟩
        go_wp2_with fail
        go_roundw
        case rel => exact ⟨k + 1, by omega, by go_num, F3.out.symm, row_below s.below RH.out, row_below s.below RG.out, aid.kbk B.out s⟩
        case measure => simp [intOf]; omega
      · rw [if_neg hz] at F2
        have F3 := Lib.hid F2
        have hcb : (c != 0) = true := by simpa using hz
        clear F2 hz
        go_wp2_with fail
        refine aid.wp_region_keep (by kernel_rfl) (by kernel_rfl) ?_
        repeat (first | (refine quiet_load_hdr rfl (.tmp 2) rfl w.heap.size rfl h.cells rfl RH.out ?_; simp only [Act.put, List.setIfInBounds_toArray, List.set_cons_zero, List.set_cons_succ]) | (refine quiet_load_hdr rfl (.tmp 3) rfl (w.heap.size + 1) rfl g.cells rfl RG.out ?_; simp only [Act.put, List.setIfInBounds_toArray, List.set_cons_zero, List.set_cons_succ]) | go_big_quiet_step (((first | (go_at_call 10; first | ((with_reducible exact aid.keep_call (K1.out _))) | ((with_reducible exact aid.keep_call (K2.out _)))) | (go_at_call 19; exact aid.keep_same (K3.out _))))))
        refine wpQuiet_nil ?_
        rintro _ ⟨s, rfl⟩
        go_wp2_with fail
        rw [F3.out]
        go_ret
        exact ⟨rfl, aid.kbk B.out s⟩
    · have hk' : k = 9 := by omega
      subst hk'
      have F3 := Lib.hid (show 0 = cmpH h g from F.out)
      clear F
      go_wp2_with fail
      go_ret
      exact ⟨by rw [← F3.out]; rfl, B.out⟩
end Go.Proofs.YtedlclgimeafeaaDoor.head8
