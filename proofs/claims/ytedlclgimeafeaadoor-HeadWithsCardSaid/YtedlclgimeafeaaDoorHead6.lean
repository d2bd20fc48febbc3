import Derived.Test.YtedlclgimeafeaaDoorHead5
import Derived.Test.YtedlclgimeafeaaDoorTail
/- Contract of the law's helper 'numbers'. -/
set_option linter.unusedVariables false
set_option linter.unusedSimpArgs false
namespace Go.Proofs.YtedlclgimeafeaaDoor.head6
open Go.RowKit Go.Proofs.YtedlclgimeafeaaDoor.hmath Go.Proofs.YtedlclgimeafeaaDoor.frame Go.Proofs.YtedlclgimeafeaaDoor.head1 Go.Proofs.YtedlclgimeafeaaDoor.hrow Go.Proofs.YtedlclgimeafeaaDoor.head3 Go.Proofs.YtedlclgimeafeaaDoor.head5

def nums (h : Hd) : Array Value := #[.int .u64 (getI h 0), .int .u64 (getI h 1), .int .u64 (getI h 2), .int .u64 (getI h 3), .int .u64 (getI h 4), .int .u64 (getI h 5), .int .u64 (getI h 6), .int .u64 (getI h 7), .int .u64 (getI h 8)]
def zero9 : Array Value := #[.int .u64 0, .int .u64 0, .int .u64 0, .int .u64 0, .int .u64 0, .int .u64 0, .int .u64 0, .int .u64 0, .int .u64 0]
theorem size_nums (h : Hd) : (nums h).size = 9 := rfl
theorem one_nums (h : Hd) : (nums h).all (·.oneCell') = true := by simp [nums, Value.oneCell']

section
variable {ops : Array Oper} {Q : Exit → Act → World → Prop} {a : Act} {w : World} {rest : List Oper} {op : Oper}
theorem wp_store_nine (hw : Region.wanted op (yielded ops a.tmps) = true) (x y : Operand) (ho : op.op = .store 36 x y) (b : Nat) (hx : a.eval x = .pointer (some ⟨b, 0, none⟩)) (cs : Array Value) (hy : a.eval y = .agg cs)
    (hsz : cs.size = 9) (h1 : cs.all (·.oneCell') = true) (ht : w.there b 0 9) (W2 : World) (hW2 : w.setCells b 0 cs.toList = W2) (h : wpList Tryd.prog ops Q rest (a.put op.dst undef) W2) : wpList Tryd.prog ops Q (op :: rest) a w :=
  wpList_step fun K hK => by
    rw [if_pos hw]
    subst hW2
    exact wp_store_mid 36 x y ho b 0 cs hx hy (by rw [hsz]; exact ht) (by rw [infoNine, hsz]) h1 (hK _ _ h)
theorem wp_load_nine (hw : Region.wanted op (yielded ops a.tmps) = true) (x : Operand) (ho : op.op = .load 36 x) (b : Nat) (hx : a.eval x = .pointer (some ⟨b, 0, none⟩)) (cs : Array Value) (hsz : cs.size = 9) (hc : w.rangeAt b 0 cs.toList)
    (h : wpList Tryd.prog ops Q rest (a.put op.dst (.agg cs)) w) : wpList Tryd.prog ops Q (op :: rest) a w :=
  wpList_step fun K hK => by
    rw [if_pos hw]
    exact wp_load_mid 36 x ho b 0 hx cs.toList _ hc Tryd.underlying36 rfl (by rw [infoNine]; simp [hsz]) (by simpa using hK _ _ h)
end

theorem results_nums {tmps : Array Value} {W : World} {b : Nat} {cs : Array Value} (h2 : tmps.getD 2 undef = .pointer (some ⟨b, 0, none⟩))
    (hl : (loadVar 36 ⟨b, 0, none⟩).run Tryd.prog W = .ok (.agg cs) W) : (results Tryd.f12 tmps).run Tryd.prog W = .ok (.agg cs) W := by
  have e2 : (asAddr (tmps.getD 2 undef)).run Tryd.prog W = .ok ⟨b, 0, none⟩ W := by rw [h2]; rfl
  simp only [results, Tryd.results12, Array.mapM_eq_mapM_toList, List.mapM_cons, List.mapM_nil, Sem.run_bind, Sem.run_pure, Result.andThen_ok, Sem.run_map, e2, hl]
  simp

theorem set_nine (w : World) (b : Nat) (cs : Array Value) (hsz : cs.size = 9) (ht : w.there b 0 9) : ∃ V, w.setCells b 0 cs.toList = V ∧ (loadVar 36 ⟨b, 0, none⟩).run Tryd.prog V = .ok (.agg cs) V ∧ (∀ B a, B ≤ b → Below B a w → Below B a V) := by
  refine ⟨_, rfl, ?_, fun B a hB h => below_setCells hB _ _ _ h⟩
  have hR := World.rangeAt_setCells_same w b 0 cs.toList (by rw [Array.length_toList, hsz]; exact ht)
  have := run_loadVar_mid (P := Tryd.prog) _ b 0 36 cs.toList _ hR Tryd.underlying36 rfl (by rw [infoNine]; simp [hsz])
  simpa using this

theorem low8 (n : Int) : (IntKind.u64.wrap n).tmod 256 = n % 256 := by
  rw [IntKind.wrap_u64, Int.tmod_eq_emod_of_nonneg (Int.emod_nonneg _ (by decide))]; omega
theorem low16 (n : Int) : (IntKind.u64.wrap n).tmod 65536 = n % 65536 := by
  rw [IntKind.wrap_u64, Int.tmod_eq_emod_of_nonneg (Int.emod_nonneg _ (by decide))]; omega

set_option maxRecDepth 100000 in
set_option maxHeartbeats 4000000 in
theorem nums_any (h : Hd) (hk : h.ok) (w : World) : Calls Tryd.prog 12 #[h.val] w fun e w' => e = .returned (.agg (nums h)) ∧ Below w.heap.size w w' := by
  have K1 := Lib.hid (fun w => hmac.num_any h.s hk.s w)
  have K2 := Lib.hid (fun w => hmac.num_any h.d hk.d w)
  have RW := alloc_row w h.cells 33
  have R2 := World.rangeAt_alloc RW (.cells zero9 36)
  have hS : (w.alloc (.cells h.cells 33)).heap.size = w.heap.size + 1 := by simp
  have T2 : ((w.alloc (.cells h.cells 33)).alloc (.cells zero9 36)).there (w.heap.size + 1) 0 9 := by
    have := alloc_there (w.alloc (.cells h.cells 33)) zero9 36
    rwa [hS] at this
  have B2 : Below w.heap.size w ((w.alloc (.cells h.cells 33)).alloc (.cells zero9 36)) := ((Below.refl _ _).alloc (Nat.le_refl _) _).alloc (by simp) _
  have e1 : getI h 1 = macI h.s := rfl
  have e2 : getI h 2 = macI h.d := rfl
  rw [← e1] at K1
  rw [← e2] at K2
  obtain ⟨W1, hW1⟩ : ∃ W1, W1 = (w.alloc (.cells h.cells 33)).alloc (.cells zero9 36) := ⟨_, rfl⟩
  rw [← hW1] at R2 T2 B2
  have q0 := Lib.hid (show (IntKind.u64.wrap h.p).tmod 256 = getI h 0 from low8 h.p)
  have q3 := Lib.hid (show (IntKind.u64.wrap h.t).tmod 65536 = getI h 3 from low16 h.t)
  have q6 := Lib.hid (show (IntKind.u64.wrap h.pr).tmod 256 = getI h 6 from low8 h.pr)
  have q7 := Lib.hid (show (IntKind.u64.wrap h.sp).tmod 65536 = getI h 7 from low16 h.sp)
  have q8 := Lib.hid (show (IntKind.u64.wrap h.dp).tmod 65536 = getI h 8 from low16 h.dp)
  clear e1 e2 RW hS
  obtain ⟨hk0, -, -, hk3, hk4, hk5, hk6, hk7, hk8⟩ := hk
  unfold hmath.I64 hmath.U32 at *
  have hN : nums h = #[.int .u64 (getI h 0), .int .u64 (getI h 1), .int .u64 (getI h 2), .int .u64 (getI h 3), .int .u64 h.si, .int .u64 h.di, .int .u64 (getI h 6), .int .u64 (getI h 7), .int .u64 (getI h 8)] := rfl
  have hz := size_nums h
  have ho := one_nums h
  rw [hN] at hz ho ⊢
  clear hN
  generalize getI h 0 = g0 at *
  generalize getI h 1 = g1 at *
  generalize getI h 2 = g2 at *
  generalize getI h 3 = g3 at *
  generalize getI h 6 = g6 at *
  generalize getI h 7 = g7 at *
  generalize getI h 8 = g8 at *
  obtain ⟨p, ⟨a0, a1, a2, a3, a4, a5⟩, ⟨d0, d1, d2, d3, d4, d5⟩, t, si, di, pr, sp, dp⟩ := h
  simp only [Hd.val, Hd.cells, Mac.val, zero9] at K1 K2 R2 hW1 ⊢
  have hR := Lib.hid R2
  have hT := Lib.hid T2
  have hB := Lib.hid B2
  have hZ := Lib.hid hz
  have hO := Lib.hid ho
  have HW := Lib.hid hW1
  dsimp only at *
  clear R2 T2 B2 hz ho hW1
  go_enter Tryd.func12, Tryd.ntmps12
  go_wp2_with fail
  rw [show ((w.alloc _).alloc _) = W1 from HW.out.symm]
  have k0 := fun s : aid.Keep W1 => aid.keep_cell (row_cell hR.out 0 _ rfl) s
  have k1 := fun s : aid.Keep W1 => aid.keep_cell (row_cell hR.out 1 _ rfl) s
  have k2 := fun s : aid.Keep W1 => aid.keep_cell (row_cell hR.out 2 _ rfl) s
  have k3 := fun s : aid.Keep W1 => aid.keep_cell (row_cell hR.out 3 _ rfl) s
  have k4 := fun s : aid.Keep W1 => aid.keep_cell (row_cell hR.out 4 _ rfl) s
  have k5 := fun s : aid.Keep W1 => aid.keep_cell (row_cell hR.out 5 _ rfl) s
  have k6 := fun s : aid.Keep W1 => aid.keep_cell (row_cell hR.out 6 _ rfl) s
  have k7 := fun s : aid.Keep W1 => aid.keep_cell (row_cell hR.out 7 _ rfl) s
  have k8 := fun s : aid.Keep W1 => aid.keep_cell (row_cell hR.out 8 _ rfl) s
  have k9 := fun s : aid.Keep W1 => aid.keep_cell (row_cell hR.out 9 _ rfl) s
  have k10 := fun s : aid.Keep W1 => aid.keep_cell (row_cell hR.out 10 _ rfl) s
  have k11 := fun s : aid.Keep W1 => aid.keep_cell (row_cell hR.out 11 _ rfl) s
  have k12 := fun s : aid.Keep W1 => aid.keep_cell (row_cell hR.out 12 _ rfl) s
  have k13 := fun s : aid.Keep W1 => aid.keep_cell (row_cell hR.out 13 _ rfl) s
  have k14 := fun s : aid.Keep W1 => aid.keep_cell (row_cell hR.out 14 _ rfl) s
  have k15 := fun s : aid.Keep W1 => aid.keep_cell (row_cell hR.out 15 _ rfl) s
  have k16 := fun s : aid.Keep W1 => aid.keep_cell (row_cell hR.out 16 _ rfl) s
  have k17 := fun s : aid.Keep W1 => aid.keep_cell (row_cell hR.out 17 _ rfl) s
  have k18 := fun s : aid.Keep W1 => aid.keep_cell (row_cell hR.out 18 _ rfl) s
  refine tail.wp_region_keep_tail 33 (by kernel_rfl) (by kernel_rfl) ?_
  simp only [List.take_succ_cons, List.take_zero, List.drop_succ_cons, List.drop_zero]
  repeat (go_big_quiet_step (((go_at_call 17; first | ((with_reducible exact aid.keep_call (K1.out _))) | ((with_reducible exact aid.keep_call (K2.out _)))))))
  refine wpQuiet_nil ?_
  rintro _ ⟨s, rfl⟩
  obtain ⟨V, hV, hl, hbv⟩ := set_nine s.world (w.heap.size + 1) _ hZ.out (there_below s.below hT.out)
  have HV := Lib.hid hV
  have HL := Lib.hid hl
  have HB := Lib.hid (hbv w.heap.size w (Nat.le_succ _) (aid.kbk hB.out s))
  have HT := Lib.hid (there_below s.below hT.out)
  clear hV hl hbv
  rw [q0.out, q3.out, q6.out, q7.out, q8.out]
  refine wp_store_nine rfl (.tmp 2) (.tmp 35) rfl (w.heap.size + 1) rfl _ rfl hZ.out hO.out HT.out V HV.out ?_
  simp only [Act.put]
  go_wp2_with fail
  exact bodyPost_ret (results_nums rfl HL.out) rfl ⟨rfl, HB.out⟩
end Go.Proofs.YtedlclgimeafeaaDoor.head6
