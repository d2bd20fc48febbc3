import Derived.Test.YtfealajbibofiaaTrDrop
import Derived.IntWalk
/- Package trie: without below the first node, Drop. -/
set_option linter.unusedVariables false
set_option linter.unusedSimpArgs false
namespace Go.Proofs.Ytfealajbibofiaa.trdrop
open Go.RowKit Go.Lib Go.Proofs.Ytfealajbibofiaa.math1 Go.Proofs.Ytfealajbibofiaa.trmath Go.Proofs.Ytfealajbibofiaa.trmem Go.Proofs.Ytfealajbibofiaa.trgraft Go.Proofs.Ytfealajbibofiaa.trunder Go.Proofs.Ytfealajbibofiaa.trput

theorem yields_add {ops : Array Oper} {S : World → Prop} {op : Oper} {a : Act} (hw : Region.wanted op (yielded ops a.tmps) = true) (x : Operand) (ho : op.op = .binOp .add 3 x (.const (.int .i64 1)) 3) (k : Nat) (hk : k < 32) (hx : a.eval x = .int .i64 k) : YieldsIf Try.prog ops S op (.int .i64 ((k : Int) + 1)) a :=
  .inl ⟨hw, fun W _ => by
    unfold execOp
    simp only [ho, hx, eqGuard, Sem.run_bind, Sem.run_pure, Result.andThen_ok, show a.eval (.const (.int .i64 1)) = .int .i64 1 from rfl]
    simp [go_sem]
    exact IntWalk.i64_in _ (by omega)⟩

/-- behind the call: the kid is another -/
theorem step_facts {w w1 w2 : World} {b : Nat} {l r : Tr} {v : Value} {hh : Bool} {c : Bool} {K' : Tr} (hin : In w (.node b l r v hh)) (hnd : (Tr.node b l r v hh).blocks.Nodup) (h1 : Below w.heap.size w w1) (h2 : In w2 K') (h3 : Kept (fun x => x ∈ (if c then r else l).blocks) w1 w2) (hsub : ∀ x, x ∈ K'.blocks → x ∈ (if c then r else l).blocks) :
    (w2.cell? ⟨b, if c then 1 else 0, none⟩ = some (if c then r else l).ptr ∧ w2.frozen? ⟨b, if c then 1 else 0, none⟩ = false) ∧
    In (w2.setCell ⟨b, if c then 1 else 0, none⟩ K'.ptr) (.node b (if c then l else K') (if c then K' else r) v hh) ∧ Kept (fun x => x ∈ (Tr.node b l r v hh).blocks) w (w2.setCell ⟨b, if c then 1 else 0, none⟩ K'.ptr) := by
  obtain ⟨c0, c1, c2, c3, fz, il, ir⟩ := hin
  obtain ⟨n1, n2, n3, n4, n5⟩ := Tr.nodup_kids hnd
  have hlt : b < w.heap.size := World.block_lt_of_cell? _ _ c0
  have hkb : b ∉ (if c then r else l).blocks := by cases c; exact n1; exact n2
  have hb2 : w2.heap[b]? = w.heap[b]? := (h3.block b (Nat.lt_of_lt_of_le hlt h1.size) hkb).trans (h1.block b hlt)
  have cc : ∀ i, w2.cell? ⟨b, i, none⟩ = w.cell? ⟨b, i, none⟩ := fun i => World.cell?_of_block (w := w) (a := ⟨b, i, none⟩) hb2
  have ff : ∀ i, w2.frozen? ⟨b, i, none⟩ = w.frozen? ⟨b, i, none⟩ := fun i => World.frozen?_of_block (w := w) (a := ⟨b, i, none⟩) hb2
  have hx : ∀ x, x < w.heap.size → x ≠ b → x ∉ (if c then r else l).blocks → ∀ p u, p = b → (w2.setCell ⟨p, if c then 1 else 0, none⟩ u).heap[x]? = w.heap[x]? := fun x h h' h'' p u hp => by
    rw [Below.heap_setCell _ _ _ _ (by rw [hp]; exact h')]
    exact (h3.block x (Nat.lt_of_lt_of_le h h1.size) h'').trans (h1.block x h)
  have hKin : In (w2.setCell ⟨b, if c then 1 else 0, none⟩ K'.ptr) K' := in_same h2 (fun x hx => Below.heap_setCell _ _ _ _ (fun e => hkb (by have := hsub x hx; rw [show x = b from e] at this; exact this)))
  have hKept : Kept (fun x => x ∈ (Tr.node b l r v hh).blocks) w (w2.setCell ⟨b, if c then 1 else 0, none⟩ K'.ptr) :=
    (((Kept.of_below (may := fun x => x ∈ (Tr.node b l r v hh).blocks) h1).trans h3 (fun x _ h => by
      cases c
      · exact List.mem_cons_of_mem _ (List.mem_append_left _ h)
      · exact List.mem_cons_of_mem _ (List.mem_append_right _ h))).setCell (p := ⟨b, if c then 1 else 0, none⟩) (.inl (List.mem_cons_self ..)) K'.ptr)
  cases c
  · simp only [Bool.false_eq_true, if_false] at *
    refine ⟨⟨(cc 0).trans c0, (ff 0).trans (fz 0 (by omega))⟩, ⟨?_, ?_, ?_, ?_, fun i hi => ?_, hKin, in_same ir (fun x hxr => hx x (in_lt ir x hxr) (fun e => n2 (e ▸ hxr)) (fun h => n5 x h hxr) b _ rfl)⟩, hKept⟩
    · exact World.cell?_setCell_same _ _ _ ((cc 0).trans c0)
    · exact (World.cell?_setCell_other _ _ _ _ (by simp)).trans ((cc 1).trans c1)
    · exact (World.cell?_setCell_other _ _ _ _ (by simp)).trans ((cc 2).trans c2)
    · exact (World.cell?_setCell_other _ _ _ _ (by simp)).trans ((cc 3).trans c3)
    · rw [World.frozen?_setCell]; exact (ff i).trans (fz i hi)
  · simp only [if_true] at *
    refine ⟨⟨(cc 1).trans c1, (ff 1).trans (fz 1 (by omega))⟩, ⟨?_, ?_, ?_, ?_, fun i hi => ?_, in_same il (fun x hxl => hx x (in_lt il x hxl) (fun e => n1 (e ▸ hxl)) (fun h => n5 x hxl h) b _ rfl), hKin⟩, hKept⟩
    · exact (World.cell?_setCell_other _ _ _ _ (by simp)).trans ((cc 0).trans c0)
    · exact World.cell?_setCell_same _ _ _ ((cc 1).trans c1)
    · exact (World.cell?_setCell_other _ _ _ _ (by simp)).trans ((cc 2).trans c2)
    · exact (World.cell?_setCell_other _ _ _ _ (by simp)).trans ((cc 3).trans c3)
    · rw [World.frozen?_setCell]; exact (ff i).trans (fz i hi)

set_option maxRecDepth 100000 in
set_option maxHeartbeats 4000000 in
theorem step_false (n k : Nat) (a : Int) (b bk : Nat) (lk rk r K' : Tr) (vk v : Value) (hk hh : Bool) (w : World) (h0 : 0 ≤ a) (h1 : a < 4294967296) (hkn : k < n) (hn : n ≤ 32) (htn : turn a k = false) (hin : In w (.node b (Tr.node bk lk rk vk hk) r v hh)) (hnd : (Tr.node b (Tr.node bk lk rk vk hk) r v hh).blocks.Nodup) (hsub : ∀ x, x ∈ K'.blocks → x ∈ (Tr.node bk lk rk vk hk).blocks)
    (KC : Hid (∀ W, In W (Tr.node bk lk rk vk hk) → Calls Try.prog 41 #[.pointer (some ⟨bk, 0, none⟩), .agg #[.int .u32 a, .int .i64 n], .int .i64 (k + 1)] W fun e w' => e = .returned K'.ptr ∧ Left W w' (Tr.node bk lk rk vk hk) K')) :
    Calls Try.prog 41 #[.pointer (some ⟨b, 0, none⟩), .agg #[.int .u32 a, .int .i64 n], .int .i64 k] w fun e w' => e = .returned (Tr.trim (.node b K' r v hh)).ptr ∧ Left w w' (.node b (Tr.node bk lk rk vk hk) r v hh) (Tr.trim (.node b K' r v hh)) := by
  have KB := Lib.hid (fun W => ip1.bit_turn a k W h0 h1)
  rw [htn] at KB
  simp only [Bool.false_eq_true, if_false, if_true] at KB
  have hlt : b < w.heap.size := in_lt hin b (List.mem_cons_self ..)
  have hpb : w.heap.size ∉ (Tr.node b (Tr.node bk lk rk vk hk) r v hh).blocks := fun h => Nat.lt_irrefl _ (in_lt hin _ h)
  have hsubk : ∀ x, x ∈ (Tr.node bk lk rk vk hk).blocks → x ∈ (Tr.node b (Tr.node bk lk rk vk hk) r v hh).blocks := fun x h => List.mem_cons_of_mem _ (List.mem_append_left _ h)
  have hkin : In w (Tr.node bk lk rk vk hk) := hin.2.2.2.2.2.1
  have hcw : w.cell? ⟨b, 0, none⟩ = some (.pointer (some ⟨bk, 0, none⟩)) := hin.1
  obtain ⟨W1, hW1⟩ : ∃ W, W = w.alloc (.cells #[.int .u32 a, .int .i64 n] 30) := ⟨_, rfl⟩
  have q0 : W1.cell? ⟨w.heap.size, 0, none⟩ = some (.int .u32 a) := by rw [hW1]; exact aid.new2a _ _ _ _
  have q1 : W1.cell? ⟨w.heap.size, 1, none⟩ = some (.int .i64 n) := by rw [hW1]; exact aid.new2b _ _ _ _
  have p0 := aid.new2a w (.int .u32 a) (.int .i64 n) 30
  have p1 := aid.new2b w (.int .u32 a) (.int .i64 n) 30
  have HB1 := Lib.hid (show Below w.heap.size w W1 by rw [hW1]; exact (Below.refl _ _).alloc (Nat.le_refl _) _)
  have hcell := aid.kc HB1.out hcw
  have HW := Lib.hid hW1
  have hi : ((k : Int) == (n : Int)) = false := by
    have : (k : Int) ≠ (n : Int) := by omega
    simpa using this
  obtain ⟨al, hal⟩ : ∃ al, K'.ptr = .pointer al := by cases K' <;> exact ⟨_, rfl⟩
  have HAL := Lib.hid hal
  have HP0 := Lib.hid (show ∀ W, Kept (fun x => x ∈ (Tr.node b (Tr.node bk lk rk vk hk) r v hh).blocks) W1 W → W.cell? ⟨w.heap.size, 0, none⟩ = some (.int .u32 a) from fun W h => Kept.cell h q0 hpb)
  have HP1 := Lib.hid (show ∀ W, Kept (fun x => x ∈ (Tr.node b (Tr.node bk lk rk vk hk) r v hh).blocks) W1 W → W.cell? ⟨w.heap.size, 0 + 1, none⟩ = some (.int .i64 n) from fun W h => Kept.cell h q1 hpb)
  have HK32 := Lib.hid (show k < 32 by omega)
  have HIN := Lib.hid hin
  have HND := Lib.hid hnd
  have HSB := Lib.hid hsub
  have HKI := Lib.hid hkin
  have HPB := Lib.hid hpb
  have HSK := Lib.hid hsubk
  have Q0 := Lib.hid q0
  have Q1 := Lib.hid q1
  have HCL := Lib.hid hcell
  clear hW1 htn hcw h0 h1 hal hin hnd hsub hkin hpb hsubk q0 q1 hcell
  go_enter Try.func41, Try.ntmps41
  go_wp2_with fail
  refine (KB.out _).mono ?_
  rintro e w' ⟨rfl, rfl⟩
  go_wp2_with fail
  rw [← HW.out]
  refine wp_region_noPanic ?_
  refine wp_region_held_drew (S := fun W => Kept (fun x => x ∈ (Tr.node b (Tr.node bk lk rk vk hk) r v hh).blocks) W1 W) (by kernel_rfl) ((Kept.refl _ _).drew) (fun hSx => ?_)
  change wpAnyH _ _ _ _ _ 16 _ _ _
  have hS0 : Kept (fun x => x ∈ (Tr.node b (Tr.node bk lk rk vk hk) r v hh).blocks) W1 W1.drew := hSx
  clear hSx
  refine wpAnyH_take (i := 0) (v := .pointer (some ⟨b, 0, none⟩)) rfl (by kernel_rfl) (by kernel_rfl) (by kernel_rfl) (fun _ _ _ h => h) (.inl ⟨rfl, fun _ _ => rfl⟩) hS0 ?_
  try simp only [Act.put, List.setIfInBounds_toArray, List.set_cons_zero, List.set_cons_succ, List.getElem_toArray, List.getElem_cons_zero, List.getElem_cons_succ]
  refine wpAnyH_take (i := 1) (v := .int .i64 0) rfl (by kernel_rfl) (by kernel_rfl) (by kernel_rfl) (fun _ _ _ h => h) (.inl ⟨rfl, fun _ _ => rfl⟩) hS0 ?_
  try simp only [Act.put, List.setIfInBounds_toArray, List.set_cons_zero, List.set_cons_succ, List.getElem_toArray, List.getElem_cons_zero, List.getElem_cons_succ]
  refine wpAnyH_take (i := 2) (v := .pointer (some ⟨b, 0, none⟩)) rfl (by kernel_rfl) (by kernel_rfl) (by kernel_rfl) (fun _ _ _ h => h) (.inl ⟨rfl, fun _ _ => rfl⟩) hS0 ?_
  try simp only [Act.put, List.setIfInBounds_toArray, List.set_cons_zero, List.set_cons_succ, List.getElem_toArray, List.getElem_cons_zero, List.getElem_cons_succ]
  refine wpAnyH_take (i := 3) (v := .int .i64 0) rfl (by kernel_rfl) (by kernel_rfl) (by kernel_rfl) (fun _ _ _ h => h) (.inl ⟨rfl, fun _ _ => rfl⟩) hS0 ?_
  try simp only [Act.put, List.setIfInBounds_toArray, List.set_cons_zero, List.set_cons_succ, List.getElem_toArray, List.getElem_cons_zero, List.getElem_cons_succ]
  refine wpAnyH_take (i := 4) (v := .pointer (some ⟨b, 0, none⟩)) rfl (by kernel_rfl) (by kernel_rfl) (by kernel_rfl) (fun _ _ _ h => h) (.inl ⟨rfl, fun _ _ => by kernel_rfl⟩) hS0 ?_
  try simp only [Act.put, List.setIfInBounds_toArray, List.set_cons_zero, List.set_cons_succ, List.getElem_toArray, List.getElem_cons_zero, List.getElem_cons_succ]
  refine wpAnyH_take (i := 5) (v := .pointer (some ⟨b, 0, none⟩)) rfl (by kernel_rfl) (by kernel_rfl) (by kernel_rfl) (fun _ _ _ h => h) (.inl ⟨rfl, fun _ _ => by kernel_rfl⟩) hS0 ?_
  try simp only [Act.put, List.setIfInBounds_toArray, List.set_cons_zero, List.set_cons_succ, List.getElem_toArray, List.getElem_cons_zero, List.getElem_cons_succ]
  refine wpAnyH_take (i := 6) (v := .pointer (some ⟨b, 0, none⟩)) rfl (by kernel_rfl) (by kernel_rfl) (by kernel_rfl) (fun _ _ _ h => h) (.inl ⟨rfl, fun _ _ => by kernel_rfl⟩) hS0 ?_
  try simp only [Act.put, List.setIfInBounds_toArray, List.set_cons_zero, List.set_cons_succ, List.getElem_toArray, List.getElem_cons_zero, List.getElem_cons_succ]
  refine wpAnyH_take (i := 8) (v := .agg #[.int .u32 a, .int .i64 n]) rfl (by kernel_rfl) (by kernel_rfl) (by kernel_rfl) (fun _ _ _ h => h) (yields_pfx rfl (.tmp 4) rfl w.heap.size 0 rfl _ _ HP0.out HP1.out) hS0 ?_
  try simp only [Act.put, List.setIfInBounds_toArray, List.set_cons_zero, List.set_cons_succ, List.getElem_toArray, List.getElem_cons_zero, List.getElem_cons_succ]
  refine wpAnyH_take (i := 9) (v := .int .i64 k) rfl (by kernel_rfl) (by kernel_rfl) (by kernel_rfl) (fun _ _ _ h => h) (.inl ⟨rfl, fun _ _ => rfl⟩) hS0 ?_
  try simp only [Act.put, List.setIfInBounds_toArray, List.set_cons_zero, List.set_cons_succ, List.getElem_toArray, List.getElem_cons_zero, List.getElem_cons_succ]
  refine wpAnyH_take (i := 10) (v := .int .i64 (k + 1)) rfl (by kernel_rfl) (by kernel_rfl) (by kernel_rfl) (fun _ _ _ h => h) (yields_add rfl (.tmp 32) rfl k HK32.out rfl) hS0 ?_
  try simp only [Act.put, List.setIfInBounds_toArray, List.set_cons_zero, List.set_cons_succ, List.getElem_toArray, List.getElem_cons_zero, List.getElem_cons_succ]
  refine wpAnyH_take (i := 12) (v := .pointer (some ⟨b, 0, none⟩)) rfl (by kernel_rfl) (by kernel_rfl) (by kernel_rfl) (fun _ _ _ h => h) (.inl ⟨rfl, fun _ _ => by kernel_rfl⟩) hS0 ?_
  try simp only [Act.put, List.setIfInBounds_toArray, List.set_cons_zero, List.set_cons_succ, List.getElem_toArray, List.getElem_cons_zero, List.getElem_cons_succ]
  refine wpAnyH_take (i := 13) (v := .pointer (some ⟨b, 0, none⟩)) rfl (by kernel_rfl) (by kernel_rfl) (by kernel_rfl) (fun _ _ _ h => h) (.inl ⟨rfl, fun _ _ => by kernel_rfl⟩) hS0 ?_
  try simp only [Act.put, List.setIfInBounds_toArray, List.set_cons_zero, List.set_cons_succ, List.getElem_toArray, List.getElem_cons_zero, List.getElem_cons_succ]
  have cD : W1.drew.cell? ⟨b, 0, none⟩ = some (.pointer (some ⟨bk, 0, none⟩)) := HCL.out
  refine wpAnyH_ready (rs := [7]) (by kernel_rfl) (by simp) ?_
  refine AllReadyH.cons rfl (fun K hK => ?_) AllReadyH.nil
  go_simp
  refine hK.out _ _ hS0 (fun _ => ?_)
  clear hK K
  try simp only [Act.put, List.setIfInBounds_toArray, List.set_cons_zero, List.set_cons_succ, List.getElem_toArray, List.getElem_cons_zero, List.getElem_cons_succ]
  refine wpAnyH_ready (rs := [11]) (by kernel_rfl) (by simp) ?_
  refine AllReadyH.cons rfl (fun K hK => ?_) AllReadyH.nil
  go_simp
  refine (KC.out W1.drew (in_same HKI.out (fun x hx => HB1.out.drew.block x (in_lt HKI.out x hx)))).mono ?_
  rintro e0 w2 ⟨rfl, hL1, hL2⟩
  have hS1 : Kept (fun x => x ∈ (Tr.node b (Tr.node bk lk rk vk hk) r v hh).blocks) W1 w2 := Kept.trans (show Kept (fun x => x ∈ (Tr.node b (Tr.node bk lk rk vk hk) r v hh).blocks) W1 W1.drew from hS0) hL2 (fun x _ h => HSK.out x h)
  have SF := step_facts (c := false) HIN.out HND.out HB1.out.drew hL1 hL2 HSB.out
  simp only [Bool.false_eq_true, if_false, if_true] at SF
  obtain ⟨⟨s0, s1⟩, s2, s3⟩ := SF
  rw [show Tr.ptr (Tr.node bk lk rk vk hk) = Value.pointer (some ⟨bk, 0, none⟩) from rfl] at s0
  rw [HAL.out] at s2 s3
  rw [HAL.out]
  have S2 := Lib.hid s2
  have S3 := Lib.hid s3
  clear s2 s3
  go_wp2_with fail
  refine hK.out _ _ hS1 (fun _ => ?_)
  clear hK K
  try simp only [Act.put, List.setIfInBounds_toArray, List.set_cons_zero, List.set_cons_succ, List.getElem_toArray, List.getElem_cons_zero, List.getElem_cons_succ]
  refine wpAnyH_take (i := 14) (v := .pointer (some ⟨b, 0, none⟩)) rfl (by kernel_rfl) (by kernel_rfl) (by kernel_rfl) (fun _ _ _ h => h) (.inl ⟨rfl, fun _ _ => by kernel_rfl⟩) hS1 ?_
  try simp only [Act.put, List.setIfInBounds_toArray, List.set_cons_zero, List.set_cons_succ, List.getElem_toArray, List.getElem_cons_zero, List.getElem_cons_succ]
  refine wpAnyH_ready (rs := [15]) (by kernel_rfl) (by simp) ?_
  refine AllReadyH.cons rfl (fun K hK => ?_) AllReadyH.nil
  go_simp
  refine hK.out _ _ (hS1.setCell (p := ⟨b, 0, none⟩) (.inl (List.mem_cons_self ..)) _) (fun _ => ?_)
  clear hK K
  try simp only [Act.put, List.setIfInBounds_toArray, List.set_cons_zero, List.set_cons_succ, List.getElem_toArray, List.getElem_cons_zero, List.getElem_cons_succ]
  refine wpAnyH_done (by kernel_rfl) ?_ _
  refine NoPanic.normal ?_
  obtain ⟨V, hV⟩ : ∃ V, V = w2.setCell ⟨b, 0, none⟩ (.pointer al) := ⟨_, rfl⟩
  rw [← hV] at S2 S3 ⊢
  have hal := HAL.out
  obtain ⟨d0, d1, d2, d3, -, -, -⟩ := S2.out
  clear hV s0 s1 hL1 hL2 hS0 hS1 cD HAL HP0 HP1 HIN HND HSB HKI HPB HSK HCL KC KB p0 p1 Q0 Q1 HB1 HW hi
  rw [hal] at d0
  cases hh <;> cases K' <;> cases r
  all_goals
    simp only [Tr.ptr, Value.pointer.injEq] at hal d0 d1
    subst hal
    go_wp2_with fail
    go_ret
    first
      | exact ⟨rfl, S2.out, S3.out⟩
      | exact ⟨rfl, trivial, S3.out⟩

set_option maxRecDepth 100000 in
set_option maxHeartbeats 4000000 in
theorem step_true (n k : Nat) (a : Int) (b bk : Nat) (lk rk l K' : Tr) (vk v : Value) (hk hh : Bool) (w : World) (h0 : 0 ≤ a) (h1 : a < 4294967296) (hkn : k < n) (hn : n ≤ 32) (htn : turn a k = true) (hin : In w (.node b l (Tr.node bk lk rk vk hk) v hh)) (hnd : (Tr.node b l (Tr.node bk lk rk vk hk) v hh).blocks.Nodup) (hsub : ∀ x, x ∈ K'.blocks → x ∈ (Tr.node bk lk rk vk hk).blocks)
    (KC : Hid (∀ W, In W (Tr.node bk lk rk vk hk) → Calls Try.prog 41 #[.pointer (some ⟨bk, 0, none⟩), .agg #[.int .u32 a, .int .i64 n], .int .i64 (k + 1)] W fun e w' => e = .returned K'.ptr ∧ Left W w' (Tr.node bk lk rk vk hk) K')) :
    Calls Try.prog 41 #[.pointer (some ⟨b, 0, none⟩), .agg #[.int .u32 a, .int .i64 n], .int .i64 k] w fun e w' => e = .returned (Tr.trim (.node b l K' v hh)).ptr ∧ Left w w' (.node b l (Tr.node bk lk rk vk hk) v hh) (Tr.trim (.node b l K' v hh)) := by
  have KB := Lib.hid (fun W => ip1.bit_turn a k W h0 h1)
  rw [htn] at KB
  simp only [Bool.false_eq_true, if_false, if_true] at KB
  have hlt : b < w.heap.size := in_lt hin b (List.mem_cons_self ..)
  have hpb : w.heap.size ∉ (Tr.node b l (Tr.node bk lk rk vk hk) v hh).blocks := fun h => Nat.lt_irrefl _ (in_lt hin _ h)
  have hsubk : ∀ x, x ∈ (Tr.node bk lk rk vk hk).blocks → x ∈ (Tr.node b l (Tr.node bk lk rk vk hk) v hh).blocks := fun x h => List.mem_cons_of_mem _ (List.mem_append_right _ h)
  have hkin : In w (Tr.node bk lk rk vk hk) := hin.2.2.2.2.2.2
  have hcw : w.cell? ⟨b, 1, none⟩ = some (.pointer (some ⟨bk, 0, none⟩)) := hin.2.1
  obtain ⟨W1, hW1⟩ : ∃ W, W = w.alloc (.cells #[.int .u32 a, .int .i64 n] 30) := ⟨_, rfl⟩
  have q0 : W1.cell? ⟨w.heap.size, 0, none⟩ = some (.int .u32 a) := by rw [hW1]; exact aid.new2a _ _ _ _
  have q1 : W1.cell? ⟨w.heap.size, 1, none⟩ = some (.int .i64 n) := by rw [hW1]; exact aid.new2b _ _ _ _
  have p0 := aid.new2a w (.int .u32 a) (.int .i64 n) 30
  have p1 := aid.new2b w (.int .u32 a) (.int .i64 n) 30
  have HB1 := Lib.hid (show Below w.heap.size w W1 by rw [hW1]; exact (Below.refl _ _).alloc (Nat.le_refl _) _)
  have hcell := aid.kc HB1.out hcw
  have HW := Lib.hid hW1
  have hi : ((k : Int) == (n : Int)) = false := by
    have : (k : Int) ≠ (n : Int) := by omega
    simpa using this
  obtain ⟨al, hal⟩ : ∃ al, K'.ptr = .pointer al := by cases K' <;> exact ⟨_, rfl⟩
  have HAL := Lib.hid hal
  have HP0 := Lib.hid (show ∀ W, Kept (fun x => x ∈ (Tr.node b l (Tr.node bk lk rk vk hk) v hh).blocks) W1 W → W.cell? ⟨w.heap.size, 0, none⟩ = some (.int .u32 a) from fun W h => Kept.cell h q0 hpb)
  have HP1 := Lib.hid (show ∀ W, Kept (fun x => x ∈ (Tr.node b l (Tr.node bk lk rk vk hk) v hh).blocks) W1 W → W.cell? ⟨w.heap.size, 0 + 1, none⟩ = some (.int .i64 n) from fun W h => Kept.cell h q1 hpb)
  have HK32 := Lib.hid (show k < 32 by omega)
  have HIN := Lib.hid hin
  have HND := Lib.hid hnd
  have HSB := Lib.hid hsub
  have HKI := Lib.hid hkin
  have HPB := Lib.hid hpb
  have HSK := Lib.hid hsubk
  have Q0 := Lib.hid q0
  have Q1 := Lib.hid q1
  have HCL := Lib.hid hcell
  clear hW1 htn hcw h0 h1 hal hin hnd hsub hkin hpb hsubk q0 q1 hcell
  go_enter Try.func41, Try.ntmps41
  go_wp2_with fail
  refine (KB.out _).mono ?_
  rintro e w' ⟨rfl, rfl⟩
  go_wp2_with fail
  rw [← HW.out]
  refine wp_region_noPanic ?_
  refine wp_region_held_drew (S := fun W => Kept (fun x => x ∈ (Tr.node b l (Tr.node bk lk rk vk hk) v hh).blocks) W1 W) (by kernel_rfl) ((Kept.refl _ _).drew) (fun hSx => ?_)
  change wpAnyH _ _ _ _ _ 16 _ _ _
  have hS0 : Kept (fun x => x ∈ (Tr.node b l (Tr.node bk lk rk vk hk) v hh).blocks) W1 W1.drew := hSx
  clear hSx
  refine wpAnyH_take (i := 0) (v := .pointer (some ⟨b, 0, none⟩)) rfl (by kernel_rfl) (by kernel_rfl) (by kernel_rfl) (fun _ _ _ h => h) (.inl ⟨rfl, fun _ _ => rfl⟩) hS0 ?_
  try simp only [Act.put, List.setIfInBounds_toArray, List.set_cons_zero, List.set_cons_succ, List.getElem_toArray, List.getElem_cons_zero, List.getElem_cons_succ]
  refine wpAnyH_take (i := 1) (v := .int .i64 1) rfl (by kernel_rfl) (by kernel_rfl) (by kernel_rfl) (fun _ _ _ h => h) (.inl ⟨rfl, fun _ _ => rfl⟩) hS0 ?_
  try simp only [Act.put, List.setIfInBounds_toArray, List.set_cons_zero, List.set_cons_succ, List.getElem_toArray, List.getElem_cons_zero, List.getElem_cons_succ]
  refine wpAnyH_take (i := 2) (v := .pointer (some ⟨b, 0, none⟩)) rfl (by kernel_rfl) (by kernel_rfl) (by kernel_rfl) (fun _ _ _ h => h) (.inl ⟨rfl, fun _ _ => rfl⟩) hS0 ?_
  try simp only [Act.put, List.setIfInBounds_toArray, List.set_cons_zero, List.set_cons_succ, List.getElem_toArray, List.getElem_cons_zero, List.getElem_cons_succ]
  refine wpAnyH_take (i := 3) (v := .int .i64 1) rfl (by kernel_rfl) (by kernel_rfl) (by kernel_rfl) (fun _ _ _ h => h) (.inl ⟨rfl, fun _ _ => rfl⟩) hS0 ?_
  try simp only [Act.put, List.setIfInBounds_toArray, List.set_cons_zero, List.set_cons_succ, List.getElem_toArray, List.getElem_cons_zero, List.getElem_cons_succ]
  refine wpAnyH_take (i := 4) (v := .pointer (some ⟨b, 0, none⟩)) rfl (by kernel_rfl) (by kernel_rfl) (by kernel_rfl) (fun _ _ _ h => h) (.inl ⟨rfl, fun _ _ => by kernel_rfl⟩) hS0 ?_
  try simp only [Act.put, List.setIfInBounds_toArray, List.set_cons_zero, List.set_cons_succ, List.getElem_toArray, List.getElem_cons_zero, List.getElem_cons_succ]
  refine wpAnyH_take (i := 5) (v := .pointer (some ⟨b, 0, none⟩)) rfl (by kernel_rfl) (by kernel_rfl) (by kernel_rfl) (fun _ _ _ h => h) (.inl ⟨rfl, fun _ _ => by kernel_rfl⟩) hS0 ?_
  try simp only [Act.put, List.setIfInBounds_toArray, List.set_cons_zero, List.set_cons_succ, List.getElem_toArray, List.getElem_cons_zero, List.getElem_cons_succ]
  refine wpAnyH_take (i := 6) (v := .pointer (some ⟨b, 1, none⟩)) rfl (by kernel_rfl) (by kernel_rfl) (by kernel_rfl) (fun _ _ _ h => h) (.inl ⟨rfl, fun _ _ => by kernel_rfl⟩) hS0 ?_
  try simp only [Act.put, List.setIfInBounds_toArray, List.set_cons_zero, List.set_cons_succ, List.getElem_toArray, List.getElem_cons_zero, List.getElem_cons_succ]
  refine wpAnyH_take (i := 8) (v := .agg #[.int .u32 a, .int .i64 n]) rfl (by kernel_rfl) (by kernel_rfl) (by kernel_rfl) (fun _ _ _ h => h) (yields_pfx rfl (.tmp 4) rfl w.heap.size 0 rfl _ _ HP0.out HP1.out) hS0 ?_
  try simp only [Act.put, List.setIfInBounds_toArray, List.set_cons_zero, List.set_cons_succ, List.getElem_toArray, List.getElem_cons_zero, List.getElem_cons_succ]
  refine wpAnyH_take (i := 9) (v := .int .i64 k) rfl (by kernel_rfl) (by kernel_rfl) (by kernel_rfl) (fun _ _ _ h => h) (.inl ⟨rfl, fun _ _ => rfl⟩) hS0 ?_
  try simp only [Act.put, List.setIfInBounds_toArray, List.set_cons_zero, List.set_cons_succ, List.getElem_toArray, List.getElem_cons_zero, List.getElem_cons_succ]
  refine wpAnyH_take (i := 10) (v := .int .i64 (k + 1)) rfl (by kernel_rfl) (by kernel_rfl) (by kernel_rfl) (fun _ _ _ h => h) (yields_add rfl (.tmp 32) rfl k HK32.out rfl) hS0 ?_
  try simp only [Act.put, List.setIfInBounds_toArray, List.set_cons_zero, List.set_cons_succ, List.getElem_toArray, List.getElem_cons_zero, List.getElem_cons_succ]
  refine wpAnyH_take (i := 12) (v := .pointer (some ⟨b, 0, none⟩)) rfl (by kernel_rfl) (by kernel_rfl) (by kernel_rfl) (fun _ _ _ h => h) (.inl ⟨rfl, fun _ _ => by kernel_rfl⟩) hS0 ?_
  try simp only [Act.put, List.setIfInBounds_toArray, List.set_cons_zero, List.set_cons_succ, List.getElem_toArray, List.getElem_cons_zero, List.getElem_cons_succ]
  refine wpAnyH_take (i := 13) (v := .pointer (some ⟨b, 0, none⟩)) rfl (by kernel_rfl) (by kernel_rfl) (by kernel_rfl) (fun _ _ _ h => h) (.inl ⟨rfl, fun _ _ => by kernel_rfl⟩) hS0 ?_
  try simp only [Act.put, List.setIfInBounds_toArray, List.set_cons_zero, List.set_cons_succ, List.getElem_toArray, List.getElem_cons_zero, List.getElem_cons_succ]
  have cD : W1.drew.cell? ⟨b, 1, none⟩ = some (.pointer (some ⟨bk, 0, none⟩)) := HCL.out
  refine wpAnyH_ready (rs := [7]) (by kernel_rfl) (by simp) ?_
  refine AllReadyH.cons rfl (fun K hK => ?_) AllReadyH.nil
  go_simp
  refine hK.out _ _ hS0 (fun _ => ?_)
  clear hK K
  try simp only [Act.put, List.setIfInBounds_toArray, List.set_cons_zero, List.set_cons_succ, List.getElem_toArray, List.getElem_cons_zero, List.getElem_cons_succ]
  refine wpAnyH_ready (rs := [11]) (by kernel_rfl) (by simp) ?_
  refine AllReadyH.cons rfl (fun K hK => ?_) AllReadyH.nil
  go_simp
  refine (KC.out W1.drew (in_same HKI.out (fun x hx => HB1.out.drew.block x (in_lt HKI.out x hx)))).mono ?_
  rintro e0 w2 ⟨rfl, hL1, hL2⟩
  have hS1 : Kept (fun x => x ∈ (Tr.node b l (Tr.node bk lk rk vk hk) v hh).blocks) W1 w2 := Kept.trans (show Kept (fun x => x ∈ (Tr.node b l (Tr.node bk lk rk vk hk) v hh).blocks) W1 W1.drew from hS0) hL2 (fun x _ h => HSK.out x h)
  have SF := step_facts (c := true) HIN.out HND.out HB1.out.drew hL1 hL2 HSB.out
  simp only [Bool.false_eq_true, if_false, if_true] at SF
  obtain ⟨⟨s0, s1⟩, s2, s3⟩ := SF
  rw [show Tr.ptr (Tr.node bk lk rk vk hk) = Value.pointer (some ⟨bk, 0, none⟩) from rfl] at s0
  rw [HAL.out] at s2 s3
  rw [HAL.out]
  have S2 := Lib.hid s2
  have S3 := Lib.hid s3
  clear s2 s3
  go_wp2_with fail
  refine hK.out _ _ hS1 (fun _ => ?_)
  clear hK K
  try simp only [Act.put, List.setIfInBounds_toArray, List.set_cons_zero, List.set_cons_succ, List.getElem_toArray, List.getElem_cons_zero, List.getElem_cons_succ]
  refine wpAnyH_take (i := 14) (v := .pointer (some ⟨b, 1, none⟩)) rfl (by kernel_rfl) (by kernel_rfl) (by kernel_rfl) (fun _ _ _ h => h) (.inl ⟨rfl, fun _ _ => by kernel_rfl⟩) hS1 ?_
  try simp only [Act.put, List.setIfInBounds_toArray, List.set_cons_zero, List.set_cons_succ, List.getElem_toArray, List.getElem_cons_zero, List.getElem_cons_succ]
  refine wpAnyH_ready (rs := [15]) (by kernel_rfl) (by simp) ?_
  refine AllReadyH.cons rfl (fun K hK => ?_) AllReadyH.nil
  go_simp
  refine hK.out _ _ (hS1.setCell (p := ⟨b, 1, none⟩) (.inl (List.mem_cons_self ..)) _) (fun _ => ?_)
  clear hK K
  try simp only [Act.put, List.setIfInBounds_toArray, List.set_cons_zero, List.set_cons_succ, List.getElem_toArray, List.getElem_cons_zero, List.getElem_cons_succ]
  refine wpAnyH_done (by kernel_rfl) ?_ _
  refine NoPanic.normal ?_
  obtain ⟨V, hV⟩ : ∃ V, V = w2.setCell ⟨b, 1, none⟩ (.pointer al) := ⟨_, rfl⟩
  rw [← hV] at S2 S3 ⊢
  have hal := HAL.out
  obtain ⟨d0, d1, d2, d3, -, -, -⟩ := S2.out
  clear hV s0 s1 hL1 hL2 hS0 hS1 cD HAL HP0 HP1 HIN HND HSB HKI HPB HSK HCL KC KB p0 p1 Q0 Q1 HB1 HW hi
  rw [hal] at d1
  cases hh <;> cases K' <;> cases l
  all_goals
    simp only [Tr.ptr, Value.pointer.injEq] at hal d0 d1
    subst hal
    go_wp2_with fail
    go_ret
    first
      | exact ⟨rfl, S2.out, S3.out⟩
      | exact ⟨rfl, trivial, S3.out⟩
end Go.Proofs.Ytfealajbibofiaa.trdrop
