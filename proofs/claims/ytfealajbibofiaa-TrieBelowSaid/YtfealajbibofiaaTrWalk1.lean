import Derived.Test.YtfealajbibofiaaTrWalk0
import Derived.Test.YtfealajbibofiaaTrMap
/- Package trie: walk, with whatever is asked of each. -/
set_option linter.unusedVariables false
set_option linter.unusedSimpArgs false
namespace Go.Proofs.Ytfealajbibofiaa.trwalk
open Go.RowKit Go.Lib Go.Proofs.Ytfealajbibofiaa.math1 Go.Proofs.Ytfealajbibofiaa.trmath Go.Proofs.Ytfealajbibofiaa.trmem Go.Proofs.Ytfealajbibofiaa.trgraft Go.Proofs.Ytfealajbibofiaa.trunder Go.Proofs.Ytfealajbibofiaa.trput Go.Proofs.Ytfealajbibofiaa.trdrop Go.Proofs.Ytfealajbibofiaa.trlong Go.Proofs.Ytfealajbibofiaa.trhead Go.Proofs.Ytfealajbibofiaa.trmap

/-- what stands at a node and below, in the order of the walk -/
def entries : Tr → Int → Int → List ((Int × Int) × Value)
  | .nil, _, _ => []
  | .node _ l r v h, x, n => (if h then [((x, n), v)] else []) ++ (entries l x (n + 1) ++ entries r (x + sz (n + 1)) (n + 1))
/-- one after the other, till one says stop -/
def run {S : Type} (step : S → ((Int × Int) × Value) → S × Bool) : S → List ((Int × Int) × Value) → S × Bool
  | s, [] => (s, true)
  | s, e :: es => if (step s e).2 then run step (step s e).1 es else ((step s e).1, false)
theorem run_append {S : Type} (step : S → ((Int × Int) × Value) → S × Bool) : ∀ (l m : List ((Int × Int) × Value)) (s : S), run step s (l ++ m) = if (run step s l).2 then run step (run step s l).1 m else run step s l
  | [], m, s => by simp [run]
  | e :: es, m, s => by
    rw [List.cons_append, run, run]
    by_cases h : (step s e).2 = true
    · rw [if_pos h, if_pos h, run_append step es m]
    · rw [if_neg h, if_neg h, if_neg (by simp)]

theorem yields_bool {ops : Array Oper} {S : World → Prop} {op : Oper} {a : Act} (hw : Region.wanted op (yielded ops a.tmps) = true) (x : Operand) (ho : op.op = .load 4 x) (b o : Nat) (hx : a.eval x = .pointer (some ⟨b, o, none⟩)) (v : Value) (hS : ∀ w, S w → w.cell? ⟨b, o, none⟩ = some v) : YieldsIf Try.prog ops S op v a :=
  .inl ⟨hw, fun w h => by
    have := hS w h
    unfold execOp
    simp only [ho, hx]
    simp [go_sem, this]⟩

set_option maxRecDepth 100000 in
set_option maxHeartbeats 4000000 in
theorem walk_step {S : Type} (F : FuncId) (caps : Array Value) (eg : ∀ args w, (callFunc F args).run Try.prog w = .ok (.enter F args) w) (Inv : S → World → Prop) (C : Nat → Prop) (b : Nat) (l r : Tr) (v : Value) (hh : Bool) (x n : Int) (w : World) (b0 b1 b2 : Bool) (s s0 s1 s2 : S)
    (HINV : Hid (∀ s W, ∀ W', Inv s W → Below W.heap.size W W' → Inv s W'))
    (KFH : Hid (∀ W, Inv s W → (∀ q, C q → q < W.heap.size) → hh = true → Calls Try.prog F (#[.agg #[.int .u32 x, .int .i64 n], v] ++ caps) W fun e w' => e = .returned (.bool b0) ∧ Inv s0 w' ∧ Kept C W w')) (h00 : hh = false → b0 = true ∧ s0 = s)
    (hin : In w (.node b l r v hh)) (hC : ∀ q, q ∈ (Tr.node b l r v hh).blocks → ¬ C q) (hCw : ∀ q, C q → q < w.heap.size) (hI : Inv s w)
    (x0 n0 e0 x1 n1 e1 : Int)
    (KH0 : Hid (∀ W, Calls Try.prog 55 #[.agg #[.int .u32 x, .int .i64 n], .int .i64 0] W fun e w' => e = .returned (.tuple #[.agg #[.int .u32 x0, .int .i64 n0], .int .i64 e0]) ∧ Below W.heap.size W w'))
    (KH1 : Hid (∀ W, Calls Try.prog 55 #[.agg #[.int .u32 x, .int .i64 n], .int .i64 1] W fun e w' => e = .returned (.tuple #[.agg #[.int .u32 x1, .int .i64 n1], .int .i64 e1]) ∧ Below W.heap.size W w'))
    (KL : Hid (∀ W, In W l → Inv s0 W → (∀ q, C q → q < W.heap.size) → Calls Try.prog 46 #[l.ptr, .agg #[.int .u32 x0, .int .i64 n0], .func (.func F) #[] caps] W fun e w' => e = .returned (.bool b1) ∧ Inv s1 w' ∧ Kept C W w'))
    (KR : Hid (∀ W, In W r → Inv s1 W → (∀ q, C q → q < W.heap.size) → Calls Try.prog 46 #[r.ptr, .agg #[.int .u32 x1, .int .i64 n1], .func (.func F) #[] caps] W fun e w' => e = .returned (.bool b2) ∧ Inv s2 w' ∧ Kept C W w')) :
    Calls Try.prog 46 #[.pointer (some ⟨b, 0, none⟩), .agg #[.int .u32 x, .int .i64 n], .func (.func F) #[] caps] w fun e w' => e = .returned (.bool (b0 && b1 && b2)) ∧ Inv (if b0 then if b1 then s2 else s1 else s0) w' ∧ Kept C w w' := by
  obtain ⟨c0, c1, c2, c3, -, il, ir⟩ := hin
  have ba := (Below.refl w.heap.size w).alloc (Nat.le_refl _) (.cells #[.int .u32 x, .int .i64 n] 30)
  obtain ⟨V, hV⟩ : ∃ V, V = w.alloc (.cells #[.int .u32 x, .int .i64 n] 30) := ⟨_, rfl⟩
  rw [← hV] at ba
  have hVs : w.heap.size < V.heap.size := by rw [hV]; simp
  have q0 : V.cell? ⟨w.heap.size, 0, none⟩ = some (.int .u32 x) := by rw [hV]; exact aid.new2a _ _ _ _
  have q1 : V.cell? ⟨w.heap.size, 1, none⟩ = some (.int .i64 n) := by rw [hV]; exact aid.new2b _ _ _ _
  have nb : ¬ C b := hC b (List.mem_cons_self ..)
  have nw : ¬ C w.heap.size := fun h => Nat.lt_irrefl _ (hCw _ h)
  have HP0 := Lib.hid (show ∀ W, Kept C V W → W.cell? ⟨w.heap.size, 0, none⟩ = some (.int .u32 x) from fun W h => Kept.cell h q0 nw)
  have HP1 := Lib.hid (show ∀ W, Kept C V W → W.cell? ⟨w.heap.size, 0 + 1, none⟩ = some (.int .i64 n) from fun W h => Kept.cell h q1 nw)
  have HC3 := Lib.hid (show ∀ W, Kept C V W → W.cell? ⟨b, 3, none⟩ = some (.bool hh) from fun W h => Kept.cell h (aid.kc ba c3) nb)
  have HC2 := Lib.hid (show ∀ W, Kept C V W → W.cell? ⟨b, 2, none⟩ = some v from fun W h => Kept.cell h (aid.kc ba c2) nb)
  obtain ⟨pl, hpl⟩ : ∃ p, l.ptr = .pointer p := by cases l <;> exact ⟨_, rfl⟩
  obtain ⟨pr, hpr⟩ : ∃ p, r.ptr = .pointer p := by cases r <;> exact ⟨_, rfl⟩
  rw [hpl] at c0 KL
  rw [hpr] at c1 KR
  have HC0 := Lib.hid (show ∀ W, Kept C V W → W.cell? ⟨b, 0, none⟩ = some (.pointer pl) from fun W h => Kept.cell h (aid.kc ba c0) nb)
  have HC1 := Lib.hid (show ∀ W, Kept C V W → W.cell? ⟨b, 1, none⟩ = some (.pointer pr) from fun W h => Kept.cell h (aid.kc ba c1) nb)
  have i0 : ∀ W, (Instr.index 73 (.agg #[.pointer pl, .pointer pr]) (.int .i64 0)).run Try.prog W = .ok (.pointer pl) W := fun _ => by kernel_rfl
  have i1 : ∀ W, (Instr.index 73 (.agg #[.pointer pl, .pointer pr]) (.int .i64 1)).run Try.prog W = .ok (.pointer pr) W := fun _ => by kernel_rfl
  have IL := Lib.hid (show ∀ W, Kept C V W → In W l from fun W h => in_kept (in_below il ba) h (fun q hq => hC q (List.mem_cons_of_mem _ (List.mem_append_left _ hq))))
  have IR := Lib.hid (show ∀ W, Kept C V W → In W r from fun W h => in_kept (in_below ir ba) h (fun q hq => hC q (List.mem_cons_of_mem _ (List.mem_append_right _ hq))))
  have SV := Lib.hid (HINV.out s w V hI ba)
  have KW := Lib.hid (show ∀ W, Kept C V W → Kept C w W from fun W h => (Kept.of_below (may := C) ba).trans h (fun _ _ h => h))
  have HCV := Lib.hid (show ∀ W, Kept C V W → ∀ q, C q → q < W.heap.size from fun W h q hq => Nat.lt_of_lt_of_le (hCw q hq) (Nat.le_trans ba.size h.size))
  have HV := Lib.hid hV
  clear c0 c1 c2 c3 il ir ba q0 q1 nb nw hpl hpr hC hCw hI hV
  cases hh
  · obtain ⟨rfl, rfl⟩ := h00 rfl
    have k3 := fun s : aid.Keep V => HC3.out s.world (Kept.of_below s.below)
    go_enter Try.func46, Try.ntmps46
    go_wp2_with fail
    rw [← HV.out]
    refine aid.wp_region_keep (by kernel_rfl) (by kernel_rfl) ?_
    repeat (go_big_quiet_step (fail))
    refine wpQuiet_nil ?_
    rintro _ ⟨sk, rfl⟩
    have I2 := Lib.hid (HINV.out s0 V sk.world SV.out sk.below)
    have KS := Lib.hid (Kept.of_below (may := C) sk.below)
    have c0 := HC0.out _ KS.out
    have c1 := HC1.out _ KS.out
    clear k3
    go_wp2_with fail
    go_loopw [31] (fun iv wr => ∃ k : Nat, k ≤ 2 ∧ iv = .int .i64 k ∧ Hid (k = 0 ∨ b1 = true) ∧ Hid (k = 2 → b2 = true) ∧ Hid (Inv (if k = 0 then s0 else if k = 1 then s1 else s2) wr) ∧ Hid (Kept C V wr)) (fun iv _ => 2 - (intOf iv).toNat)
    case atStart => exact ⟨0, by omega, rfl, Lib.hid (.inl rfl), Lib.hid (fun h => by cases h), Lib.hid I2.out, KS⟩
    case round =>
      obtain ⟨k, hk, rfl, hb1, hb2, hI, Bl⟩ := hrel
      have z0 := HP0.out _ Bl.out
      have z1 : wr.cell? ⟨w.heap.size, 1, none⟩ = some (.int .i64 n) := HP1.out _ Bl.out
      have hcase : k = 0 ∨ k = 1 ∨ k = 2 := by omega
      rcases hcase with rfl | rfl | rfl
      · go_wp2_with fail
        refine (KH0.out _).mono ?_
        rintro e w1 ⟨rfl, hb⟩
        have y := aid.kb ((Below.refl w1.heap.size w1).alloc (Nat.le_refl _) (.cells #[.int .u32 x0, .int .i64 n0] 30)) hb
        have I3 := Lib.hid (HINV.out s0 _ _ hI.out y)
        have K3 := Lib.hid (Kept.then Bl.out y)
        clear hb y
        go_wp2_with fail
        refine (KL.out _ (IL.out _ K3.out) I3.out (HCV.out _ K3.out)).mono ?_
        rintro e w2 ⟨rfl, hi, hk⟩
        have I4 := Lib.hid hi
        have K4 := Lib.hid (Kept.trans K3.out hk (fun _ _ h => h))
        clear hi hk
        cases b1
        · go_wp2_with fail
          go_ret
          exact ⟨rfl, I4.out, KW.out _ K4.out⟩
        · go_wp2_with fail
          go_roundw
          case rel => exact ⟨1, by omega, by go_num, Lib.hid (.inr (by trivial)), Lib.hid (fun h => by cases h), I4, K4⟩
          case measure => simp [intOf]
      · obtain rfl : b1 = true := by
          rcases hb1.out with h | h
          · cases h
          · exact h
        go_wp2_with fail
        refine (KH1.out _).mono ?_
        rintro e w1 ⟨rfl, hb⟩
        have y := aid.kb ((Below.refl w1.heap.size w1).alloc (Nat.le_refl _) (.cells #[.int .u32 x1, .int .i64 n1] 30)) hb
        have I3 := Lib.hid (HINV.out s1 _ _ hI.out y)
        have K3 := Lib.hid (Kept.then Bl.out y)
        clear hb y
        go_wp2_with fail
        refine (KR.out _ (IR.out _ K3.out) I3.out (HCV.out _ K3.out)).mono ?_
        rintro e w2 ⟨rfl, hi, hk⟩
        have I4 := Lib.hid hi
        have K4 := Lib.hid (Kept.trans K3.out hk (fun _ _ h => h))
        clear hi hk
        cases b2
        · go_wp2_with fail
          go_ret
          exact ⟨rfl, I4.out, KW.out _ K4.out⟩
        · go_wp2_with fail
          go_roundw
          case rel => exact ⟨2, by omega, by go_num, Lib.hid (.inr (by trivial)), Lib.hid (fun _ => by trivial), I4, K4⟩
          case measure => simp [intOf]
      · obtain rfl : b1 = true := by
          rcases hb1.out with h | h
          · cases h
          · exact h
        obtain rfl : b2 = true := hb2.out rfl
        go_wp2_with fail
        go_ret
        exact ⟨rfl, hI.out, KW.out _ Bl.out⟩

  · go_enter Try.func46, Try.ntmps46
    go_wp2_with fail
    rw [← HV.out]
    refine wp_region_noPanic ?_
    refine wp_region_held_drew (S := fun W => Kept C V W) (by kernel_rfl) ((Kept.refl _ _).drew) (fun hSx => ?_)
    change wpAnyH _ _ _ _ _ 14 _ _ _
    have hS0 : Kept C V V.drew := hSx
    clear hSx
    refine wpAnyH_take (i := 0) (v := .pointer (some ⟨b, 0, none⟩)) rfl (by kernel_rfl) (by kernel_rfl) (by kernel_rfl) (fun _ _ _ h => h) (.inl ⟨rfl, fun _ _ => rfl⟩) hS0 ?_
    try simp only [Act.put, List.setIfInBounds_toArray, List.set_cons_zero, List.set_cons_succ, List.getElem_toArray, List.getElem_cons_zero, List.getElem_cons_succ]
    refine wpAnyH_take (i := 1) (v := .pointer (some ⟨b, 0, none⟩)) rfl (by kernel_rfl) (by kernel_rfl) (by kernel_rfl) (fun _ _ _ h => h) (.inl ⟨rfl, fun _ _ => by kernel_rfl⟩) hS0 ?_
    try simp only [Act.put, List.setIfInBounds_toArray, List.set_cons_zero, List.set_cons_succ, List.getElem_toArray, List.getElem_cons_zero, List.getElem_cons_succ]
    refine wpAnyH_take (i := 2) (v := .pointer (some ⟨b, 3, none⟩)) rfl (by kernel_rfl) (by kernel_rfl) (by kernel_rfl) (fun _ _ _ h => h) (.inl ⟨rfl, fun _ _ => by kernel_rfl⟩) hS0 ?_
    try simp only [Act.put, List.setIfInBounds_toArray, List.set_cons_zero, List.set_cons_succ, List.getElem_toArray, List.getElem_cons_zero, List.getElem_cons_succ]
    refine wpAnyH_take (i := 3) (v := .bool true) rfl (by kernel_rfl) (by kernel_rfl) (by kernel_rfl) (fun _ _ _ h => h) (yields_bool rfl (.tmp 15) rfl b 3 rfl _ HC3.out) hS0 ?_
    try simp only [Act.put, List.setIfInBounds_toArray, List.set_cons_zero, List.set_cons_succ, List.getElem_toArray, List.getElem_cons_zero, List.getElem_cons_succ]
    refine wpAnyH_take (i := 4) (v := .bool true) rfl (by kernel_rfl) (by kernel_rfl) (by kernel_rfl) (fun _ _ _ h => h) (.inl ⟨rfl, fun _ _ => rfl⟩) hS0 ?_
    try simp only [Act.put, List.setIfInBounds_toArray, List.set_cons_zero, List.set_cons_succ, List.getElem_toArray, List.getElem_cons_zero, List.getElem_cons_succ]
    refine wpAnyH_take (i := 5) (v := .func (.func F) #[] caps) rfl (by kernel_rfl) (by kernel_rfl) (by kernel_rfl) (fun _ _ _ h => h) (.inl ⟨rfl, fun _ _ => rfl⟩) hS0 ?_
    try simp only [Act.put, List.setIfInBounds_toArray, List.set_cons_zero, List.set_cons_succ, List.getElem_toArray, List.getElem_cons_zero, List.getElem_cons_succ]
    refine wpAnyH_take (i := 6) (v := .agg #[.int .u32 x, .int .i64 n]) rfl (by kernel_rfl) (by kernel_rfl) (by kernel_rfl) (fun _ _ _ h => h) (yields_pfx rfl (.tmp 4) rfl w.heap.size 0 rfl _ _ HP0.out HP1.out) hS0 ?_
    try simp only [Act.put, List.setIfInBounds_toArray, List.set_cons_zero, List.set_cons_succ, List.getElem_toArray, List.getElem_cons_zero, List.getElem_cons_succ]
    refine wpAnyH_take (i := 7) (v := .pointer (some ⟨b, 0, none⟩)) rfl (by kernel_rfl) (by kernel_rfl) (by kernel_rfl) (fun _ _ _ h => h) (.inl ⟨rfl, fun _ _ => rfl⟩) hS0 ?_
    try simp only [Act.put, List.setIfInBounds_toArray, List.set_cons_zero, List.set_cons_succ, List.getElem_toArray, List.getElem_cons_zero, List.getElem_cons_succ]
    refine wpAnyH_take (i := 8) (v := .pointer (some ⟨b, 0, none⟩)) rfl (by kernel_rfl) (by kernel_rfl) (by kernel_rfl) (fun _ _ _ h => h) (.inl ⟨rfl, fun _ _ => by kernel_rfl⟩) hS0 ?_
    try simp only [Act.put, List.setIfInBounds_toArray, List.set_cons_zero, List.set_cons_succ, List.getElem_toArray, List.getElem_cons_zero, List.getElem_cons_succ]
    refine wpAnyH_take (i := 9) (v := .pointer (some ⟨b, 2, none⟩)) rfl (by kernel_rfl) (by kernel_rfl) (by kernel_rfl) (fun _ _ _ h => h) (.inl ⟨rfl, fun _ _ => by kernel_rfl⟩) hS0 ?_
    try simp only [Act.put, List.setIfInBounds_toArray, List.set_cons_zero, List.set_cons_succ, List.getElem_toArray, List.getElem_cons_zero, List.getElem_cons_succ]
    refine wpAnyH_take (i := 10) (v := v) rfl (by kernel_rfl) (by kernel_rfl) (by kernel_rfl) (fun _ _ _ h => h) (yields_int rfl (.tmp 22) rfl b 2 rfl _ HC2.out) hS0 ?_
    try simp only [Act.put, List.setIfInBounds_toArray, List.set_cons_zero, List.set_cons_succ, List.getElem_toArray, List.getElem_cons_zero, List.getElem_cons_succ]
    refine wpAnyH_ready (rs := [11]) (by kernel_rfl) (by simp) ?_
    refine AllReadyH.cons rfl (fun K hK => ?_) AllReadyH.nil
    go_simp
    refine (KFH.out _ (HINV.out _ _ _ SV.out (Below.refl _ _).drew) (HCV.out _ (Kept.refl _ _).drew) (by trivial)).mono ?_
    rintro e0 w2 ⟨rfl, hi2, hk2⟩
    have hS1 : Kept C V w2 := Kept.trans (show Kept C V V.drew from hS0) hk2 (fun x _ h => h)
    go_wp2_with fail
    refine hK.out _ _ hS1 (fun _ => ?_)
    clear hK K
    try simp only [Act.put, List.setIfInBounds_toArray, List.set_cons_zero, List.set_cons_succ, List.getElem_toArray, List.getElem_cons_zero, List.getElem_cons_succ]
    have I2 := Lib.hid hi2
    have KS := Lib.hid hS1
    clear hi2 hk2

    cases b0
    · skip
      refine wpAnyH_ready (rs := [12]) (by kernel_rfl) (by simp) ?_
      refine AllReadyH.cons rfl (fun K hK => ?_) AllReadyH.nil
      go_simp
      refine hK.out _ _ hS1 (fun _ => ?_)
      clear hK K
      try simp only [Act.put, List.setIfInBounds_toArray, List.set_cons_zero, List.set_cons_succ, List.getElem_toArray, List.getElem_cons_zero, List.getElem_cons_succ]
      refine wpAnyH_ready (rs := [13]) (by kernel_rfl) (by simp) ?_
      refine AllReadyH.cons rfl (fun K hK => ?_) AllReadyH.nil
      go_simp
      refine hK.out _ _ hS1 (fun _ => ?_)
      clear hK K
      try simp only [Act.put, List.setIfInBounds_toArray, List.set_cons_zero, List.set_cons_succ, List.getElem_toArray, List.getElem_cons_zero, List.getElem_cons_succ]
      refine wpAnyH_done (by kernel_rfl) ?_ _
      refine NoPanic.normal ?_

      clear hS0 hS1
      go_wp2_with fail
      go_ret
      exact ⟨rfl, I2.out, KW.out _ KS.out⟩
    · skip
      refine wpAnyH_ready (rs := [12]) (by kernel_rfl) (by simp) ?_
      refine AllReadyH.cons rfl (fun K hK => ?_) AllReadyH.nil
      go_simp
      refine hK.out _ _ hS1 (fun _ => ?_)
      clear hK K
      try simp only [Act.put, List.setIfInBounds_toArray, List.set_cons_zero, List.set_cons_succ, List.getElem_toArray, List.getElem_cons_zero, List.getElem_cons_succ]
      refine wpAnyH_ready (rs := [13]) (by kernel_rfl) (by simp) ?_
      refine AllReadyH.cons rfl (fun K hK => ?_) AllReadyH.nil
      go_simp
      refine hK.out _ _ hS1 (fun _ => ?_)
      clear hK K
      try simp only [Act.put, List.setIfInBounds_toArray, List.set_cons_zero, List.set_cons_succ, List.getElem_toArray, List.getElem_cons_zero, List.getElem_cons_succ]
      refine wpAnyH_done (by kernel_rfl) ?_ _
      refine NoPanic.normal ?_

      have c0 := HC0.out _ KS.out
      have c1 := HC1.out _ KS.out
      clear hS0 hS1
      go_wp2_with fail
      go_loopw [31] (fun iv wr => ∃ k : Nat, k ≤ 2 ∧ iv = .int .i64 k ∧ Hid (k = 0 ∨ b1 = true) ∧ Hid (k = 2 → b2 = true) ∧ Hid (Inv (if k = 0 then s0 else if k = 1 then s1 else s2) wr) ∧ Hid (Kept C V wr)) (fun iv _ => 2 - (intOf iv).toNat)
      case atStart => exact ⟨0, by omega, rfl, Lib.hid (.inl rfl), Lib.hid (fun h => by cases h), Lib.hid I2.out, KS⟩
      case round =>
        obtain ⟨k, hk, rfl, hb1, hb2, hI, Bl⟩ := hrel
        have z0 := HP0.out _ Bl.out
        have z1 : wr.cell? ⟨w.heap.size, 1, none⟩ = some (.int .i64 n) := HP1.out _ Bl.out
        have hcase : k = 0 ∨ k = 1 ∨ k = 2 := by omega
        rcases hcase with rfl | rfl | rfl
        · go_wp2_with fail
          refine (KH0.out _).mono ?_
          rintro e w1 ⟨rfl, hb⟩
          have y := aid.kb ((Below.refl w1.heap.size w1).alloc (Nat.le_refl _) (.cells #[.int .u32 x0, .int .i64 n0] 30)) hb
          have I3 := Lib.hid (HINV.out s0 _ _ hI.out y)
          have K3 := Lib.hid (Kept.then Bl.out y)
          clear hb y
          go_wp2_with fail
          refine (KL.out _ (IL.out _ K3.out) I3.out (HCV.out _ K3.out)).mono ?_
          rintro e w2 ⟨rfl, hi, hk⟩
          have I4 := Lib.hid hi
          have K4 := Lib.hid (Kept.trans K3.out hk (fun _ _ h => h))
          clear hi hk
          cases b1
          · go_wp2_with fail
            go_ret
            exact ⟨rfl, I4.out, KW.out _ K4.out⟩
          · go_wp2_with fail
            go_roundw
            case rel => exact ⟨1, by omega, by go_num, Lib.hid (.inr (by trivial)), Lib.hid (fun h => by cases h), I4, K4⟩
            case measure => simp [intOf]
        · obtain rfl : b1 = true := by
            rcases hb1.out with h | h
            · cases h
            · exact h
          go_wp2_with fail
          refine (KH1.out _).mono ?_
          rintro e w1 ⟨rfl, hb⟩
          have y := aid.kb ((Below.refl w1.heap.size w1).alloc (Nat.le_refl _) (.cells #[.int .u32 x1, .int .i64 n1] 30)) hb
          have I3 := Lib.hid (HINV.out s1 _ _ hI.out y)
          have K3 := Lib.hid (Kept.then Bl.out y)
          clear hb y
          go_wp2_with fail
          refine (KR.out _ (IR.out _ K3.out) I3.out (HCV.out _ K3.out)).mono ?_
          rintro e w2 ⟨rfl, hi, hk⟩
          have I4 := Lib.hid hi
          have K4 := Lib.hid (Kept.trans K3.out hk (fun _ _ h => h))
          clear hi hk
          cases b2
          · go_wp2_with fail
            go_ret
            exact ⟨rfl, I4.out, KW.out _ K4.out⟩
          · go_wp2_with fail
            go_roundw
            case rel => exact ⟨2, by omega, by go_num, Lib.hid (.inr (by trivial)), Lib.hid (fun _ => by trivial), I4, K4⟩
            case measure => simp [intOf]
        · obtain rfl : b1 = true := by
            rcases hb1.out with h | h
            · cases h
            · exact h
          obtain rfl : b2 = true := hb2.out rfl
          go_wp2_with fail
          go_ret
          exact ⟨rfl, hI.out, KW.out _ Bl.out⟩

end Go.Proofs.Ytfealajbibofiaa.trwalk
