import Derived.Test.YtfealajbibofiaaTrLong
import Derived.Deep.LoopGhost
/- Package trie: Longest. -/
set_option linter.unusedVariables false
set_option linter.unusedSimpArgs false
namespace Go.Proofs.Ytfealajbibofiaa.trlong
open Go.RowKit Go.Lib Go.Proofs.Ytfealajbibofiaa.math1 Go.Proofs.Ytfealajbibofiaa.trmath Go.Proofs.Ytfealajbibofiaa.trmem Go.Proofs.Ytfealajbibofiaa.trgraft Go.Proofs.Ytfealajbibofiaa.trunder Go.Proofs.Ytfealajbibofiaa.trput Go.Proofs.Ytfealajbibofiaa.trdrop

/-- the longest of the first k lengths at which something stands on an address's path -/
def bestTo (T : Tr) (a : Int) : Nat → Option Nat
  | 0 => none
  | k + 1 => if (T.get (path a k)).isSome then some k else bestTo T a k
theorem bestTo_lt (T : Tr) (a : Int) : ∀ k i, bestTo T a k = some i → i < k ∧ (T.get (path a i)).isSome = true
  | 0, i, h => by cases h
  | k + 1, i, h => by
    rw [bestTo] at h
    split at h
    · rename_i hg
      simp only [Option.some.injEq] at h
      subst h
      exact ⟨Nat.lt_succ_self _, hg⟩
    · have := bestTo_lt T a k i h
      exact ⟨by omega, this.2⟩
theorem get_of_nil {T : Tr} {a : Int} {k : Nat} (h : T.sub (path a k) = .nil) (j : Nat) (hj : k ≤ j) : T.get (path a j) = none := by
  obtain ⟨i, rfl⟩ : ∃ i, j = k + i := ⟨j - k, by omega⟩
  obtain ⟨σ, hσ⟩ := path_add a k i
  rw [Tr.get, hσ, Tr.sub_append, h, Tr.sub_nil]; rfl
theorem bestTo_stay {T : Tr} {a : Int} {k : Nat} (h : T.sub (path a k) = .nil) : ∀ j, bestTo T a (k + j) = bestTo T a k
  | 0 => rfl
  | j + 1 => by
    rw [← Nat.add_assoc, bestTo, get_of_nil h (k + j) (by omega)]
    exact bestTo_stay h j
/-- the longest at all -/
def best (T : Tr) (a : Int) : Option Nat := bestTo T a 33
theorem best_of_nil {T : Tr} {a : Int} {k : Nat} (h : T.sub (path a k) = .nil) (hk : k ≤ 33) : bestTo T a k = best T a := by
  obtain ⟨j, hj⟩ : ∃ j, 33 = k + j := ⟨33 - k, by omega⟩
  rw [best, hj, bestTo_stay h]
def bp (T : Tr) (a : Int) : Option Nat → Value
  | none => .pointer none
  | some i => (T.sub (path a i)).ptr
def bs : Option Nat → Nat
  | none => 0
  | some i => i
def longO (T : Tr) (a : Int) : Option Nat → Value
  | none => .tuple #[.agg #[.int .u32 0, .int .i64 0], .int .i64 0, .bool false]
  | some i => .tuple #[.agg #[.int .u32 (netI a i), .int .i64 (clampI i)], (T.get (path a i)).getD (.int .i64 0), .bool true]
def longV (T : Tr) (a : Int) : Value := longO T a (best T a)

theorem infoPfx2 : (Try.prog.info? 30).map (·.size) = some 2 := by kernel_rfl
theorem step_store_pfx {ops : Array Oper} {o : Oper} {a : Act} {K : Act → World → Prop} {Q : Exit → Act → World → Prop} {E : Prop} {w : World} (hw : Region.wanted o (yielded ops a.tmps) = true) (x y : Operand) (ho : o.op = .store 30 x y) (b : Nat) (hx : a.eval x = .pointer (some ⟨b, 0, none⟩))
    (p q : Int) (hy : a.eval y = .agg #[.int .u32 p, .int .i64 q]) {u0 u1 : Value} (c0 : w.cell? ⟨b, 0, none⟩ = some u0) (c1 : w.cell? ⟨b, 1, none⟩ = some u1) (f0 : w.frozen? ⟨b, 0, none⟩ = false) (f1 : w.frozen? ⟨b, 1, none⟩ = false) (V : World) (hV : (w.setCell ⟨b, 0, none⟩ (.int .u32 p)).setCell ⟨b, 1, none⟩ (.int .i64 q) = V) (h : K (a.put o.dst undef) V) :
    if Region.wanted o (yielded ops a.tmps) = true then Oper.wp Try.prog o a w K Q else E := by
  rw [if_pos hw]
  subst hV
  exact wp_store_mid 30 x y ho b 0 #[.int .u32 p, .int .i64 q] hx hy (fun j hj => by
    have : j = 0 ∨ j = 1 := by simp at hj; omega
    rcases this with rfl | rfl
    · exact ⟨by simp only [Nat.zero_add]; rw [c0]; rfl, f0⟩
    · exact ⟨by simp only [Nat.zero_add]; rw [c1]; rfl, f1⟩) (by rw [infoPfx2]; rfl) (by simp [Value.oneCell']) h

set_option maxRecDepth 100000 in
set_option maxHeartbeats 2000000 in
theorem longest_any (t : Nat) (T : Tr) (m c : Int) (a : Int) (w : World) (hT : Tri w t T m c) (hd : T.Dep) (h0 : 0 ≤ a) (h1 : a < 4294967296) :
    Calls Try.prog 16 #[.pointer (some ⟨t, 0, none⟩), .int .u32 a] w fun e w' => e = .returned (longV T a) ∧ Below w.heap.size w w' := by
  have ba := (Below.refl w.heap.size w).alloc (Nat.le_refl _) (.cells #[.int .u32 0, .int .i64 0] 30)
  have TA := Lib.hid (hT.below ba)
  have c0 := (hT.below ba).c0
  have p0 := Lib.hid (aid.new2a w (.int .u32 0) (.int .i64 0) 30)
  have p1 := Lib.hid (aid.new2b w (.int .u32 0) (.int .i64 0) 30)
  have F0 := Lib.hid (show ∀ i, (w.alloc (.cells #[.int .u32 0, .int .i64 0] 30)).frozen? ⟨w.heap.size, i, none⟩ = false from fun i => World.frozen?_alloc_at _ _ _ _ rfl)
  obtain ⟨r0, hr0⟩ : ∃ r0, r0 = T.ptr := ⟨_, rfl⟩
  rw [← hr0] at c0
  have HR0 := Lib.hid hr0
  have HD := Lib.hid hd
  have HA := Lib.hid (And.intro h0 h1)
  have HTL := Lib.hid (fun x (hx : own t T x) => hT.lt hx)
  obtain ⟨V0, hV0⟩ : ∃ V, V = w.alloc (.cells #[.int .u32 0, .int .i64 0] 30) := ⟨_, rfl⟩
  have BA := Lib.hid (show Below w.heap.size w V0 by rw [hV0]; exact ba)
  have HLT := Lib.hid (show w.heap.size < V0.heap.size by rw [hV0]; simp)
  rw [← hV0] at TA p0 p1 F0
  have HV0 := Lib.hid hV0
  obtain ⟨BO, hBO⟩ : ∃ o, o = best T a := ⟨_, rfl⟩
  have HLO := Lib.hid (show longV T a = longO T a BO by rw [hBO]; rfl)
  have HBO := Lib.hid hBO
  obtain ⟨res, hres⟩ : ∃ r, r = longV T a := ⟨_, rfl⟩
  rw [← hres] at HLO ⊢
  clear hr0 hd h0 h1 hT ba hV0 hBO hres
  go_enter Try.func16, Try.ntmps16
  go_wp2_with fail
  rw [← HV0.out]
  clear HV0
  go_loopw [8, 9, 10, 11] (fun bv sv nv dv wr => ∃ k : Nat, k ≤ 33 ∧ dv = .int .i64 k ∧ Hid (nv = (T.sub (path a k)).ptr) ∧ Hid (bv = bp T a (bestTo T a k)) ∧ Hid (sv = .int .i64 (bs (bestTo T a k))) ∧ Hid (Below V0.heap.size V0 wr)) (fun _ _ _ dv _ => 33 - (intOf dv).toNat)
  case atStart => exact ⟨0, by omega, rfl, Lib.hid HR0.out, Lib.hid rfl, Lib.hid rfl, Lib.hid (Below.refl _ _)⟩
  case round =>
    obtain ⟨k, hk, rfl, hp, hbv, hsv, Bl⟩ := hrel
    cases hs : T.sub (path a k) with
    | nil =>
      have e10 : u10 = .pointer none := by rw [hp.out, hs]; rfl
      have hbest := best_of_nil hs hk
      have ebv := hbv.out
      have esv := hsv.out
      rw [hbest, ← HBO.out] at ebv esv
      subst e10
      have TW := Lib.hid (TA.out.below Bl.out)
      have BW := Lib.hid (aid.kb Bl.out BA.out)
      have CR0 := Lib.hid (aid.kc Bl.out p0.out)
      have CR1 := Lib.hid (aid.kc Bl.out p1.out)
      have FR0 := Lib.hid ((Bl.out.frozen (p := ⟨w.heap.size, 0, none⟩) HLT.out).trans (F0.out 0))
      have FR1 := Lib.hid ((Bl.out.frozen (p := ⟨w.heap.size, 1, none⟩) HLT.out).trans (F0.out 1))
      have CLT := Lib.hid (show w.heap.size < wr.heap.size from Nat.lt_of_lt_of_le HLT.out Bl.out.size)
      cases hb : BO with
      | none =>
        rw [hb] at ebv esv
        simp only [bp, bs] at ebv esv
        have hl := HLO.out
        rw [hb] at hl
        simp only [longO] at hl
        subst ebv esv hl
        have cc0 := CR0.out
        have cc1 := CR1.out
        have ff0 := FR0.out
        have ff1 := FR1.out
        clear hs hp hbv hsv hbest hb
        go_wp2_with fail
        refine bodyPost_ret (v := .tuple #[.agg #[.int .u32 0, .int .i64 0], .int .i64 0, .bool false]) (by simp [results, Try.results16, go_sem, cc0, cc1]) rfl ⟨rfl, ?_⟩
        exact (BW.out.setCell (p := ⟨w.heap.size, 0, none⟩) (Nat.le_refl _) _).setCell (p := ⟨w.heap.size, 1, none⟩) (Nat.le_refl _) _
      | some i =>
        rw [hb] at ebv esv
        simp only [bp, bs] at ebv esv
        have hl := HLO.out
        rw [hb] at hl
        simp only [longO] at hl
        have hi := bestTo_lt T a 33 i (show bestTo T a 33 = some i from (show best T a = some i by rw [← HBO.out]; exact hb))
        obtain ⟨bb, bl, br, vv, hh, hsi⟩ : ∃ b l r v0 hh, T.sub (path a i) = .node b l r v0 hh := by
          cases hs : T.sub (path a i) with
          | nil => rw [Tr.get, hs] at hi; cases hi.2
          | node b l r v0 hh => exact ⟨b, l, r, v0, hh, rfl⟩
        have hhT : hh = true := by
          cases hh
          · rw [Tr.get, hsi] at hi; cases hi.2
          · rfl
        subst hhT
        have hgv : (T.get (path a i)).getD (.int .i64 0) = vv := by rw [Tr.get, hsi]; rfl
        rw [hgv] at hl
        rw [hsi] at ebv
        rw [show Tr.ptr (.node bb bl br vv true) = Value.pointer (some ⟨bb, 0, none⟩) from rfl] at ebv
        subst ebv esv
        have hin := in_sub TW.out.tin (path a i)
        rw [hsi] at hin
        have cv := hin.2.2.1
        have hbw : ¬ bb = w.heap.size := fun e => by
          have := HTL.out bb (.inr (Tr.sub_blocks (π := path a i) (by rw [hsi]; exact List.mem_cons_self ..)))
          omega
        have HCV := Lib.hid (show ∀ W, Kept (fun x => x = w.heap.size) wr W → W.cell? ⟨bb, 2, none⟩ = some vv from fun W h => Kept.cell h cv hbw)
        have KOF := Lib.hid (fun W => ip1.of_any a i W HA.out.1 HA.out.2)
        have HL := Lib.hid hl
        clear hs hp hbv hsv hbest hb hi hsi hgv hin cv hbw hl
        go_wp2_with fail
        refine wp_region_noPanic ?_
        refine wp_region_held_drew (S := fun W => Kept (fun x => x = w.heap.size) wr W) (by kernel_rfl) ((Kept.refl _ _).drew) (fun hSx => ?_)
        change wpAnyH _ _ _ _ _ 10 _ _ _
        have hS0 : Kept (fun x => x = w.heap.size) wr wr.drew := hSx
        clear hSx
        refine wpAnyH_take (i := 0) (v := .int .u32 a) rfl (by kernel_rfl) (by kernel_rfl) (by kernel_rfl) (fun _ _ _ h => h) (.inl ⟨rfl, fun _ _ => rfl⟩) hS0 ?_
        try simp only [Act.put, List.setIfInBounds_toArray, List.set_cons_zero, List.set_cons_succ, List.getElem_toArray, List.getElem_cons_zero, List.getElem_cons_succ]
        refine wpAnyH_take (i := 1) (v := .int .i64 i) rfl (by kernel_rfl) (by kernel_rfl) (by kernel_rfl) (fun _ _ _ h => h) (.inl ⟨rfl, fun _ _ => rfl⟩) hS0 ?_
        try simp only [Act.put, List.setIfInBounds_toArray, List.set_cons_zero, List.set_cons_succ, List.getElem_toArray, List.getElem_cons_zero, List.getElem_cons_succ]
        refine wpAnyH_take (i := 3) (v := .pointer (some ⟨bb, 0, none⟩)) rfl (by kernel_rfl) (by kernel_rfl) (by kernel_rfl) (fun _ _ _ h => h) (.inl ⟨rfl, fun _ _ => rfl⟩) hS0 ?_
        try simp only [Act.put, List.setIfInBounds_toArray, List.set_cons_zero, List.set_cons_succ, List.getElem_toArray, List.getElem_cons_zero, List.getElem_cons_succ]
        refine wpAnyH_take (i := 4) (v := .pointer (some ⟨bb, 0, none⟩)) rfl (by kernel_rfl) (by kernel_rfl) (by kernel_rfl) (fun _ _ _ h => h) (.inl ⟨rfl, fun _ _ => by kernel_rfl⟩) hS0 ?_
        try simp only [Act.put, List.setIfInBounds_toArray, List.set_cons_zero, List.set_cons_succ, List.getElem_toArray, List.getElem_cons_zero, List.getElem_cons_succ]
        refine wpAnyH_take (i := 5) (v := .pointer (some ⟨bb, 2, none⟩)) rfl (by kernel_rfl) (by kernel_rfl) (by kernel_rfl) (fun _ _ _ h => h) (.inl ⟨rfl, fun _ _ => by kernel_rfl⟩) hS0 ?_
        try simp only [Act.put, List.setIfInBounds_toArray, List.set_cons_zero, List.set_cons_succ, List.getElem_toArray, List.getElem_cons_zero, List.getElem_cons_succ]
        refine wpAnyH_take (i := 6) (v := vv) rfl (by kernel_rfl) (by kernel_rfl) (by kernel_rfl) (fun _ _ _ h => h) (yields_int rfl (.tmp 47) rfl bb 2 rfl _ HCV.out) hS0 ?_
        try simp only [Act.put, List.setIfInBounds_toArray, List.set_cons_zero, List.set_cons_succ, List.getElem_toArray, List.getElem_cons_zero, List.getElem_cons_succ]
        refine wpAnyH_ready (rs := [2]) (by kernel_rfl) (by simp) ?_
        refine AllReadyH.cons rfl (fun K hK => ?_) AllReadyH.nil
        go_simp
        refine (KOF.out _).mono ?_
        rintro e0 w2 ⟨rfl, hb2⟩
        have hS1 : Kept (fun x => x = w.heap.size) wr w2 := Kept.then (show Kept (fun x => x = w.heap.size) wr wr.drew from hS0) hb2
        go_wp2_with fail
        refine hK.out _ _ hS1 (fun _ => ?_)
        clear hK K
        try simp only [Act.put, List.setIfInBounds_toArray, List.set_cons_zero, List.set_cons_succ, List.getElem_toArray, List.getElem_cons_zero, List.getElem_cons_succ]
        have cR0 := aid.kc hb2 (show wr.drew.cell? ⟨w.heap.size, 0, none⟩ = some (.int .u32 0) from CR0.out)
        have cR1 := aid.kc hb2 (show wr.drew.cell? ⟨w.heap.size, 1, none⟩ = some (.int .i64 0) from CR1.out)
        have fR0 := (hb2.frozen (p := ⟨w.heap.size, 0, none⟩) CLT.out).trans (show wr.drew.frozen? ⟨w.heap.size, 0, none⟩ = false from FR0.out)
        have fR1 := (hb2.frozen (p := ⟨w.heap.size, 1, none⟩) CLT.out).trans (show wr.drew.frozen? ⟨w.heap.size, 1, none⟩ = false from FR1.out)
        obtain ⟨w3, hw3⟩ : ∃ w3, w3 = (w2.setCell ⟨w.heap.size, 0, none⟩ (.int .u32 (netI a i))).setCell ⟨w.heap.size, 1, none⟩ (.int .i64 (clampI i)) := ⟨_, rfl⟩
        have hS2 : Kept (fun x => x = w.heap.size) wr w3 := by rw [hw3]; exact (hS1.setCell (p := ⟨w.heap.size, 0, none⟩) (.inl rfl) _).setCell (p := ⟨w.heap.size, 1, none⟩) (.inl rfl) _
        have e1 : w3.cell? ⟨w.heap.size, 0, none⟩ = some (.int .u32 (netI a i)) := by rw [hw3]; exact (World.cell?_setCell_other _ _ _ _ (by simp)).trans (World.cell?_setCell_same _ _ _ cR0)
        have e2 : w3.cell? ⟨w.heap.size, 1, none⟩ = some (.int .i64 (clampI i)) := by rw [hw3]; exact World.cell?_setCell_same _ _ _ ((World.cell?_setCell_other _ _ _ _ (by simp)).trans cR1)
        refine wpAnyH_ready (rs := [7]) (by kernel_rfl) (by simp) ?_
        refine AllReadyH.cons rfl (fun K hK => ?_) AllReadyH.nil
        refine step_store_pfx rfl (.tmp 4) (.tmp 44) rfl w.heap.size rfl _ _ rfl cR0 cR1 fR0 fR1 w3 hw3.symm ?_
        refine hK.out _ _ hS2 (fun _ => ?_)
        clear hK K
        try simp only [Act.put, List.setIfInBounds_toArray, List.set_cons_zero, List.set_cons_succ, List.getElem_toArray, List.getElem_cons_zero, List.getElem_cons_succ]
        refine wpAnyH_take (i := 8) (v := vv) rfl (by kernel_rfl) (by kernel_rfl) (by kernel_rfl) (fun _ _ _ h => h) (.inl ⟨rfl, fun _ _ => rfl⟩) hS2 ?_
        try simp only [Act.put, List.setIfInBounds_toArray, List.set_cons_zero, List.set_cons_succ, List.getElem_toArray, List.getElem_cons_zero, List.getElem_cons_succ]
        refine wpAnyH_take (i := 9) (v := .bool true) rfl (by kernel_rfl) (by kernel_rfl) (by kernel_rfl) (fun _ _ _ h => h) (.inl ⟨rfl, fun _ _ => rfl⟩) hS2 ?_
        try simp only [Act.put, List.setIfInBounds_toArray, List.set_cons_zero, List.set_cons_succ, List.getElem_toArray, List.getElem_cons_zero, List.getElem_cons_succ]
        refine wpAnyH_done (by kernel_rfl) ?_ _
        refine NoPanic.normal ?_
        have BF := Lib.hid (show Below w.heap.size w w3 from BW.out.trans (hS2.below (Nat.le_of_lt CLT.out) (fun x hx e => by omega)))
        clear hS0 hS1 hS2 hb2 cR0 cR1 fR0 fR1 hw3
        go_wp2_with fail
        exact bodyPost_ret (v := .tuple #[.agg #[.int .u32 (netI a i), .int .i64 (clampI i)], vv, .bool true]) (by simp [results, Try.results16, go_sem, e1, e2]) rfl ⟨congrArg Ending.returned HL.out.symm, BF.out⟩
    | node b l r v hh =>
      have hk32 : k ≤ 32 := by
        have := HD.out (path a k) (by rw [hs]; exact fun h => by cases h)
        rwa [path_len] at this
      have hin := in_sub (TA.out.below Bl.out).tin (path a k)
      rw [hs] at hin
      obtain ⟨c0, c1, -, c3, -⟩ := hin
      have e10 : u10 = .pointer (some ⟨b, 0, none⟩) := by rw [hp.out, hs]; rfl
      subst e10
      have k0 := fun s : aid.Keep wr => aid.keep_cell c0 s
      have k1 := fun s : aid.Keep wr => aid.keep_cell c1 s
      have hnx : (T.sub (path a (k + 1))).ptr = (if turn a k then r else l).ptr := by
        rw [path, Tr.sub_snoc, hs]; rfl
      have KB := Lib.hid (fun W => ip1.bit_turn a k W HA.out.1 HA.out.2)
      have hbs : bestTo T a (k + 1) = if hh then some k else bestTo T a k := by
        rw [bestTo, Tr.get, hs]
        cases hh <;> rfl
      have hpk : (T.sub (path a k)).ptr = .pointer (some ⟨b, 0, none⟩) := by rw [hs]; rfl
      have HPK := Lib.hid hpk
      clear hs hp hpk
      cases hh <;> cases htn : turn a k
      all_goals
        rw [htn] at KB hnx
        simp only [Bool.false_eq_true, if_false, if_true] at KB hnx hbs
        have HX := Lib.hid hnx
        have HBS := Lib.hid hbs
        clear htn hnx hbs
        go_wp2_with fail
        refine aid.wp_region_keep (by kernel_rfl) (by kernel_rfl) ?_
        repeat (go_big_quiet_step ((go_at_call 42; (with_reducible exact aid.keep_same (KB.out _)))))
        refine wpQuiet_nil ?_
        rintro _ ⟨s, rfl⟩
        go_wp2_with fail
        go_roundw
        case rel =>
          first
            | exact ⟨k + 1, by omega, by go_num, Lib.hid HX.out.symm, Lib.hid (by rw [HBS.out]; exact hbv.out), Lib.hid (by rw [HBS.out]; exact hsv.out), Lib.hid (aid.kbk Bl.out s)⟩
            | exact ⟨k + 1, by omega, by go_num, Lib.hid HX.out.symm, Lib.hid (by rw [HBS.out]; exact HPK.out.symm), Lib.hid (by rw [HBS.out]; rfl), Lib.hid (aid.kbk Bl.out s)⟩
        case measure => simp [intOf]; omega
end Go.Proofs.Ytfealajbibofiaa.trlong
