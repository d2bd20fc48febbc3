import Derived.Test.YtfealajbibofiaaTrHead
/- Package trie: walk, Below, All where nothing stands. -/
set_option linter.unusedVariables false
set_option linter.unusedSimpArgs false
namespace Go.Proofs.Ytfealajbibofiaa.trwalk
open Go.RowKit Go.Lib Go.Proofs.Ytfealajbibofiaa.math1 Go.Proofs.Ytfealajbibofiaa.trmath Go.Proofs.Ytfealajbibofiaa.trmem Go.Proofs.Ytfealajbibofiaa.trgraft Go.Proofs.Ytfealajbibofiaa.trunder Go.Proofs.Ytfealajbibofiaa.trput Go.Proofs.Ytfealajbibofiaa.trdrop Go.Proofs.Ytfealajbibofiaa.trlong Go.Proofs.Ytfealajbibofiaa.trhead

/-- Half, whatever it is -/
theorem half_some (x n : Int) (k : Int) (hk : k = 0 ∨ k = 1) (h0 : 0 ≤ x) (h1 : x < 4294967296) : ∃ x' n' e' : Int, (0 ≤ x' ∧ x' < 4294967296) ∧ ∀ W, Calls Try.prog 55 #[.agg #[.int .u32 x, .int .i64 n], .int .i64 k] W fun e w' => e = .returned (.tuple #[.agg #[.int .u32 x', .int .i64 n'], .int .i64 e']) ∧ Below W.heap.size W w' := by
  by_cases h : rightB x n = false ∨ n = 32
  · exact ⟨0, 0, 1, by omega, fun W => ip1.half_no x n k W h0 h1 h⟩
  · have hr : rightB x n = true := by
      cases e : rightB x n
      · exact absurd (.inl e) h
      · rfl
    have hn : n ≠ 32 := fun e => h (.inr e)
    have hb := rightB_iff.1 hr
    refine ⟨ip1.halfI x n k, n + 1, 0, ?_, fun W => ip1.half_yes x n k W h0 h1 hr hn⟩
    have h2 := (half_bits x n h0 h1 hb.1 (by omega) hb.2.2).2
    have h3 := sz_pos (n + 1)
    unfold ip1.halfI
    split <;> omega

theorem none_kid {T : Tr} (h : ∀ σ, T.get σ = none) (c : Bool) : ∀ σ, (T.kid c).get σ = none := fun σ => h (c :: σ)

set_option maxRecDepth 100000 in
set_option maxHeartbeats 1000000 in
theorem none_step (b : Nat) (l r : Tr) (v f : Value) (x n : Int) (w : World) (hin : In w (.node b l r v false)) (h0 : 0 ≤ x) (h1 : x < 4294967296)
    (KL : Hid (∀ (x n : Int) W, In W l → 0 ≤ x → x < 4294967296 → Calls Try.prog 46 #[l.ptr, .agg #[.int .u32 x, .int .i64 n], f] W fun e w' => e = .returned (.bool true) ∧ Below W.heap.size W w'))
    (KR : Hid (∀ (x n : Int) W, In W r → 0 ≤ x → x < 4294967296 → Calls Try.prog 46 #[r.ptr, .agg #[.int .u32 x, .int .i64 n], f] W fun e w' => e = .returned (.bool true) ∧ Below W.heap.size W w')) :
    Calls Try.prog 46 #[.pointer (some ⟨b, 0, none⟩), .agg #[.int .u32 x, .int .i64 n], f] w fun e w' => e = .returned (.bool true) ∧ Below w.heap.size w w' := by
  obtain ⟨c0, c1, c2, c3, -, il, ir⟩ := hin
  have ba := (Below.refl w.heap.size w).alloc (Nat.le_refl _) (.cells #[.int .u32 x, .int .i64 n] 30)
  obtain ⟨V, hV⟩ : ∃ V, V = w.alloc (.cells #[.int .u32 x, .int .i64 n] 30) := ⟨_, rfl⟩
  rw [← hV] at ba
  have q0 : V.cell? ⟨w.heap.size, 0, none⟩ = some (.int .u32 x) := by rw [hV]; exact aid.new2a _ _ _ _
  have q1 : V.cell? ⟨w.heap.size, 1, none⟩ = some (.int .i64 n) := by rw [hV]; exact aid.new2b _ _ _ _
  have k3 := fun s : aid.Keep V => aid.keep_cell (aid.kc ba c3) s
  have C0 := Lib.hid (aid.kc ba c0)
  have C1 := Lib.hid (aid.kc ba c1)
  have Q0 := Lib.hid q0
  have Q1 := Lib.hid q1
  have IL := Lib.hid (in_below il ba)
  have IR := Lib.hid (in_below ir ba)
  have BA := Lib.hid ba
  have HV := Lib.hid hV
  obtain ⟨x0, n0, e0, hx0, kh0⟩ := half_some x n 0 (.inl rfl) h0 h1
  obtain ⟨x1, n1, e1, hx1, kh1⟩ := half_some x n 1 (.inr rfl) h0 h1
  have KH0 := Lib.hid kh0
  have KH1 := Lib.hid kh1
  have HX0 := Lib.hid hx0
  have HX1 := Lib.hid hx1
  obtain ⟨pl, hpl⟩ : ∃ p, l.ptr = .pointer p := by cases l <;> exact ⟨_, rfl⟩
  obtain ⟨pr, hpr⟩ : ∃ p, r.ptr = .pointer p := by cases r <;> exact ⟨_, rfl⟩
  rw [hpl] at C0 KL
  rw [hpr] at C1 KR
  have i0 : ∀ W, (Instr.index 73 (.agg #[.pointer pl, .pointer pr]) (.int .i64 0)).run Try.prog W = .ok (.pointer pl) W := fun _ => by kernel_rfl
  have i1 : ∀ W, (Instr.index 73 (.agg #[.pointer pl, .pointer pr]) (.int .i64 1)).run Try.prog W = .ok (.pointer pr) W := fun _ => by kernel_rfl
  clear c0 c1 c2 c3 il ir ba q0 q1 hV kh0 kh1 hx0 hx1 hpl hpr h0 h1
  go_enter Try.func46, Try.ntmps46
  go_wp2_with fail
  rw [← HV.out]
  refine aid.wp_region_keep (by kernel_rfl) (by kernel_rfl) ?_
  repeat (go_big_quiet_step (fail))
  refine wpQuiet_nil ?_
  rintro _ ⟨s, rfl⟩
  have c0 := aid.keep_cell C0.out s
  have c1 := aid.keep_cell C1.out s
  have Z0 := Lib.hid (aid.keep_cell Q0.out s)
  have Z1 := Lib.hid (aid.keep_cell Q1.out s)
  have JL := Lib.hid (in_below IL.out s.below)
  have JR := Lib.hid (in_below IR.out s.below)
  have BS := Lib.hid (aid.kbk BA.out s)
  clear k3 C0 C1 Q0 Q1 IL IR HV BA
  go_wp2_with fail
  go_loopw [31] (fun iv wr => ∃ k : Nat, k ≤ 2 ∧ iv = .int .i64 k ∧ Hid (Below s.world.heap.size s.world wr)) (fun iv _ => 2 - (intOf iv).toNat)
  case atStart => exact ⟨0, by omega, rfl, Lib.hid (Below.refl _ _)⟩
  case round =>
    obtain ⟨k, hk, rfl, Bl⟩ := hrel
    have z0 := aid.kc Bl.out Z0.out
    have z1 := aid.kc Bl.out Z1.out
    have hcase : k = 0 ∨ k = 1 ∨ k = 2 := by omega
    rcases hcase with rfl | rfl | rfl
    · go_wp2_with fail
      refine (KH0.out _).mono ?_
      rintro e w1 ⟨rfl, hb⟩
      have y := aid.kb ((Below.refl w1.heap.size w1).alloc (Nat.le_refl _) (.cells #[.int .u32 x0, .int .i64 n0] 30)) hb
      have B1 := Lib.hid (aid.kb y Bl.out)
      clear hb y
      go_wp2_with fail
      refine (KL.out x0 n0 _ (in_below JL.out B1.out) HX0.out.1 HX0.out.2).mono ?_
      rintro e w2 ⟨rfl, hb⟩
      have B2 := Lib.hid (aid.kb hb B1.out)
      clear hb
      go_wp2_with fail
      go_roundw
      case rel => exact ⟨1, by omega, by go_num, B2⟩
      case measure => simp [intOf]
    · go_wp2_with fail
      refine (KH1.out _).mono ?_
      rintro e w1 ⟨rfl, hb⟩
      have y := aid.kb ((Below.refl w1.heap.size w1).alloc (Nat.le_refl _) (.cells #[.int .u32 x1, .int .i64 n1] 30)) hb
      have B1 := Lib.hid (aid.kb y Bl.out)
      clear hb y
      go_wp2_with fail
      refine (KR.out x1 n1 _ (in_below JR.out B1.out) HX1.out.1 HX1.out.2).mono ?_
      rintro e w2 ⟨rfl, hb⟩
      have B2 := Lib.hid (aid.kb hb B1.out)
      clear hb
      go_wp2_with fail
      go_roundw
      case rel => exact ⟨2, by omega, by go_num, B2⟩
      case measure => simp [intOf]
    · go_wp2_with fail
      go_ret
      exact ⟨rfl, aid.kb Bl.out BS.out⟩

theorem walk_none (f : Value) : ∀ (U : Tr) (x n : Int) (w : World), In w U → (∀ σ, U.get σ = none) → 0 ≤ x → x < 4294967296 → Calls Try.prog 46 #[U.ptr, .agg #[.int .u32 x, .int .i64 n], f] w fun e w' => e = .returned (.bool true) ∧ Below w.heap.size w w'
  | .nil, x, n, w, _, _, _, _ => walk_nil x n f w
  | .node b l r v hh, x, n, w, hin, hg, h0, h1 => by
    have hf : hh = false := by
      cases hh
      · rfl
      · have := hg []; cases this
    subst hf
    exact none_step b l r v f x n w hin h0 h1 (Lib.hid (fun x n W hW h0 h1 => walk_none f l x n W hW (none_kid hg false) h0 h1)) (Lib.hid (fun x n W hW h0 h1 => walk_none f r x n W hW (none_kid hg true) h0 h1))

theorem neq_nilC (F : FuncId) (caps : Array Value) (W : World) : (binOp .neq 49 (.func (.func F) #[] caps) Value.nilFunc).run Try.prog W = .ok (.bool true) W := by kernel_rfl
set_option maxRecDepth 100000 in
theorem below_none (F : FuncId) (caps : Array Value) (t : Nat) (T : Tr) (m c : Int) (w : World) (hT : Tri w t T m c) (hg : ∀ σ, T.get σ = none) : Calls Try.prog 18 #[.pointer (some ⟨t, 0, none⟩), .agg #[.int .u32 0, .int .i64 0], .func (.func F) #[] caps] w fun e w' => e = .returned (.tuple #[]) ∧ Below w.heap.size w w' := by
  have ba := (Below.refl w.heap.size w).alloc (Nat.le_refl _) (.cells #[.int .u32 0, .int .i64 0] 30)
  have BA := Lib.hid ba
  obtain ⟨V, hV⟩ : ∃ V, V = w.alloc (.cells #[.int .u32 0, .int .i64 0] 30) := ⟨_, rfl⟩
  have k0 := fun s : aid.Keep V => aid.keep_cell (show V.cell? ⟨w.heap.size, 0, none⟩ = some (.int .u32 0) by rw [hV]; exact aid.new2a _ _ _ _) s
  have k1 := fun s : aid.Keep V => aid.keep_cell (show V.cell? ⟨w.heap.size, 1, none⟩ = some (.int .i64 0) by rw [hV]; exact aid.new2b _ _ _ _) s
  have TV := hT.below (hV ▸ ba : Below w.heap.size w V)
  obtain ⟨pl, hpl⟩ : ∃ p, T.ptr = .pointer p := by cases T <;> exact ⟨_, rfl⟩
  have ku := fun s : aid.Keep V => under_any t T m c 0 0 s.world (TV.below s.below) (by decide) (by decide) (by decide) (by kernel_rfl)
  have kw := fun s : aid.Keep V => walk_none (.func (.func F) #[] caps) T 0 0 s.world (TV.below s.below).tin hg (by decide) (by decide)
  rw [show (T.sub (path 0 0)).ptr = .pointer pl from hpl] at ku
  rw [hpl] at kw
  have KU := Lib.hid ku
  have KW := Lib.hid kw
  have HV := Lib.hid hV
  have Q := neq_nilC F caps
  clear ba hV TV ku kw hpl hT hg
  go_enter Try.func18, Try.ntmps18
  go_wp2_with fail
  rw [← HV.out]
  refine aid.wp_region_keep (by kernel_rfl) (by kernel_rfl) ?_
  repeat (go_big_quiet_step (first | (go_at_call 45; (with_reducible exact aid.keep_call (KU.out _))) | (go_at_call 46; (with_reducible exact aid.keep_call (KW.out _)))))
  refine wpQuiet_nil ?_
  rintro _ ⟨s, rfl⟩
  go_wp2_with fail
  go_end0
  exact ⟨rfl, aid.kbk (HV.out ▸ BA.out) s⟩
theorem all_none (F : FuncId) (caps : Array Value) (t : Nat) (T : Tr) (m c : Int) (w : World) (hT : Tri w t T m c) (hg : ∀ σ, T.get σ = none) : Calls Try.prog 23 #[.pointer (some ⟨t, 0, none⟩), .func (.func F) #[] caps] w fun e w' => e = .returned (.tuple #[]) ∧ Below w.heap.size w w' := by
  have K := Lib.hid (below_none F caps t T m c w hT hg)
  clear hT hg
  go_enter Try.func23, Try.ntmps23
  go_wp2_with fail
  refine (K.out).mono ?_
  rintro e w1 ⟨rfl, hb⟩
  go_wp2_with fail
  go_end0
  exact ⟨rfl, hb⟩
end Go.Proofs.Ytfealajbibofiaa.trwalk
