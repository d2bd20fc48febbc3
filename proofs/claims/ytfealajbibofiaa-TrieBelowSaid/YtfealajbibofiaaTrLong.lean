import Derived.Test.YtfealajbibofiaaTrDrop3
import Derived.Deep.LoopGhost
/- Package trie: New, Get, Longest; all of a trie that is nil. -/
set_option linter.unusedVariables false
set_option linter.unusedSimpArgs false
namespace Go.Proofs.Ytfealajbibofiaa.trlong
open Go.RowKit Go.Lib Go.Proofs.Ytfealajbibofiaa.math1 Go.Proofs.Ytfealajbibofiaa.trmath Go.Proofs.Ytfealajbibofiaa.trmem Go.Proofs.Ytfealajbibofiaa.trgraft Go.Proofs.Ytfealajbibofiaa.trunder Go.Proofs.Ytfealajbibofiaa.trput Go.Proofs.Ytfealajbibofiaa.trdrop

theorem new_any (m : Int) (h0 : 0 ≤ m) (h1 : m ≤ 4096) (w : World) : Calls Try.prog 9 #[.int .i64 m] w fun e w' => e = .returned (.pointer (some ⟨w.heap.size, 0, none⟩)) ∧ Tri w' w.heap.size .nil m 0 ∧ Below w.heap.size w w' := by
  go_enter Try.func9, Try.ntmps9
  go_wp2_with fail
  go_ret
  refine ⟨rfl, ⟨?_, ?_, ?_, fun i hi => World.frozen?_alloc_at _ _ _ _ rfl, trivial, List.nodup_nil, fun h => by cases h⟩, (Below.refl _ _).alloc (Nat.le_refl _) _⟩
  · go_simp; rfl
  · go_simp
  · go_simp

theorem yields_int {ops : Array Oper} {S : World → Prop} {op : Oper} {a : Act} (hw : Region.wanted op (yielded ops a.tmps) = true) (x : Operand) (ho : op.op = .load 3 x) (b o : Nat) (hx : a.eval x = .pointer (some ⟨b, o, none⟩)) (v : Value) (hS : ∀ w, S w → w.cell? ⟨b, o, none⟩ = some v) : YieldsIf Try.prog ops S op v a :=
  .inl ⟨hw, fun w h => by
    have := hS w h
    unfold execOp
    simp only [ho, hx]
    simp [go_sem, this]⟩

theorem get_no (v : Value) (a n : Int) (w : World) (K : ∀ W, Below w.heap.size w W → Calls Try.prog 39 #[v, .agg #[.int .u32 a, .int .i64 n]] W fun e w' => e = .returned (.pointer none) ∧ Below W.heap.size W w') :
    Calls Try.prog 14 #[v, .agg #[.int .u32 a, .int .i64 n]] w fun e w' => e = .returned (.tuple #[.int .i64 0, .bool false]) ∧ Below w.heap.size w w' := by
  have BA := Lib.hid ((Below.refl w.heap.size w).alloc (Nat.le_refl _) (.cells #[.int .u32 a, .int .i64 n] 30))
  have KF := Lib.hid K
  clear K
  go_enter Try.func14, Try.ntmps14
  go_wp2_with fail
  refine (KF.out _ BA.out).mono ?_
  rintro e w1 ⟨rfl, hb⟩
  have B := Lib.hid (aid.kb hb BA.out)
  clear hb
  go_wp2_with fail
  exact bodyPost_ret (v := .tuple #[.int .i64 0, .bool false]) (by simp [results, Try.results14, go_sem]) rfl ⟨rfl, B.out⟩

set_option maxRecDepth 100000 in
theorem walk_nil (x n : Int) (f : Value) (w : World) : Calls Try.prog 46 #[.pointer none, .agg #[.int .u32 x, .int .i64 n], f] w fun e w' => e = .returned (.bool true) ∧ Below w.heap.size w w' := by
  go_enter Try.func46, Try.ntmps46
  go_wp2_with fail
  go_ret
  exact ⟨rfl, (Below.refl _ _).alloc (Nat.le_refl _) _⟩
theorem neq_nil (F : FuncId) (W : World) : (binOp .neq 49 (.func (.func F) #[] #[]) Value.nilFunc).run Try.prog W = .ok (.bool true) W := by kernel_rfl
set_option maxRecDepth 100000 in
theorem below_nil (F : FuncId) (x n : Int) (w : World) : Calls Try.prog 18 #[.pointer none, .agg #[.int .u32 x, .int .i64 n], .func (.func F) #[] #[]] w fun e w' => e = .returned (.tuple #[]) ∧ Below w.heap.size w w' := by
  have ba := (Below.refl w.heap.size w).alloc (Nat.le_refl _) (.cells #[.int .u32 x, .int .i64 n] 30)
  have BA := Lib.hid ba
  obtain ⟨V, hV⟩ : ∃ V, V = w.alloc (.cells #[.int .u32 x, .int .i64 n] 30) := ⟨_, rfl⟩
  have k0 := fun s : aid.Keep V => aid.keep_cell (show V.cell? ⟨w.heap.size, 0, none⟩ = some (.int .u32 x) by rw [hV]; exact aid.new2a _ _ _ _) s
  have k1 := fun s : aid.Keep V => aid.keep_cell (show V.cell? ⟨w.heap.size, 1, none⟩ = some (.int .i64 n) by rw [hV]; exact aid.new2b _ _ _ _) s
  have HV := Lib.hid hV
  have KU := Lib.hid (fun s : aid.Keep V => under_nil x n s.world)
  have KW := Lib.hid (fun s : aid.Keep V => walk_nil x n (.func (.func F) #[] #[]) s.world)
  have Q := neq_nil F
  clear ba hV
  go_enter Try.func18, Try.ntmps18
  go_wp2_with fail
  rw [← HV.out]
  refine aid.wp_region_keep (by kernel_rfl) (by kernel_rfl) ?_
  repeat (go_big_quiet_step (first | (go_at_call 45; (with_reducible exact aid.keep_call (KU.out _))) | (go_at_call 46; (with_reducible exact aid.keep_call (KW.out _)))))
  refine wpQuiet_nil ?_
  rintro _ ⟨s, rfl⟩
  go_wp2_with fail
  go_end0
  exact ⟨rfl, aid.kbk (HV.out ▸ BA.out) s⟩
theorem all_nil (F : FuncId) (w : World) : Calls Try.prog 23 #[.pointer none, .func (.func F) #[] #[]] w fun e w' => e = .returned (.tuple #[]) ∧ Below w.heap.size w w' := by
  have K := Lib.hid (fun W => below_nil F 0 0 W)
  go_enter Try.func23, Try.ntmps23
  go_wp2_with fail
  refine (K.out _).mono ?_
  rintro e w1 ⟨rfl, hb⟩
  go_wp2_with fail
  go_end0
  exact ⟨rfl, hb⟩
theorem longest_nil (a : Int) (w : World) : Calls Try.prog 16 #[.pointer none, .int .u32 a] w fun e w' => e = .returned (.tuple #[.agg #[.int .u32 0, .int .i64 0], .int .i64 0, .bool false]) ∧ Below w.heap.size w w' := by
  go_enter Try.func16, Try.ntmps16
  go_wp2_with fail
  exact bodyPost_ret (v := .tuple #[.agg #[.int .u32 0, .int .i64 0], .int .i64 0, .bool false]) (by simp [results, Try.results16, go_sem]) rfl ⟨rfl, (Below.refl _ _).alloc (Nat.le_refl _) _⟩
end Go.Proofs.Ytfealajbibofiaa.trlong
