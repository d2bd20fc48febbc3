import Derived.Test.YtfealajbibofiaaTrPut2
import Derived.Deep.RegionHeld3
/- Package trie: without, Drop. -/
set_option linter.unusedVariables false
set_option linter.unusedSimpArgs false
namespace Go.Proofs.Ytfealajbibofiaa.trdrop
open Go.RowKit Go.Lib Go.Proofs.Ytfealajbibofiaa.math1 Go.Proofs.Ytfealajbibofiaa.trmath Go.Proofs.Ytfealajbibofiaa.trmem Go.Proofs.Ytfealajbibofiaa.trgraft Go.Proofs.Ytfealajbibofiaa.trunder Go.Proofs.Ytfealajbibofiaa.trput

/-- so many turns from a bit on -/
def pathF (a : Int) : Nat → Nat → List Bool
  | _, 0 => []
  | k, j + 1 => turn a k :: pathF a (k + 1) j
theorem path_pathF (a : Int) : ∀ (j k : Nat), path a (k + j) = path a k ++ pathF a k j
  | 0, k => by simp [pathF]
  | j + 1, k => by
    rw [show k + (j + 1) = (k + 1) + j by omega, path_pathF a j (k + 1), path, pathF, List.append_assoc]
    rfl
theorem path_eq_F (a : Int) (n : Nat) : path a n = pathF a 0 n := by
  have := path_pathF a n 0
  rw [Nat.zero_add] at this
  rw [this]; rfl

theorem yields_pfx {ops : Array Oper} {S : World → Prop} {op : Oper} {a : Act} (hw : Region.wanted op (yielded ops a.tmps) = true) (x : Operand) (ho : op.op = .load 30 x) (b o : Nat) (hx : a.eval x = .pointer (some ⟨b, o, none⟩)) (v u : Value) (hS : ∀ w, S w → w.cell? ⟨b, o, none⟩ = some v) (hT : ∀ w, S w → w.cell? ⟨b, o + 1, none⟩ = some u) : YieldsIf Try.prog ops S op (.agg #[v, u]) a :=
  yieldsIf_load_mid hw 30 x ho b o hx [v, u] _ (fun w h j z hz => by
    have hj := (List.getElem?_eq_some_iff.1 hz).1
    have : j = 0 ∨ j = 1 := by simp at hj; omega
    rcases this with rfl | rfl
    · simp only [List.getElem?_cons_zero, Option.some.injEq] at hz
      rw [← hz]
      exact hS w h
    · simp only [List.getElem?_cons_zero, List.getElem?_cons_succ, Option.some.injEq] at hz
      rw [← hz]
      exact hT w h) Try.underlying30 rfl (by kernel_rfl)

theorem infoNode : (Try.prog.info? 75).map (·.size) = some 4 := by kernel_rfl
section
variable {ops : Array Oper} {Q : Exit → Act → World → Prop} {a : Act} {w : World} {rest : List Oper} {op : Oper}
/-- a node is written -/
theorem wp_store_node (hw : Region.wanted op (yielded ops a.tmps) = true) (x y : Operand) (ho : op.op = .store 75 x y) (b : Nat) (hx : a.eval x = .pointer (some ⟨b, 0, none⟩)) (cs : Array Value) (hy : a.eval y = .agg cs)
    (hsz : cs.size = 4) (h1 : cs.all (·.oneCell') = true) (ht : w.there b 0 4) (W2 : World) (hW2 : w.setCells b 0 cs.toList = W2) (h : wpList Try.prog ops Q rest (a.put op.dst undef) W2) : wpList Try.prog ops Q (op :: rest) a w :=
  wpList_step fun K hK => by
    rw [if_pos hw]
    subst hW2
    exact wp_store_mid 75 x y ho b 0 cs hx hy (by rw [hsz]; exact ht) (by rw [infoNode, hsz]) h1 (hK _ _ h)
end
theorem heap_setCells {b : Nat} : ∀ (vs : List Value) (o : Nat) (w : World) (k : Nat), k ≠ b → (w.setCells b o vs).heap[k]? = w.heap[k]?
  | [], _, _, _, _ => rfl
  | v :: r, o, w, k, hk => by rw [World.setCells, heap_setCells r _ _ k hk, Below.heap_setCell _ _ _ _ hk]
theorem kept_setCells {m : Nat → Prop} {a : World} {b : Nat} (hb : m b) : ∀ (vs : List Value) (o : Nat) (w : World), Kept m a w → Kept m a (w.setCells b o vs)
  | [], _, _, h => h
  | v :: r, o, w, h => kept_setCells hb r (o + 1) _ (h.setCell (p := ⟨b, o, none⟩) (.inl hb) v)

/-- what without leaves -/
def Left (w w' : World) (U U' : Tr) : Prop := In w' U' ∧ Kept (fun x => x ∈ U.blocks) w w'

theorem trim_cases (b : Nat) (l r : Tr) (v : Value) (hh : Bool) : (hh = false ∧ l = .nil ∧ r = .nil ∧ Tr.trim (.node b l r v hh) = .nil) ∨ ((hh = true ∨ l ≠ .nil ∨ r ≠ .nil) ∧ Tr.trim (.node b l r v hh) = .node b l r v hh) := by
  cases hh <;> cases l <;> cases r <;> simp [Tr.trim]

theorem one4 (p q : Option Addr) : (#[Value.pointer p, Value.pointer q, Value.int .i64 0, Value.bool false] : Array Value).all (·.oneCell') = true := by simp [Value.oneCell']
theorem end_facts {b : Nat} {l r v h : Value} (a : Int) (k : Nat) (w : World) (c0 : w.cell? ⟨b, 0, none⟩ = some l) (c1 : w.cell? ⟨b, 1, none⟩ = some r) (c2 : w.cell? ⟨b, 2, none⟩ = some v) (c3 : w.cell? ⟨b, 3, none⟩ = some h) (fz : ∀ i, i < 4 → w.frozen? ⟨b, i, none⟩ = false) (o : Obj) (x0 x1 x2 x3 : Value) :
    (w.alloc o).there b 0 4 ∧ ((((w.alloc o).setCells b 0 [x0, x1, x2, x3]).cell? ⟨b, 0, none⟩ = some x0 ∧ ((w.alloc o).setCells b 0 [x0, x1, x2, x3]).cell? ⟨b, 1, none⟩ = some x1 ∧ ((w.alloc o).setCells b 0 [x0, x1, x2, x3]).cell? ⟨b, 2, none⟩ = some x2 ∧ ((w.alloc o).setCells b 0 [x0, x1, x2, x3]).cell? ⟨b, 3, none⟩ = some x3) ∧ (∀ i, i < 4 → ((w.alloc o).setCells b 0 [x0, x1, x2, x3]).frozen? ⟨b, i, none⟩ = false) ∧
      (∀ x, x < w.heap.size → x ≠ b → ((w.alloc o).setCells b 0 [x0, x1, x2, x3]).heap[x]? = w.heap[x]?) ∧ Kept (fun x => x = b) w ((w.alloc o).setCells b 0 [x0, x1, x2, x3])) := by
  have hlt : b < w.heap.size := World.block_lt_of_cell? _ _ c0
  have df : ∀ i, i < 4 → (w.alloc o).frozen? ⟨b, i, none⟩ = false := fun i hi => (World.frozen?_of_block (w := w) (a := ⟨b, i, none⟩) (Below.heap_alloc _ _ _ hlt)).trans (fz i hi)
  have TH : (w.alloc o).there b 0 4 := fun j hj => by
    have : j = 0 ∨ j = 1 ∨ j = 2 ∨ j = 3 := by omega
    rcases this with rfl | rfl | rfl | rfl
    · exact ⟨by simp only [Nat.zero_add]; rw [aid.ca o c0]; rfl, df 0 (by omega)⟩
    · exact ⟨by simp only [Nat.zero_add]; rw [aid.ca o c1]; rfl, df 1 (by omega)⟩
    · exact ⟨by simp only [Nat.zero_add]; rw [aid.ca o c2]; rfl, df 2 (by omega)⟩
    · exact ⟨by simp only [Nat.zero_add]; rw [aid.ca o c3]; rfl, df 3 (by omega)⟩
  have SR := World.rangeAt_setCells_same (w.alloc o) b 0 [x0, x1, x2, x3] TH
  refine ⟨TH, ⟨?_, ?_, ?_, ?_⟩, fun i hi => by rw [World.frozen?_setCells]; exact df i hi, fun x hx hne => (heap_setCells _ _ _ x hne).trans (Below.heap_alloc _ _ _ hx), kept_setCells (m := fun x => x = b) rfl _ _ _ (Kept.of_below ((Below.refl _ _).alloc (Nat.le_refl _) o))⟩
  · simpa using SR 0 x0 rfl
  · simpa using SR 1 x1 rfl
  · simpa using SR 2 x2 rfl
  · simpa using SR 3 x3 rfl

set_option maxRecDepth 100000 in
set_option maxHeartbeats 1000000 in
theorem end_nil_nil (n k : Nat) (a : Int) (b bl br : Nat) (ll rl lr rr : Tr) (vl vr v : Value) (hl hr hh : Bool) (w : World) (hk : k = n) (hin : In w (.node b Tr.nil Tr.nil v hh)) (hnd : (Tr.node b Tr.nil Tr.nil v hh).blocks.Nodup) :
    Calls Try.prog 41 #[.pointer (some ⟨b, 0, none⟩), .agg #[.int .u32 a, .int .i64 n], .int .i64 k] w fun e w' => e = .returned (Tr.ptr Tr.nil) ∧ Left w w' (.node b Tr.nil Tr.nil v hh) Tr.nil := by
  subst hk
  obtain ⟨c0, c1, c2, c3, fz, il, ir⟩ := hin
  obtain ⟨n1, n2, n3, n4, n5⟩ := Tr.nodup_kids hnd
  have p0 := aid.new2a w (.int .u32 a) (.int .i64 k) 30
  have p1 := aid.new2b w (.int .u32 a) (.int .i64 k) 30
  have d0 := aid.ca (.cells #[.int .u32 a, .int .i64 k] 30) c0
  have d1 := aid.ca (.cells #[.int .u32 a, .int .i64 k] 30) c1
  obtain ⟨TH, SR, SF, SH, KS⟩ := end_facts a k w c0 c1 c2 c3 fz (.cells #[.int .u32 a, .int .i64 k] 30) (Value.pointer none) (Value.pointer none) (.int .i64 0) (.bool false)
  have LT1 := Lib.hid (fun x hx => in_lt il x hx)
  have LT2 := Lib.hid (fun x hx => in_lt ir x hx)
  obtain ⟨V, hV⟩ : ∃ V, V = (w.alloc (.cells #[.int .u32 a, .int .i64 k] 30)).setCells b 0 [Value.pointer none, Value.pointer none, .int .i64 0, .bool false] := ⟨_, rfl⟩
  rw [← hV] at SR SF SH KS
  obtain ⟨s0, s1, s2, s3⟩ := SR
  have HV := Lib.hid hV
  have LEFT := Lib.hid (show In V (.node b Tr.nil Tr.nil (.int .i64 0) false) from ⟨s0, s1, s2, s3, SF, in_same il (fun x hx => SH x (in_lt il x hx) (fun e => n1 (e ▸ hx))), in_same ir (fun x hx => SH x (in_lt ir x hx) (fun e => n2 (e ▸ hx)))⟩)
  have KEPT := Lib.hid (show Kept (fun x => x ∈ (Tr.node b Tr.nil Tr.nil v hh).blocks) w V from KS.imp (fun x hx => by rw [hx]; exact List.mem_cons_self ..))
  simp only [Tr.ptr] at d0 d1
  clear c0 c1 c2 c3 fz hnd n1 n2 n3 n4 n5 SF SH KS hV il ir LT1 LT2
  go_enter Try.func41, Try.ntmps41
  go_wp2_with (refine wp_store_node rfl (.tmp 18) (.tmp 17) rfl b rfl #[Value.pointer none, Value.pointer none, .int .i64 0, .bool false] rfl rfl (one4 _ _) TH V HV.out.symm ?_)
  go_ret
  exact ⟨rfl, trivial, KEPT.out⟩

set_option maxRecDepth 100000 in
set_option maxHeartbeats 1000000 in
theorem end_nil_node (n k : Nat) (a : Int) (b bl br : Nat) (ll rl lr rr : Tr) (vl vr v : Value) (hl hr hh : Bool) (w : World) (hk : k = n) (hin : In w (.node b Tr.nil (Tr.node br lr rr vr hr) v hh)) (hnd : (Tr.node b Tr.nil (Tr.node br lr rr vr hr) v hh).blocks.Nodup) :
    Calls Try.prog 41 #[.pointer (some ⟨b, 0, none⟩), .agg #[.int .u32 a, .int .i64 n], .int .i64 k] w fun e w' => e = .returned (Tr.ptr (Tr.node b Tr.nil (Tr.node br lr rr vr hr) (.int .i64 0) false)) ∧ Left w w' (.node b Tr.nil (Tr.node br lr rr vr hr) v hh) (Tr.node b Tr.nil (Tr.node br lr rr vr hr) (.int .i64 0) false) := by
  subst hk
  obtain ⟨c0, c1, c2, c3, fz, il, ir⟩ := hin
  obtain ⟨n1, n2, n3, n4, n5⟩ := Tr.nodup_kids hnd
  have p0 := aid.new2a w (.int .u32 a) (.int .i64 k) 30
  have p1 := aid.new2b w (.int .u32 a) (.int .i64 k) 30
  have d0 := aid.ca (.cells #[.int .u32 a, .int .i64 k] 30) c0
  have d1 := aid.ca (.cells #[.int .u32 a, .int .i64 k] 30) c1
  obtain ⟨TH, SR, SF, SH, KS⟩ := end_facts a k w c0 c1 c2 c3 fz (.cells #[.int .u32 a, .int .i64 k] 30) (Value.pointer none) (Value.pointer (some ⟨br, 0, none⟩)) (.int .i64 0) (.bool false)
  have LT1 := Lib.hid (fun x hx => in_lt il x hx)
  have LT2 := Lib.hid (fun x hx => in_lt ir x hx)
  obtain ⟨V, hV⟩ : ∃ V, V = (w.alloc (.cells #[.int .u32 a, .int .i64 k] 30)).setCells b 0 [Value.pointer none, Value.pointer (some ⟨br, 0, none⟩), .int .i64 0, .bool false] := ⟨_, rfl⟩
  rw [← hV] at SR SF SH KS
  obtain ⟨s0, s1, s2, s3⟩ := SR
  have HV := Lib.hid hV
  have LEFT := Lib.hid (show In V (.node b Tr.nil (Tr.node br lr rr vr hr) (.int .i64 0) false) from ⟨s0, s1, s2, s3, SF, in_same il (fun x hx => SH x (in_lt il x hx) (fun e => n1 (e ▸ hx))), in_same ir (fun x hx => SH x (in_lt ir x hx) (fun e => n2 (e ▸ hx)))⟩)
  have KEPT := Lib.hid (show Kept (fun x => x ∈ (Tr.node b Tr.nil (Tr.node br lr rr vr hr) v hh).blocks) w V from KS.imp (fun x hx => by rw [hx]; exact List.mem_cons_self ..))
  simp only [Tr.ptr] at d0 d1
  clear c0 c1 c2 c3 fz hnd n1 n2 n3 n4 n5 SF SH KS hV il ir LT1 LT2
  go_enter Try.func41, Try.ntmps41
  go_wp2_with (refine wp_store_node rfl (.tmp 18) (.tmp 17) rfl b rfl #[Value.pointer none, Value.pointer (some ⟨br, 0, none⟩), .int .i64 0, .bool false] rfl rfl (one4 _ _) TH V HV.out.symm ?_)
  go_ret
  exact ⟨rfl, LEFT.out, KEPT.out⟩

set_option maxRecDepth 100000 in
set_option maxHeartbeats 1000000 in
theorem end_node_nil (n k : Nat) (a : Int) (b bl br : Nat) (ll rl lr rr : Tr) (vl vr v : Value) (hl hr hh : Bool) (w : World) (hk : k = n) (hin : In w (.node b (Tr.node bl ll rl vl hl) Tr.nil v hh)) (hnd : (Tr.node b (Tr.node bl ll rl vl hl) Tr.nil v hh).blocks.Nodup) :
    Calls Try.prog 41 #[.pointer (some ⟨b, 0, none⟩), .agg #[.int .u32 a, .int .i64 n], .int .i64 k] w fun e w' => e = .returned (Tr.ptr (Tr.node b (Tr.node bl ll rl vl hl) Tr.nil (.int .i64 0) false)) ∧ Left w w' (.node b (Tr.node bl ll rl vl hl) Tr.nil v hh) (Tr.node b (Tr.node bl ll rl vl hl) Tr.nil (.int .i64 0) false) := by
  subst hk
  obtain ⟨c0, c1, c2, c3, fz, il, ir⟩ := hin
  obtain ⟨n1, n2, n3, n4, n5⟩ := Tr.nodup_kids hnd
  have p0 := aid.new2a w (.int .u32 a) (.int .i64 k) 30
  have p1 := aid.new2b w (.int .u32 a) (.int .i64 k) 30
  have d0 := aid.ca (.cells #[.int .u32 a, .int .i64 k] 30) c0
  have d1 := aid.ca (.cells #[.int .u32 a, .int .i64 k] 30) c1
  obtain ⟨TH, SR, SF, SH, KS⟩ := end_facts a k w c0 c1 c2 c3 fz (.cells #[.int .u32 a, .int .i64 k] 30) (Value.pointer (some ⟨bl, 0, none⟩)) (Value.pointer none) (.int .i64 0) (.bool false)
  have LT1 := Lib.hid (fun x hx => in_lt il x hx)
  have LT2 := Lib.hid (fun x hx => in_lt ir x hx)
  obtain ⟨V, hV⟩ : ∃ V, V = (w.alloc (.cells #[.int .u32 a, .int .i64 k] 30)).setCells b 0 [Value.pointer (some ⟨bl, 0, none⟩), Value.pointer none, .int .i64 0, .bool false] := ⟨_, rfl⟩
  rw [← hV] at SR SF SH KS
  obtain ⟨s0, s1, s2, s3⟩ := SR
  have HV := Lib.hid hV
  have LEFT := Lib.hid (show In V (.node b (Tr.node bl ll rl vl hl) Tr.nil (.int .i64 0) false) from ⟨s0, s1, s2, s3, SF, in_same il (fun x hx => SH x (in_lt il x hx) (fun e => n1 (e ▸ hx))), in_same ir (fun x hx => SH x (in_lt ir x hx) (fun e => n2 (e ▸ hx)))⟩)
  have KEPT := Lib.hid (show Kept (fun x => x ∈ (Tr.node b (Tr.node bl ll rl vl hl) Tr.nil v hh).blocks) w V from KS.imp (fun x hx => by rw [hx]; exact List.mem_cons_self ..))
  simp only [Tr.ptr] at d0 d1
  clear c0 c1 c2 c3 fz hnd n1 n2 n3 n4 n5 SF SH KS hV il ir LT1 LT2
  go_enter Try.func41, Try.ntmps41
  go_wp2_with (refine wp_store_node rfl (.tmp 18) (.tmp 17) rfl b rfl #[Value.pointer (some ⟨bl, 0, none⟩), Value.pointer none, .int .i64 0, .bool false] rfl rfl (one4 _ _) TH V HV.out.symm ?_)
  go_ret
  exact ⟨rfl, LEFT.out, KEPT.out⟩

set_option maxRecDepth 100000 in
set_option maxHeartbeats 1000000 in
theorem end_node_node (n k : Nat) (a : Int) (b bl br : Nat) (ll rl lr rr : Tr) (vl vr v : Value) (hl hr hh : Bool) (w : World) (hk : k = n) (hin : In w (.node b (Tr.node bl ll rl vl hl) (Tr.node br lr rr vr hr) v hh)) (hnd : (Tr.node b (Tr.node bl ll rl vl hl) (Tr.node br lr rr vr hr) v hh).blocks.Nodup) :
    Calls Try.prog 41 #[.pointer (some ⟨b, 0, none⟩), .agg #[.int .u32 a, .int .i64 n], .int .i64 k] w fun e w' => e = .returned (Tr.ptr (Tr.node b (Tr.node bl ll rl vl hl) (Tr.node br lr rr vr hr) (.int .i64 0) false)) ∧ Left w w' (.node b (Tr.node bl ll rl vl hl) (Tr.node br lr rr vr hr) v hh) (Tr.node b (Tr.node bl ll rl vl hl) (Tr.node br lr rr vr hr) (.int .i64 0) false) := by
  subst hk
  obtain ⟨c0, c1, c2, c3, fz, il, ir⟩ := hin
  obtain ⟨n1, n2, n3, n4, n5⟩ := Tr.nodup_kids hnd
  have p0 := aid.new2a w (.int .u32 a) (.int .i64 k) 30
  have p1 := aid.new2b w (.int .u32 a) (.int .i64 k) 30
  have d0 := aid.ca (.cells #[.int .u32 a, .int .i64 k] 30) c0
  have d1 := aid.ca (.cells #[.int .u32 a, .int .i64 k] 30) c1
  obtain ⟨TH, SR, SF, SH, KS⟩ := end_facts a k w c0 c1 c2 c3 fz (.cells #[.int .u32 a, .int .i64 k] 30) (Value.pointer (some ⟨bl, 0, none⟩)) (Value.pointer (some ⟨br, 0, none⟩)) (.int .i64 0) (.bool false)
  have LT1 := Lib.hid (fun x hx => in_lt il x hx)
  have LT2 := Lib.hid (fun x hx => in_lt ir x hx)
  obtain ⟨V, hV⟩ : ∃ V, V = (w.alloc (.cells #[.int .u32 a, .int .i64 k] 30)).setCells b 0 [Value.pointer (some ⟨bl, 0, none⟩), Value.pointer (some ⟨br, 0, none⟩), .int .i64 0, .bool false] := ⟨_, rfl⟩
  rw [← hV] at SR SF SH KS
  obtain ⟨s0, s1, s2, s3⟩ := SR
  have HV := Lib.hid hV
  have LEFT := Lib.hid (show In V (.node b (Tr.node bl ll rl vl hl) (Tr.node br lr rr vr hr) (.int .i64 0) false) from ⟨s0, s1, s2, s3, SF, in_same il (fun x hx => SH x (in_lt il x hx) (fun e => n1 (e ▸ hx))), in_same ir (fun x hx => SH x (in_lt ir x hx) (fun e => n2 (e ▸ hx)))⟩)
  have KEPT := Lib.hid (show Kept (fun x => x ∈ (Tr.node b (Tr.node bl ll rl vl hl) (Tr.node br lr rr vr hr) v hh).blocks) w V from KS.imp (fun x hx => by rw [hx]; exact List.mem_cons_self ..))
  simp only [Tr.ptr] at d0 d1
  clear c0 c1 c2 c3 fz hnd n1 n2 n3 n4 n5 SF SH KS hV il ir LT1 LT2
  go_enter Try.func41, Try.ntmps41
  go_wp2_with (refine wp_store_node rfl (.tmp 18) (.tmp 17) rfl b rfl #[Value.pointer (some ⟨bl, 0, none⟩), Value.pointer (some ⟨br, 0, none⟩), .int .i64 0, .bool false] rfl rfl (one4 _ _) TH V HV.out.symm ?_)
  go_ret
  exact ⟨rfl, LEFT.out, KEPT.out⟩
end Go.Proofs.Ytfealajbibofiaa.trdrop
