import Derived.Test.YtpnbbaocdbopiaaPsOr
/- Package pset: And, Less. -/
set_option linter.unusedVariables false
set_option linter.unusedSimpArgs false
namespace Go.Proofs.Ytpnbbaocdbopiaa.psand
open Go.RowKit Go.Shelf Go.Lib Go.Sort Go.Proofs.Ytpnbbaocdbopiaa.math1 Go.Proofs.Ytpnbbaocdbopiaa.pscmp Go.Proofs.Ytpnbbaocdbopiaa.psfind Go.Proofs.Ytpnbbaocdbopiaa.pssort Go.Proofs.Ytpnbbaocdbopiaa.psuniq Go.Proofs.Ytpnbbaocdbopiaa.pscompact Go.Proofs.Ytpnbbaocdbopiaa.psof Go.Proofs.Ytpnbbaocdbopiaa.psask Go.Proofs.Ytpnbbaocdbopiaa.psmerge Go.Proofs.Ytpnbbaocdbopiaa.psfull Go.Proofs.Ytpnbbaocdbopiaa.psor

theorem keepAnd (a b : Bool) (W : World) : Calls Try.prog 44 #[.bool a, .bool b] W fun e w' => e = .returned (.bool (a && b)) ∧ W = w' := by
  cases a <;> cases b
  all_goals
    go_enter Try.func44, Try.ntmps44
    go_wp2_with fail
    go_ret
    exact ⟨rfl, rfl⟩
theorem keepLess (a b : Bool) (W : World) : Calls Try.prog 45 #[.bool a, .bool b] W fun e w' => e = .returned (.bool (!b)) ∧ W = w' := by
  cases a <;> cases b
  all_goals
    go_enter Try.func45, Try.ntmps45
    go_wp2_with fail
    go_ret
    exact ⟨rfl, rfl⟩
theorem and_of {d e R : Array P2} (h : Mg (fun a b => a && b) d e d.size e.size R) (x : P2) : x ∈ R.toList ↔ x ∈ d.toList ∧ x ∈ e.toList := by
  rw [h.mem]
  unfold Fst inD
  rw [← mem_get, ← mem_get]
  simp
  exact fun h _ => .inl h
theorem less_of {d e R : Array P2} (h : Mg (fun _ b => !b) d e d.size e.size R) (x : P2) : x ∈ R.toList ↔ x ∈ d.toList ∧ x ∉ e.toList := by
  rw [h.mem]
  unfold Fst inD
  rw [← mem_get, ← mem_get]
  simp
  exact fun h h' => absurd h' h

theorem and_ok (s1 s2 : Value) (d e : Array P2) (w : World) (h1 : IsRow w s1 d) (h2 : IsRow w s2 e) (q1 : CapOk s1 d.size) (q2 : CapOk s2 e.size) (sd : Strict d) (se : Strict e) (n1 : d.size ≤ 4096) (n2 : e.size ≤ 4096) :
    Calls Try.prog 22 #[.agg #[s1], .agg #[s2]] w fun e1 w' => (∃ x R, e1 = .returned (.agg #[x]) ∧ IsRow w' x R ∧ CapOk x R.size ∧ Strict R ∧ R.size ≤ d.size + e.size ∧ (∀ p, p ∈ R.toList ↔ p ∈ d.toList ∧ p ∈ e.toList)) ∧ Below w.heap.size w w' := by
  have KM := Lib.hid (fun W (hb : Below w.heap.size w W) => merge_any 44 (fun a b => a && b) (enters_of Try.func44 (by kernel_rfl) rfl) keepAnd s1 s2 d e W (slOf (h1.below hb) q1) (slOf (h2.below hb) q2) sd se n1 n2)
  obtain ⟨a1, m1, c1, rfl⟩ : ∃ a n c, s1 = Value.slice a n c := by
    obtain ⟨a, c, h⟩ := pssame.IsRow.shape h1
    exact ⟨a, _, c, h⟩
  obtain ⟨a2, m2, c2, rfl⟩ : ∃ a n c, s2 = Value.slice a n c := by
    obtain ⟨a, c, h⟩ := pssame.IsRow.shape h2
    exact ⟨a, _, c, h⟩
  clear h1 h2 q1 q2 sd se
  have bA : Below w.heap.size w (((w.alloc (.cells #[.slice a1 m1 c1] 29)).alloc (.cells #[.slice a2 m2 c2] 29)).alloc (.cells #[.slice none 0 0] 29)) := (((Below.refl _ _).alloc (Nat.le_refl _) _).alloc (by simp) _).alloc (by simp; omega) _
  have e2 : (((w.alloc (.cells #[.slice a1 m1 c1] 29)).alloc (.cells #[.slice a2 m2 c2] 29)).alloc (.cells #[.slice none 0 0] 29)).cell? ⟨w.heap.size + 2, 0, none⟩ = some (.slice none 0 0) := by go_simp
  have f2 : (((w.alloc (.cells #[.slice a1 m1 c1] 29)).alloc (.cells #[.slice a2 m2 c2] 29)).alloc (.cells #[.slice none 0 0] 29)).frozen? ⟨w.heap.size + 2, 0, none⟩ = false := by go_simp
  have l2 : w.heap.size + 2 < (((w.alloc (.cells #[.slice a1 m1 c1] 29)).alloc (.cells #[.slice a2 m2 c2] 29)).alloc (.cells #[.slice none 0 0] 29)).heap.size := by simp
  have E2 := Lib.hid e2
  have F2 := Lib.hid f2
  have L2 := Lib.hid l2
  have BA := Lib.hid bA
  clear e2 f2 l2 bA
  go_enter Try.func22, Try.ntmps22
  go_wp2_with fail
  refine (KM.out _ BA.out).mono ?_
  rintro e1 w1 ⟨⟨x, R, rfl, hx, hc, hM⟩, hb1⟩
  obtain ⟨ax, mx, cx, hxs⟩ : ∃ a n c, x = Value.slice a n c := by
    obtain ⟨a, c, h⟩ := pssame.IsRow.shape hx
    exact ⟨a, _, c, h⟩
  have e2 := aid.kc hb1 E2.out
  have f2 := (hb1.frozen (p := ⟨w.heap.size + 2, 0, none⟩) L2.out).trans F2.out
  have B1 := Lib.hid (aid.kb hb1 BA.out)
  clear hb1
  subst hxs
  have HX := Lib.hid hx
  have HC := Lib.hid hc
  have HM := Lib.hid hM
  clear hx hc hM
  go_wp2_with fail
  refine bodyPost_ret (v := .agg #[.slice ax mx cx]) (by simp [results, Try.results22, go_sem, e2]) rfl ⟨⟨_, R, rfl, psmake.isRow_far HX.out e2 _, HC.out, HM.out.strict, HM.out.size, and_of HM.out⟩, ?_⟩
  exact B1.out.setCell (p := ⟨w.heap.size + 2, 0, none⟩) (show w.heap.size ≤ w.heap.size + 2 by omega) _

theorem less_ok (s1 s2 : Value) (d e : Array P2) (w : World) (h1 : IsRow w s1 d) (h2 : IsRow w s2 e) (q1 : CapOk s1 d.size) (q2 : CapOk s2 e.size) (sd : Strict d) (se : Strict e) (n1 : d.size ≤ 4096) (n2 : e.size ≤ 4096) :
    Calls Try.prog 23 #[.agg #[s1], .agg #[s2]] w fun e1 w' => (∃ x R, e1 = .returned (.agg #[x]) ∧ IsRow w' x R ∧ CapOk x R.size ∧ Strict R ∧ R.size ≤ d.size + e.size ∧ (∀ p, p ∈ R.toList ↔ p ∈ d.toList ∧ p ∉ e.toList)) ∧ Below w.heap.size w w' := by
  have KM := Lib.hid (fun W (hb : Below w.heap.size w W) => merge_any 45 (fun _ b => !b) (enters_of Try.func45 (by kernel_rfl) rfl) keepLess s1 s2 d e W (slOf (h1.below hb) q1) (slOf (h2.below hb) q2) sd se n1 n2)
  obtain ⟨a1, m1, c1, rfl⟩ : ∃ a n c, s1 = Value.slice a n c := by
    obtain ⟨a, c, h⟩ := pssame.IsRow.shape h1
    exact ⟨a, _, c, h⟩
  obtain ⟨a2, m2, c2, rfl⟩ : ∃ a n c, s2 = Value.slice a n c := by
    obtain ⟨a, c, h⟩ := pssame.IsRow.shape h2
    exact ⟨a, _, c, h⟩
  clear h1 h2 q1 q2 sd se
  have bA : Below w.heap.size w (((w.alloc (.cells #[.slice a1 m1 c1] 29)).alloc (.cells #[.slice a2 m2 c2] 29)).alloc (.cells #[.slice none 0 0] 29)) := (((Below.refl _ _).alloc (Nat.le_refl _) _).alloc (by simp) _).alloc (by simp; omega) _
  have e2 : (((w.alloc (.cells #[.slice a1 m1 c1] 29)).alloc (.cells #[.slice a2 m2 c2] 29)).alloc (.cells #[.slice none 0 0] 29)).cell? ⟨w.heap.size + 2, 0, none⟩ = some (.slice none 0 0) := by go_simp
  have f2 : (((w.alloc (.cells #[.slice a1 m1 c1] 29)).alloc (.cells #[.slice a2 m2 c2] 29)).alloc (.cells #[.slice none 0 0] 29)).frozen? ⟨w.heap.size + 2, 0, none⟩ = false := by go_simp
  have l2 : w.heap.size + 2 < (((w.alloc (.cells #[.slice a1 m1 c1] 29)).alloc (.cells #[.slice a2 m2 c2] 29)).alloc (.cells #[.slice none 0 0] 29)).heap.size := by simp
  have E2 := Lib.hid e2
  have F2 := Lib.hid f2
  have L2 := Lib.hid l2
  have BA := Lib.hid bA
  clear e2 f2 l2 bA
  go_enter Try.func23, Try.ntmps23
  go_wp2_with fail
  refine (KM.out _ BA.out).mono ?_
  rintro e1 w1 ⟨⟨x, R, rfl, hx, hc, hM⟩, hb1⟩
  obtain ⟨ax, mx, cx, hxs⟩ : ∃ a n c, x = Value.slice a n c := by
    obtain ⟨a, c, h⟩ := pssame.IsRow.shape hx
    exact ⟨a, _, c, h⟩
  have e2 := aid.kc hb1 E2.out
  have f2 := (hb1.frozen (p := ⟨w.heap.size + 2, 0, none⟩) L2.out).trans F2.out
  have B1 := Lib.hid (aid.kb hb1 BA.out)
  clear hb1
  subst hxs
  have HX := Lib.hid hx
  have HC := Lib.hid hc
  have HM := Lib.hid hM
  clear hx hc hM
  go_wp2_with fail
  refine bodyPost_ret (v := .agg #[.slice ax mx cx]) (by simp [results, Try.results23, go_sem, e2]) rfl ⟨⟨_, R, rfl, psmake.isRow_far HX.out e2 _, HC.out, HM.out.strict, HM.out.size, less_of HM.out⟩, ?_⟩
  exact B1.out.setCell (p := ⟨w.heap.size + 2, 0, none⟩) (show w.heap.size ≤ w.heap.size + 2 by omega) _
end Go.Proofs.Ytpnbbaocdbopiaa.psand
