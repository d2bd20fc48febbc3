import Derived.Test.YtpnbbaocdbopiaaPsMerge2
import Derived.Test.YtpnbbaocdbopiaaPsFull1
import Derived.Test.YtpnbbaocdbopiaaPsOf3
/- Package pset: Or. -/
set_option linter.unusedVariables false
set_option linter.unusedSimpArgs false
namespace Go.Proofs.Ytpnbbaocdbopiaa.psor
open Go.RowKit Go.Shelf Go.Lib Go.Sort Go.Proofs.Ytpnbbaocdbopiaa.math1 Go.Proofs.Ytpnbbaocdbopiaa.pscmp Go.Proofs.Ytpnbbaocdbopiaa.psfind Go.Proofs.Ytpnbbaocdbopiaa.pssort Go.Proofs.Ytpnbbaocdbopiaa.psuniq Go.Proofs.Ytpnbbaocdbopiaa.pscompact Go.Proofs.Ytpnbbaocdbopiaa.psof Go.Proofs.Ytpnbbaocdbopiaa.psask Go.Proofs.Ytpnbbaocdbopiaa.psmerge Go.Proofs.Ytpnbbaocdbopiaa.psfull

theorem keepOr (a b : Bool) (W : World) : Calls Try.prog 43 #[.bool a, .bool b] W fun e w' => e = .returned (.bool true) ∧ W = w' := by
  go_enter Try.func43, Try.ntmps43
  go_wp2_with fail
  go_ret
  exact ⟨rfl, rfl⟩
/-- either of two sets -/
def orD (d e : Array P2) : Array P2 := mk (d ++ e)
theorem or_mem {d e : Array P2} {x : P2} : x ∈ (orD d e).toList ↔ x ∈ d.toList ∨ x ∈ e.toList := by
  rw [orD, mk_mem, Array.toList_append, List.mem_append]
theorem or_of {d e R : Array P2} (h : Mg (fun _ _ => true) d e d.size e.size R) : R = orD d e := by
  refine strict_ext h.strict (mk_strict _) (fun x => ?_)
  rw [or_mem, h.mem]
  unfold Fst
  rw [mem_get, mem_get]
  simp
theorem slOf {w : World} {s : Value} {d : Array P2} (h : IsRow w s d) (hc : CapOk s d.size) : Sl w s d 0 := sl_of h hc

theorem or_ok (s1 s2 : Value) (d e : Array P2) (w : World) (h1 : IsRow w s1 d) (h2 : IsRow w s2 e) (q1 : CapOk s1 d.size) (q2 : CapOk s2 e.size) (sd : Strict d) (se : Strict e) (n1 : d.size ≤ 4096) (n2 : e.size ≤ 4096) (hbig0 : (orD d e).size ≤ 4096) :
    Calls Try.prog 21 #[.agg #[s1], .agg #[s2]] w fun e1 w' => (∃ x, e1 = .returned (.tuple #[.agg #[x], .int .i64 0]) ∧ IsRow w' x (orD d e)) ∧ Below w.heap.size w w' := by
  have KM := Lib.hid (fun W (hb : Below w.heap.size w W) => merge_any 43 (fun _ _ => true) (enters_of Try.func43 (by kernel_rfl) rfl) keepOr s1 s2 d e W (slOf (h1.below hb) q1) (slOf (h2.below hb) q2) sd se n1 n2)
  obtain ⟨a1, m1, c1, rfl⟩ : ∃ a n c, s1 = Value.slice a n c := by
    obtain ⟨a, c, h⟩ := pssame.IsRow.shape h1
    exact ⟨a, _, c, h⟩
  obtain ⟨a2, m2, c2, rfl⟩ : ∃ a n c, s2 = Value.slice a n c := by
    obtain ⟨a, c, h⟩ := pssame.IsRow.shape h2
    exact ⟨a, _, c, h⟩
  obtain ⟨U, hU⟩ : ∃ U, U = orD d e := ⟨_, rfl⟩
  have HU := Lib.hid hU
  rw [← hU] at hbig0 ⊢
  have HBIG := Lib.hid hbig0
  clear h1 h2 q1 q2 sd se hU hbig0
  have bA : Below w.heap.size w (((w.alloc (.cells #[.slice a1 m1 c1] 29)).alloc (.cells #[.slice a2 m2 c2] 29)).alloc (.cells #[.slice none 0 0] 29)) := (((Below.refl _ _).alloc (Nat.le_refl _) _).alloc (by simp) _).alloc (by simp; omega) _
  have e2 : (((w.alloc (.cells #[.slice a1 m1 c1] 29)).alloc (.cells #[.slice a2 m2 c2] 29)).alloc (.cells #[.slice none 0 0] 29)).cell? ⟨w.heap.size + 2, 0, none⟩ = some (.slice none 0 0) := by go_simp
  have f2 : (((w.alloc (.cells #[.slice a1 m1 c1] 29)).alloc (.cells #[.slice a2 m2 c2] 29)).alloc (.cells #[.slice none 0 0] 29)).frozen? ⟨w.heap.size + 2, 0, none⟩ = false := by go_simp
  have l2 : w.heap.size + 2 < (((w.alloc (.cells #[.slice a1 m1 c1] 29)).alloc (.cells #[.slice a2 m2 c2] 29)).alloc (.cells #[.slice none 0 0] 29)).heap.size := by simp
  have E2 := Lib.hid e2
  have F2 := Lib.hid f2
  have L2 := Lib.hid l2
  have BA := Lib.hid bA
  clear e2 f2 l2 bA
  go_enter Try.func21, Try.ntmps21
  go_wp2_with fail
  refine (KM.out _ BA.out).mono ?_
  rintro e1 w1 ⟨⟨x, R, rfl, hx, _, hM⟩, hb1⟩
  have hRU : R = U := by rw [HU.out]; exact or_of hM
  rw [hRU] at hx
  obtain ⟨ax, mx, cx, hxs⟩ : ∃ a n c, x = Value.slice a n c := by
    obtain ⟨a, c, h⟩ := pssame.IsRow.shape hx
    exact ⟨a, _, c, h⟩
  have hsh : (x = .slice none 0 0 ∧ U.size = 0) ∨ ∃ a cap, x = .slice (some a) U.size cap := by
    rcases hx with ⟨h, h0⟩ | ⟨b, o, cap, h, _⟩
    · exact .inl ⟨h, by rw [h0]; rfl⟩
    · exact .inr ⟨_, _, h⟩
  have hUs : U.size ≤ 8192 := by
    have := hM.size
    rw [hRU] at this
    omega
  have e2 := aid.kc hb1 E2.out
  have f2 := (hb1.frozen (p := ⟨w.heap.size + 2, 0, none⟩) L2.out).trans F2.out
  have B1 := Lib.hid (aid.kb hb1 BA.out)
  clear hb1 hM hRU
  have hbig := HBIG.out
  have KB := Lib.hid (fun W => bounded_ok x W U.size hsh hbig)
  subst hxs
  clear hsh hbig
  have HX := Lib.hid hx
  clear hx
  go_wp2_with fail
  refine (KB.out _).mono ?_
  rintro e3 w2 ⟨rfl, hb2⟩
  have e4 := aid.kc hb2 e2
  have hl := aid.lt_of_cell e2
  dsimp only at hl
  have f4 := (hb2.frozen (p := ⟨w.heap.size + 2, 0, none⟩) hl).trans f2
  have B2 := Lib.hid (aid.kb hb2 B1.out)
  have HX2 := Lib.hid (HX.out.below hb2)
  have hl2 : w.heap.size + 2 < w2.heap.size := Nat.lt_of_lt_of_le hl hb2.size
  clear hb2 e2 f2
  go_wp2_with fail
  refine bodyPost_ret (v := .tuple #[.agg #[.slice ax mx cx], .int .i64 0]) (by simp [results, Try.results21, go_sem, e4]) rfl ⟨⟨_, rfl, psmake.isRow_far HX2.out e4 _⟩, ?_⟩
  exact B2.out.setCell (p := ⟨w.heap.size + 2, 0, none⟩) (show w.heap.size ≤ w.heap.size + 2 by omega) _
theorem or_many (s1 s2 : Value) (d e : Array P2) (w : World) (h1 : IsRow w s1 d) (h2 : IsRow w s2 e) (q1 : CapOk s1 d.size) (q2 : CapOk s2 e.size) (sd : Strict d) (se : Strict e) (n1 : d.size ≤ 4096) (n2 : e.size ≤ 4096) (hbig0 : ¬ (orD d e).size ≤ 4096) :
    Calls Try.prog 21 #[.agg #[s1], .agg #[s2]] w fun e1 w' => e1 = .returned (.tuple #[.agg #[.slice none 0 0], .int .i64 3]) ∧ Below w.heap.size w w' := by
  have KM := Lib.hid (fun W (hb : Below w.heap.size w W) => merge_any 43 (fun _ _ => true) (enters_of Try.func43 (by kernel_rfl) rfl) keepOr s1 s2 d e W (slOf (h1.below hb) q1) (slOf (h2.below hb) q2) sd se n1 n2)
  obtain ⟨a1, m1, c1, rfl⟩ : ∃ a n c, s1 = Value.slice a n c := by
    obtain ⟨a, c, h⟩ := pssame.IsRow.shape h1
    exact ⟨a, _, c, h⟩
  obtain ⟨a2, m2, c2, rfl⟩ : ∃ a n c, s2 = Value.slice a n c := by
    obtain ⟨a, c, h⟩ := pssame.IsRow.shape h2
    exact ⟨a, _, c, h⟩
  obtain ⟨U, hU⟩ : ∃ U, U = orD d e := ⟨_, rfl⟩
  have HU := Lib.hid hU
  rw [← hU] at hbig0
  have HBIG := Lib.hid hbig0
  clear h1 h2 q1 q2 sd se hU hbig0
  have bA : Below w.heap.size w (((w.alloc (.cells #[.slice a1 m1 c1] 29)).alloc (.cells #[.slice a2 m2 c2] 29)).alloc (.cells #[.slice none 0 0] 29)) := (((Below.refl _ _).alloc (Nat.le_refl _) _).alloc (by simp) _).alloc (by simp; omega) _
  have e2 : (((w.alloc (.cells #[.slice a1 m1 c1] 29)).alloc (.cells #[.slice a2 m2 c2] 29)).alloc (.cells #[.slice none 0 0] 29)).cell? ⟨w.heap.size + 2, 0, none⟩ = some (.slice none 0 0) := by go_simp
  have f2 : (((w.alloc (.cells #[.slice a1 m1 c1] 29)).alloc (.cells #[.slice a2 m2 c2] 29)).alloc (.cells #[.slice none 0 0] 29)).frozen? ⟨w.heap.size + 2, 0, none⟩ = false := by go_simp
  have l2 : w.heap.size + 2 < (((w.alloc (.cells #[.slice a1 m1 c1] 29)).alloc (.cells #[.slice a2 m2 c2] 29)).alloc (.cells #[.slice none 0 0] 29)).heap.size := by simp
  have E2 := Lib.hid e2
  have F2 := Lib.hid f2
  have L2 := Lib.hid l2
  have BA := Lib.hid bA
  clear e2 f2 l2 bA
  go_enter Try.func21, Try.ntmps21
  go_wp2_with fail
  refine (KM.out _ BA.out).mono ?_
  rintro e1 w1 ⟨⟨x, R, rfl, hx, _, hM⟩, hb1⟩
  have hRU : R = U := by rw [HU.out]; exact or_of hM
  rw [hRU] at hx
  obtain ⟨ax, mx, cx, hxs⟩ : ∃ a n c, x = Value.slice a n c := by
    obtain ⟨a, c, h⟩ := pssame.IsRow.shape hx
    exact ⟨a, _, c, h⟩
  have hsh : (x = .slice none 0 0 ∧ U.size = 0) ∨ ∃ a cap, x = .slice (some a) U.size cap := by
    rcases hx with ⟨h, h0⟩ | ⟨b, o, cap, h, _⟩
    · exact .inl ⟨h, by rw [h0]; rfl⟩
    · exact .inr ⟨_, _, h⟩
  have hUs : U.size ≤ 8192 := by
    have := hM.size
    rw [hRU] at this
    omega
  have e2 := aid.kc hb1 E2.out
  have f2 := (hb1.frozen (p := ⟨w.heap.size + 2, 0, none⟩) L2.out).trans F2.out
  have B1 := Lib.hid (aid.kb hb1 BA.out)
  clear hb1 hM hRU
  have hbig := HBIG.out
  have KB := Lib.hid (fun W => bounded_many x W U.size hsh (by omega) (by omega))
  subst hxs
  clear hsh hbig hx
  go_wp2_with fail
  refine (KB.out _).mono ?_
  rintro e3 w2 ⟨rfl, hb2⟩
  have e4 := aid.kc hb2 e2
  have hl := aid.lt_of_cell e2
  dsimp only at hl
  have f4 := (hb2.frozen (p := ⟨w.heap.size + 2, 0, none⟩) hl).trans f2
  have B2 := Lib.hid (aid.kb hb2 B1.out)
  have hl2 : w.heap.size + 2 < w2.heap.size := Nat.lt_of_lt_of_le hl hb2.size
  clear hb2 e2 f2
  go_wp2_with fail
  refine bodyPost_ret (v := .tuple #[.agg #[.slice none 0 0], .int .i64 3]) (by simp [results, Try.results21, go_sem, e4]) rfl ⟨rfl, ?_⟩
  exact B2.out.setCell (p := ⟨w.heap.size + 2, 0, none⟩) (show w.heap.size ≤ w.heap.size + 2 by omega) _
end Go.Proofs.Ytpnbbaocdbopiaa.psor
