import Derived.Test.YthcbhehdilaejaaCkMath
import Derived.Test.YthcbhehdilaejaaAid
import Derived.Test.YthcbhehdilaejaaTail
import Derived.Laws.OwnMore
import Derived.Deep.AppendLies
import Derived.Deep.LoopGhost
import Derived.RegionTactic
import Derived.WalkLawsBesides
import Derived.Handy
/- A heap's entries in memory; how its methods are met; cmp. -/
set_option linter.unusedVariables false
set_option linter.unusedSimpArgs false
namespace Go.Proofs.Ythcbhehdilaejaa.ck
open Go.RowKit Go.Lib Go.Proofs.Ythcbhehdilaejaa.ckmath

theorem mfind : (Try.prog.info? 50).map (fun i => (i.methods.find? (fun m => m.name == "Less")).map (fun m => (m.path.toList, m.path.isEmpty, m.func))) = some (some ([], true, some (41, false))) := by kernel_rfl
theorem und50 : Try.prog.underlying 50 = some (.pointer 43) := by kernel_rfl
theorem und43 : Try.prog.underlying 43 = some (.slice 48) := by kernel_rfl

theorem wrapNil (t : TypeId) (a : Addr) (nm : String) : Builtin.ssaWrapNilChk_ #[t] t #[.pointer (some a), strVal "", strVal nm] = (pure (.pointer (some a)) : Sem Value) := rfl
theorem meets1 (name : String) (W : World) (c : Nat) (v : Value) (hc : W.cell? ⟨c, 1, none⟩ = some v) :
    Sem.run Try.prog (receiverAt 50 (.val (.pointer (some ⟨c, 1, none⟩))) false (some name)) W = .ok v W := by
  unfold receiverAt
  simp only [Sem.run_bind, run_underlying und50, Result.andThen_ok, Place.get, Sem.run_pure, wrapNil, asAddr, loadVar, isAgg, run_underlying und43]
  simp only [Bool.false_eq_true, if_false, load, Sem.run_bind, Sem.run_pure, Result.andThen_ok]
  show Sem.run Try.prog (load ⟨c, 1, none⟩) W = .ok v W
  rw [run_load, hc]
theorem meets {name : String} {f : Nat} (h : (Try.prog.info? 50).map (fun i => (i.methods.find? (fun m => m.name == name)).map (fun m => (m.path.toList, m.path.isEmpty, m.func))) = some (some ([], true, some (f, false)))) (W : World) (c : Nat) (v : Value) (hc : W.cell? ⟨c, 1, none⟩ = some v) :
    Sem.run Try.prog (method (Try.prog.types.size + 100) 50 (.pointer (some ⟨c, 1, none⟩)) name) W = .ok (f, v) W := by
  obtain ⟨i, hi⟩ : ∃ i, Try.prog.info? 50 = some i := by
    cases e : Try.prog.info? 50 with
    | none => rw [e] at h; cases h
    | some i => exact ⟨i, rfl⟩
  rw [hi, Option.map_some] at h
  obtain ⟨m, hm⟩ : ∃ m, i.methods.find? (fun m => m.name == name) = some m := by
    cases e : i.methods.find? (fun m => m.name == name) with
    | none => rw [e] at h; cases h
    | some m => exact ⟨m, rfl⟩
  rw [hm, Option.map_some] at h
  simp only [Option.some.injEq, Prod.mk.injEq] at h
  obtain ⟨h1, h2, h3⟩ := h
  have u := meets1 ((name.splitOn ".").getLastD name) W c v hc
  obtain ⟨fu, hfu⟩ : ∃ fu, Try.prog.types.size + 100 = fu + 1 := ⟨Try.prog.types.size + 99, rfl⟩
  rw [hfu, method]
  simp only [typeInfo, Sem.run_bind, run_program, Result.andThen_ok, hi, Sem.run_pure, hm, h1, follow, h3, h2, if_true, u]

theorem mFact {name : String} (f : Nat) (h : (Try.prog.info? 50).map (fun i => (i.methods.find? (fun m => m.name == name)).map (fun m => (m.path.toList, m.path.isEmpty, m.func))) = some (some ([], true, some (f, true)))) (W : World) (c : Nat) :
    Sem.run Try.prog (method (Try.prog.types.size + 100) 50 (.pointer (some ⟨c, 1, none⟩)) name) W = .ok (f, .pointer (some ⟨c, 1, none⟩)) W := by
  obtain ⟨i, hi⟩ : ∃ i, Try.prog.info? 50 = some i := by
    cases e : Try.prog.info? 50 with
    | none => rw [e] at h; cases h
    | some i => exact ⟨i, rfl⟩
  rw [hi, Option.map_some] at h
  obtain ⟨m, hm⟩ : ∃ m, i.methods.find? (fun m => m.name == name) = some m := by
    cases e : i.methods.find? (fun m => m.name == name) with
    | none => rw [e] at h; cases h
    | some m => exact ⟨m, rfl⟩
  rw [hm, Option.map_some] at h
  simp only [Option.some.injEq, Prod.mk.injEq] at h
  obtain ⟨h1, h2, h3⟩ := h
  have u : ∀ o, Sem.run Try.prog (receiverAt 50 (.val (.pointer (some ⟨c, 1, none⟩))) true o) W = .ok (.pointer (some ⟨c, 1, none⟩)) W := fun o => by
    unfold receiverAt
    simp only [Sem.run_bind, run_underlying und50, Result.andThen_ok, Place.get, Sem.run_pure]
  obtain ⟨fu, hfu⟩ : ∃ fu, Try.prog.types.size + 100 = fu + 1 := ⟨Try.prog.types.size + 99, rfl⟩
  rw [hfu, method]
  simp only [typeInfo, Sem.run_bind, run_program, Result.andThen_ok, hi, Sem.run_pure, hm, h1, follow, h3, h2, if_true, u]

/-- (the number of the types and 100: the walk reckons it; at another seat another number) -/
theorem depth : Try.prog.types.size + 100 = 181 := by kernel_rfl
/-- THE METHODS, at the clock's entries -/
theorem mLess (W : World) (c : Nat) (v : Value) (hc : W.cell? ⟨c, 1, none⟩ = some v) : Sem.run Try.prog (method 181 50 (.pointer (some ⟨c, 1, none⟩)) "Less") W = .ok (41, v) W := by
  rw [← depth]; exact meets (by kernel_rfl) W c v hc
theorem mSwap (W : World) (c : Nat) (v : Value) (hc : W.cell? ⟨c, 1, none⟩ = some v) : Sem.run Try.prog (method 181 50 (.pointer (some ⟨c, 1, none⟩)) "Swap") W = .ok (42, v) W := by
  rw [← depth]; exact meets (by kernel_rfl) W c v hc
theorem mLen (W : World) (c : Nat) (v : Value) (hc : W.cell? ⟨c, 1, none⟩ = some v) : Sem.run Try.prog (method 181 50 (.pointer (some ⟨c, 1, none⟩)) "Len") W = .ok (40, v) W := by
  rw [← depth]; exact meets (by kernel_rfl) W c v hc
theorem mPush (W : World) (c : Nat) : Sem.run Try.prog (method 181 50 (.pointer (some ⟨c, 1, none⟩)) "Push") W = .ok (47, .pointer (some ⟨c, 1, none⟩)) W := by
  rw [← depth]; exact mFact _ (by kernel_rfl) W c
theorem mPop (W : World) (c : Nat) : Sem.run Try.prog (method 181 50 (.pointer (some ⟨c, 1, none⟩)) "Pop") W = .ok (46, .pointer (some ⟨c, 1, none⟩)) W := by
  rw [← depth]; exact mFact _ (by kernel_rfl) W c

def cmpI (a b : Int) : Int := if a < b then -1 else if b < a then 1 else 0
set_option maxRecDepth 100000 in
theorem isnan_any (a : Int) (w : World) : Calls Try.prog 45 #[.int .i64 a] w fun e w' => e = .returned (.bool false) ∧ w = w' := by
  have h : (a == a) = true := by simp
  go_enter Try.func45, Try.ntmps45
  go_wp2_with fail
  go_ret
  exact ⟨rfl, rfl⟩
set_option maxRecDepth 100000 in
theorem cmp_any (a b : Int) (w : World) : Calls Try.prog 44 #[.int .i64 a, .int .i64 b] w fun e w' => e = .returned (.int .i64 (cmpI a b)) ∧ w = w' := by
  have K1 := Lib.hid (isnan_any a w)
  have K2 := Lib.hid (isnan_any b w)
  unfold cmpI
  by_cases h1 : a < b
  · rw [if_pos h1]
    go_enter Try.func44, Try.ntmps44
    go_wp2_with fail
    refine K1.out.mono ?_
    rintro e v1 ⟨rfl, rfl⟩
    go_wp2_with fail
    refine K2.out.mono ?_
    rintro e v1 ⟨rfl, rfl⟩
    go_wp2_with fail
    go_ret
    exact ⟨rfl, rfl⟩
  · by_cases h2 : b < a
    · rw [if_neg h1, if_pos h2]
      go_enter Try.func44, Try.ntmps44
      go_wp2_with fail
      refine K1.out.mono ?_
      rintro e v1 ⟨rfl, rfl⟩
      go_wp2_with fail
      refine K2.out.mono ?_
      rintro e v1 ⟨rfl, rfl⟩
      go_wp2_with fail
      go_ret
      exact ⟨rfl, rfl⟩
    · rw [if_neg h1, if_neg h2]
      go_enter Try.func44, Try.ntmps44
      go_wp2_with fail
      refine K1.out.mono ?_
      rintro e v1 ⟨rfl, rfl⟩
      go_wp2_with fail
      refine K2.out.mono ?_
      rintro e v1 ⟨rfl, rfl⟩
      go_wp2_with fail
      go_ret
      exact ⟨rfl, rfl⟩
set_option maxRecDepth 100000 in
theorem or_any (b : Nat) (x y : Int) (w : World) (h0 : w.cell? ⟨b, 0, none⟩ = some (.int .i64 x)) (h1 : w.cell? ⟨b, 1, none⟩ = some (.int .i64 y)) : Calls Try.prog 43 #[.slice (some ⟨b, 0, none⟩) 2 2] w fun e w' => e = .returned (.int .i64 (if x = 0 then y else x)) ∧ w = w' := by
  by_cases hx : x = 0
  · subst hx
    rw [if_pos rfl]
    by_cases hy : y = 0
    · subst hy
      go_enter Try.func43, Try.ntmps43
      go_wp2_with fail
      go_rounds 3
      go_ret
      exact ⟨rfl, rfl⟩
    · have hy' : (y == 0) = false := by simpa using hy
      go_enter Try.func43, Try.ntmps43
      go_wp2_with fail
      go_rounds 2
      go_ret
      exact ⟨rfl, rfl⟩
  · have hx' : (x == 0) = false := by simpa using hx
    rw [if_neg hx]
    go_enter Try.func43, Try.ntmps43
    go_wp2_with fail
    go_rounds 1
    go_ret
    exact ⟨rfl, rfl⟩
end Go.Proofs.Ythcbhehdilaejaa.ck
