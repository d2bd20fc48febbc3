import Derived.Test.YtfealajbibofiaaTrIp
import Derived.Deep.LoopGhost
/- Package trie: under, find. -/
set_option linter.unusedVariables false
set_option linter.unusedSimpArgs false
namespace Go.Proofs.Ytfealajbibofiaa.trunder
open Go.RowKit Go.Lib Go.Proofs.Ytfealajbibofiaa.math1 Go.Proofs.Ytfealajbibofiaa.trmath Go.Proofs.Ytfealajbibofiaa.trmem

theorem path_zero (a : Int) (n : Nat) : path a 0 = [] := rfl
theorem path_add (a : Int) (k : Nat) : ∀ j, ∃ σ, path a (k + j) = path a k ++ σ
  | 0 => ⟨[], by simp⟩
  | j + 1 => by
    obtain ⟨σ, h⟩ := path_add a k j
    exact ⟨σ ++ [turn a (k + j)], by rw [← Nat.add_assoc, path, h, List.append_assoc]⟩
theorem ptr_nil {T : Tr} (h : T = .nil) : T.ptr = .pointer none := by rw [h]; rfl

/-- under at a nil trie, or at what is no prefix: none -/
theorem under_nil (a n : Int) (w : World) : Calls Try.prog 45 #[.pointer none, .agg #[.int .u32 a, .int .i64 n]] w fun e w' => e = .returned (.pointer none) ∧ Below w.heap.size w w' := by
  have BA := Lib.hid ((Below.refl w.heap.size w).alloc (Nat.le_refl _) (.cells #[.int .u32 a, .int .i64 n] 30))
  go_enter Try.func45, Try.ntmps45
  go_wp2_with fail
  go_ret
  exact ⟨rfl, BA.out⟩
theorem under_bad (t : Nat) (a n : Int) (w : World) (h0 : 0 ≤ a) (h1 : a < 4294967296) (hr : rightB a n = false) : Calls Try.prog 45 #[.pointer (some ⟨t, 0, none⟩), .agg #[.int .u32 a, .int .i64 n]] w fun e w' => e = .returned (.pointer none) ∧ Below w.heap.size w w' := by
  have K := Lib.hid (fun W => ip1.check_any a n W h0 h1)
  rw [hr] at K
  simp only [Bool.false_eq_true, if_false] at K
  have BA := Lib.hid ((Below.refl w.heap.size w).alloc (Nat.le_refl _) (.cells #[.int .u32 a, .int .i64 n] 30))
  clear hr h0 h1
  go_enter Try.func45, Try.ntmps45
  go_wp2_with fail
  refine (K.out _).mono ?_
  rintro e w1 ⟨rfl, hb⟩
  have B := Lib.hid (aid.kb hb BA.out)
  clear hb
  go_wp2_with fail
  go_ret
  exact ⟨rfl, B.out⟩

set_option maxRecDepth 100000 in
set_option maxHeartbeats 1000000 in
theorem under_any (t : Nat) (T : Tr) (m c : Int) (a : Int) (n : Nat) (w : World) (hT : Tri w t T m c) (h0 : 0 ≤ a) (h1 : a < 4294967296) (hn : n ≤ 32) (hr : rightB a n = true) :
    Calls Try.prog 45 #[.pointer (some ⟨t, 0, none⟩), .agg #[.int .u32 a, .int .i64 n]] w fun e w' => e = .returned (T.sub (path a n)).ptr ∧ Below w.heap.size w w' := by
  have K := Lib.hid (fun W => ip1.check_any a n W h0 h1)
  rw [hr] at K
  simp only [if_true] at K
  have ba := (Below.refl w.heap.size w).alloc (Nat.le_refl _) (.cells #[.int .u32 a, .int .i64 n] 30)
  have TA := Lib.hid (hT.below ba)
  have p0 := Lib.hid (aid.new2a w (.int .u32 a) (.int .i64 n) 30)
  have p1 := Lib.hid (aid.new2b w (.int .u32 a) (.int .i64 n) 30)
  have BA := Lib.hid ba
  have HA := Lib.hid (And.intro h0 h1)
  obtain ⟨res, hres⟩ : ∃ res, res = (T.sub (path a n)).ptr := ⟨_, rfl⟩
  rw [← hres]
  have HRES := Lib.hid hres
  clear hr h0 h1 hT ba hres
  go_enter Try.func45, Try.ntmps45
  go_wp2_with fail
  refine (K.out _).mono ?_
  rintro e w1 ⟨rfl, hb⟩
  have T1 := Lib.hid (TA.out.below hb)
  have q0 := Lib.hid (aid.kc hb p0.out)
  have q1 := Lib.hid (aid.kc hb p1.out)
  have B1 := Lib.hid (aid.kb hb BA.out)
  have c0 := T1.out.c0
  obtain ⟨r0, hr0⟩ : ∃ r0, r0 = T.ptr := ⟨_, rfl⟩
  rw [← hr0] at c0
  have HR0 := Lib.hid hr0
  clear hb p0 p1 BA TA hr0 K
  go_wp2_with fail
  go_loopw [5, 6] (fun nv iv wr => ∃ k : Nat, k ≤ n ∧ iv = .int .i64 k ∧ Hid (nv = (T.sub (path a k)).ptr) ∧ Hid (Below w1.heap.size w1 wr)) (fun _ iv _ => n - (intOf iv).toNat)
  case atStart => exact ⟨0, by omega, rfl, Lib.hid HR0.out, Below.refl _ _⟩
  case round =>
    obtain ⟨k, hk, rfl, hp, Bl⟩ := hrel
    have q2 := aid.kc Bl.out q0.out
    have q3 := aid.kc Bl.out q1.out
    by_cases hlt : k < n
    · have hi : (k : Int) < (n : Int) := by omega
      cases hs : T.sub (path a k) with
      | nil =>
        have e5 : u5 = .pointer none := by rw [hp.out, hs]; rfl
        have er : res = .pointer none := by
          rw [HRES.out]
          have : T.sub (path a n) = .nil := by
            obtain ⟨j, rfl⟩ : ∃ j, n = k + j := ⟨n - k, by omega⟩
            obtain ⟨σ, hσ⟩ := path_add a k j
            rw [hσ, Tr.sub_append, hs, Tr.sub_nil]
          rw [this]; rfl
        subst e5
        have B2 := Lib.hid (aid.kb Bl.out B1.out)
        clear hs hp HRES HR0
        subst er
        go_wp2_with fail
        go_ret
        exact ⟨rfl, B2.out⟩
      | node b l r v hh =>
        have hin := in_sub (T1.out.below Bl.out).tin (path a k)
        rw [hs] at hin
        obtain ⟨c0, c1, -⟩ := hin
        have e5 : u5 = .pointer (some ⟨b, 0, none⟩) := by rw [hp.out, hs]; rfl
        subst e5
        have k0 := fun s : aid.Keep wr => aid.keep_cell c0 s
        have k1 := fun s : aid.Keep wr => aid.keep_cell c1 s
        have k2 := fun s : aid.Keep wr => aid.keep_cell q2 s
        have hnx : (T.sub (path a (k + 1))).ptr = (if turn a k then r else l).ptr := by
          rw [path, Tr.sub_snoc, hs]; rfl
        have KB := Lib.hid (fun W => ip1.bit_turn a k W HA.out.1 HA.out.2)
        have B2 := Lib.hid (aid.kb Bl.out B1.out)
        clear hs hp
        cases htn : turn a k
        · rw [htn] at KB hnx
          simp only [Bool.false_eq_true, if_false] at KB hnx
          have HX := Lib.hid hnx
          clear htn hnx
          go_wp2_with fail
          refine aid.wp_region_keep (by kernel_rfl) (by kernel_rfl) ?_
          repeat (go_big_quiet_step ((go_at_call 42; (with_reducible exact aid.keep_same (KB.out _)))))
          refine wpQuiet_nil ?_
          rintro _ ⟨s, rfl⟩
          go_wp2_with fail
          go_roundw
          case rel => exact ⟨k + 1, by omega, by go_num, Lib.hid HX.out.symm, Lib.hid (aid.kbk Bl.out s)⟩
          case measure => simp [intOf]; omega
        · rw [htn] at KB hnx
          simp only [if_true] at KB hnx
          have HX := Lib.hid hnx
          clear htn hnx
          go_wp2_with fail
          refine aid.wp_region_keep (by kernel_rfl) (by kernel_rfl) ?_
          repeat (go_big_quiet_step ((go_at_call 42; (with_reducible exact aid.keep_same (KB.out _)))))
          refine wpQuiet_nil ?_
          rintro _ ⟨s, rfl⟩
          go_wp2_with fail
          go_roundw
          case rel => exact ⟨k + 1, by omega, by go_num, Lib.hid HX.out.symm, Lib.hid (aid.kbk Bl.out s)⟩
          case measure => simp [intOf]; omega
    · have hk' : k = n := by omega
      subst hk'
      have e5 : u5 = res := by rw [hp.out, HRES.out]
      subst e5
      have B2 := Lib.hid (aid.kb Bl.out B1.out)
      clear hp HRES HR0
      go_wp2_with fail
      go_ret
      exact ⟨rfl, B2.out⟩
end Go.Proofs.Ytfealajbibofiaa.trunder
