import Derived.Test.YtbfejmehbbieeaaPsFind
/- slices.CompareFunc over prefixes, by ip.Prefix.Cmp. -/
set_option linter.unusedVariables false
set_option linter.unusedSimpArgs false
namespace Go.Proofs.Ytbfejmehbbieeaa.pscompare
open Go.RowKit Go.Shelf Go.Lib Go.Sort Go.Proofs.Ytbfejmehbbieeaa.pscmp Go.Proofs.Ytbfejmehbbieeaa.psfind

/-- prefix by prefix from number k on; where one is over, that is the lesser -/
def cmpRows (d e : Array (Int × Int)) : Nat → Nat → Int
  | 0, _ => 0
  | m + 1, k => if k < d.size then (if e.size ≤ k then 1 else if cf d[k]! e[k]! = 0 then cmpRows d e m (k + 1) else cf d[k]! e[k]!) else if d.size < e.size then -1 else 0
def cmpR (d e : Array (Int × Int)) : Int := cmpRows d e (d.size + 1) 0

set_option maxRecDepth 100000 in
set_option maxHeartbeats 1000000 in
theorem compare_rows (b o cap b2 o2 cap2 : Nat) (d e : Array (Int × Int)) (w : World) (hR : Row w b o d) (hR2 : Row w b2 o2 e) (hn : d.size < 4611686018427387904) (hm : e.size < 4611686018427387904) :
    Calls Try.prog 47 #[.slice (some ⟨b, o, none⟩) d.size cap, .slice (some ⟨b2, o2, none⟩) e.size cap2, .func (.func 26) #[] #[]] w fun e1 w' => e1 = .returned (.int .i64 (cmpR d e)) ∧ Below w.heap.size w w' := by
  have F0 := Lib.hid (show cmpRows d e (d.size + 1 - 0) 0 = cmpR d e from rfl)
  obtain ⟨n, hnn⟩ : ∃ n, n = d.size := ⟨_, rfl⟩
  obtain ⟨m, hmm⟩ : ∃ m, m = e.size := ⟨_, rfl⟩
  rw [← hnn] at hn F0 ⊢
  rw [← hmm] at hm ⊢
  have HN := Lib.hid hnn
  have HE := Lib.hid hmm
  have R0 := Lib.hid hR
  have R2 := Lib.hid hR2
  clear hnn hmm hR hR2
  obtain ⟨C, hC⟩ : ∃ C, C = cmpR d e := ⟨_, rfl⟩
  rw [← hC] at F0 ⊢
  clear hC
  go_enter Try.func47, Try.ntmps47
  go_wp2_with fail
  go_loopw [7, 8, 9, 10, 13] (fun _ _ _ _ jv wr => ∃ k : Nat, k ≤ n ∧ jv = .int .i64 k ∧ Hid (cmpRows d e (n + 1 - k) k = C) ∧ Hid (Row wr b o d) ∧ Hid (Row wr b2 o2 e) ∧ Hid (Below w.heap.size w wr)) (fun _ _ _ _ j _ => n - (intOf j).toNat)
  case atStart => exact ⟨0, by omega, rfl, F0, R0, R2, Below.refl _ _⟩
  case round =>
    obtain ⟨k, hk, rfl, A, R, S, B⟩ := hrel
    have A2 := A.out
    rw [show n + 1 - k = (n - k) + 1 by omega] at A2
    unfold cmpRows at A2
    rw [← HN.out, ← HE.out] at A2
    by_cases hlt : k < n
    · rw [if_pos hlt] at A2
      have hd : k < d.size := by rw [← HN.out]; exact hlt
      have k0 := (R.out k hd).1
      have k1 := (R.out k hd).2
      by_cases hge : m ≤ k
      · rw [if_pos hge] at A2
        have G := Lib.hid A2
        have hge' : (k : Int) ≥ (m : Int) := by omega
        clear A2
        have BA := Lib.hid (fun o' => B.out.trans ((Below.refl wr.heap.size wr).alloc (Nat.le_refl _) o' |>.mono B.out.size))
        go_wp2_with fail
        go_ret
        exact ⟨by rw [← G.out]; rfl, BA.out _⟩
      · rw [if_neg hge] at A2
        have he : k < e.size := by rw [← HE.out]; omega
        have k2 := fun o' : Obj => aid.ca o' (S.out k he).1
        have k3 := fun o' : Obj => aid.ca o' (S.out k he).2
        obtain ⟨⟨x1, x2⟩, hx⟩ : ∃ x, x = d[k]! := ⟨_, rfl⟩
        obtain ⟨⟨y1, y2⟩, hy⟩ : ∃ y, y = e[k]! := ⟨_, rfl⟩
        rw [← hx] at k0 k1 A2
        rw [← hy] at k2 k3 A2
        have KC := fun W => cmp_below (x1, x2) (y1, y2) W
        obtain ⟨c, hc⟩ : ∃ c, c = cf (x1, x2) (y1, y2) := ⟨_, rfl⟩
        rw [← hc] at KC A2
        dsimp only at k0 k1 k2 k3 KC
        have K := Lib.hid KC
        clear hx hy hc KC
        have bb : ∀ o1 o2 : Obj, Below wr.heap.size wr ((wr.alloc o1).alloc o2) := fun o1 o2 => ((Below.refl wr.heap.size wr).alloc (Nat.le_refl _) o1).alloc (by simp) o2
        have BB := Lib.hid bb
        have k4 := (bb (.cells #[.int .u32 x1, .int .i64 x2] 26) (.cells #[.int .u32 0, .int .i64 0] 26))
        clear k4 bb
        by_cases hz : c = 0
        · rw [if_pos hz] at A2
          have G := Lib.hid A2
          have hzb : (c != 0) = false := by simpa using hz
          clear A2 hz
          go_wp2_with fail
          refine (K.out _).mono ?_
          rintro e1 w1 ⟨rfl, hb1⟩
          have b1 := aid.kb hb1 (BB.out _ _)
          have R1 := Lib.hid (R.out.below b1)
          have S1 := Lib.hid (S.out.below b1)
          have B1 := Lib.hid (aid.kb b1 B.out)
          clear hb1 b1
          go_wp2_with fail
          go_roundw
          case rel => exact ⟨k + 1, by omega, by go_num, by rw [show n + 1 - (k + 1) = n - k by omega]; exact G.out, R1.out, S1.out, B1.out⟩
          case measure => simp [intOf]; omega
        · rw [if_neg hz] at A2
          have G := Lib.hid A2
          have hzb : (c != 0) = true := by simpa using hz
          clear A2 hz
          go_wp2_with fail
          refine (K.out _).mono ?_
          rintro e1 w1 ⟨rfl, hb1⟩
          have B1 := Lib.hid (aid.kb (aid.kb hb1 (BB.out _ _)) B.out)
          clear hb1
          go_wp2_with fail
          go_ret
          exact ⟨by rw [← G.out]; rfl, B1.out⟩
    · rw [if_neg hlt] at A2
      have hk' : k = n := by omega
      subst hk'
      by_cases hs : k < m
      · rw [if_pos hs] at A2
        have G := Lib.hid A2
        clear A2
        go_wp2_with fail
        go_ret
        exact ⟨by rw [← G.out]; rfl, B.out⟩
      · rw [if_neg hs] at A2
        have G := Lib.hid A2
        clear A2
        go_wp2_with fail
        go_ret
        exact ⟨by rw [← G.out]; rfl, B.out⟩
end Go.Proofs.Ytbfejmehbbieeaa.pscompare
