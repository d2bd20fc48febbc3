import Derived.Test.YtfealajbibofiaaTrPut
/- Package trie: Put. -/
set_option linter.unusedVariables false
set_option linter.unusedSimpArgs false
namespace Go.Proofs.Ytfealajbibofiaa.trput
open Go.RowKit Go.Lib Go.Proofs.Ytfealajbibofiaa.math1 Go.Proofs.Ytfealajbibofiaa.trmath Go.Proofs.Ytfealajbibofiaa.trmem Go.Proofs.Ytfealajbibofiaa.trgraft Go.Proofs.Ytfealajbibofiaa.trunder

theorem setcount {w : World} {t : Nat} {T : Tr} {m c : Int} (h : Tri w t T m c) (c' : Int) : Tri (w.setCell ⟨t, 2, none⟩ (.int .i64 c')) t T m c' := by
  have hk : ∀ x, x ∈ T.blocks → (w.setCell ⟨t, 2, none⟩ (.int .i64 c')).heap[x]? = w.heap[x]? := fun x hx => Below.heap_setCell _ _ _ _ (fun e => h.nt (by rw [← show x = t from e]; exact hx))
  exact ⟨(World.cell?_setCell_other _ _ _ _ (by simp)).trans h.c0, (World.cell?_setCell_other _ _ _ _ (by simp)).trans h.c1, World.cell?_setCell_same _ _ _ h.c2, fun i hi => by rw [World.frozen?_setCell]; exact h.fz i hi, in_same h.tin hk, h.nd, h.nt⟩

/-- what Put leaves -/
def PutOk (w w' : World) (t : Nat) (T : Tr) (m c' : Int) (π : List Bool) (v : Value) : Prop :=
  ∃ T', Tri w' t T' m c' ∧ (∀ σ, T'.get σ = if σ = π then some v else T.get σ) ∧ (∀ x, x ∈ T'.blocks → x ∈ T.blocks ∨ w.heap.size ≤ x) ∧ Kept (own t T) w w' ∧ (∀ ρ, T'.sub ρ ≠ .nil → T.sub ρ ≠ .nil ∨ ρ.length ≤ 32)

theorem put_nil (a n v : Int) (w : World) : Calls Try.prog 11 #[.pointer none, .agg #[.int .u32 a, .int .i64 n], .int .i64 v] w fun e w' => e = .returned (.int .i64 1) ∧ Below w.heap.size w w' := by
  have BA := Lib.hid ((Below.refl w.heap.size w).alloc (Nat.le_refl _) (.cells #[.int .u32 a, .int .i64 n] 30))
  go_enter Try.func11, Try.ntmps11
  go_wp2_with fail
  go_ret
  exact ⟨rfl, BA.out⟩
theorem put_bad (t : Nat) (a n v : Int) (w : World) (h0 : 0 ≤ a) (h1 : a < 4294967296) (hr : rightB a n = false) : Calls Try.prog 11 #[.pointer (some ⟨t, 0, none⟩), .agg #[.int .u32 a, .int .i64 n], .int .i64 v] w fun e w' => e = .returned (.int .i64 1) ∧ Below w.heap.size w w' := by
  have K := Lib.hid (fun W => ip1.check_any a n W h0 h1)
  rw [hr] at K
  simp only [Bool.false_eq_true, if_false] at K
  have BA := Lib.hid ((Below.refl w.heap.size w).alloc (Nat.le_refl _) (.cells #[.int .u32 a, .int .i64 n] 30))
  clear hr h0 h1
  go_enter Try.func11, Try.ntmps11
  go_wp2_with fail
  refine (K.out _).mono ?_
  rintro e w1 ⟨rfl, hb⟩
  have B := Lib.hid (aid.kb hb BA.out)
  clear hb
  go_wp2_with fail
  go_ret
  exact ⟨rfl, B.out⟩

set_option maxRecDepth 100000 in
theorem put_old (t : Nat) (T : Tr) (m c : Int) (a v : Int) (n : Nat) (w : World) (hT : Tri w t T m c) (h0 : 0 ≤ a) (h1 : a < 4294967296) (hn : n ≤ 32) (hr : rightB a n = true) (hg : (T.get (path a n)).isSome = true) :
    Calls Try.prog 11 #[.pointer (some ⟨t, 0, none⟩), .agg #[.int .u32 a, .int .i64 n], .int .i64 v] w fun e w' => e = .returned (.int .i64 0) ∧ PutOk w w' t T m c (path a n) (.int .i64 v) := by
  have K := Lib.hid (fun W => ip1.check_any a n W h0 h1)
  rw [hr] at K
  simp only [if_true] at K
  have ba := (Below.refl w.heap.size w).alloc (Nat.le_refl _) (.cells #[.int .u32 a, .int .i64 n] 30)
  have p0 := Lib.hid (aid.new2a w (.int .u32 a) (.int .i64 n) 30)
  have p1 := Lib.hid (aid.new2b w (.int .u32 a) (.int .i64 n) 30)
  have kf := fun W (hb : Below w.heap.size w W) => find_any t T m c a n W (hT.below hb) h0 h1 hn hr
  obtain ⟨b, l, r, v0, hh, hs⟩ : ∃ b l r v0 hh, T.sub (path a n) = .node b l r v0 hh := by
    cases hs : T.sub (path a n) with
    | nil => rw [Tr.get, hs] at hg; cases hg
    | node b l r v0 hh => exact ⟨b, l, r, v0, hh, rfl⟩
  have hhT : hh = true := by
    cases hh
    · rw [Tr.get, hs] at hg; cases hg
    · rfl
  subst hhT
  have hfv : findV T (path a n) = .pointer (some ⟨b, 0, none⟩) := by rw [findV, if_pos hg, hs]; rfl
  rw [hfv] at kf
  have KF := Lib.hid kf
  have BA := Lib.hid ba
  have HT := Lib.hid hT
  have HS := Lib.hid hs
  clear hr h0 h1 hT ba kf hfv hs hg
  go_enter Try.func11, Try.ntmps11
  go_wp2_with fail
  refine (K.out _).mono ?_
  rintro e w1 ⟨rfl, hb⟩
  have B1 := Lib.hid (aid.kb hb BA.out)
  have q0 := aid.kc hb p0.out
  have q1 := aid.kc hb p1.out
  clear hb
  go_wp2_with fail
  refine (KF.out _ B1.out).mono ?_
  rintro e w2 ⟨rfl, hb⟩
  have B2 := Lib.hid (aid.kb hb B1.out)
  have T2 := HT.out.below B2.out
  have hin := in_sub T2.tin (path a n)
  rw [HS.out] at hin
  obtain ⟨c0, c1, c2, c3, fz, -, -⟩ := hin
  have f2 := fz 2 (by omega)
  have hbT : b ∈ T.blocks := Tr.sub_blocks (π := path a n) (by rw [HS.out]; exact List.mem_cons_self ..)
  have G := Lib.hid (setval (w2 := w2.setCell ⟨b, 2, none⟩ (.int .i64 v)) (v' := .int .i64 v) (hh' := true) T2 HS.out (fun x hx hne => Below.heap_setCell _ _ _ _ hne) (World.cell?_setCell_other _ _ _ _ (by simp)) (World.cell?_setCell_other _ _ _ _ (by simp)) (World.cell?_setCell_same _ _ _ c2) ((World.cell?_setCell_other _ _ _ _ (by simp)).trans c3) (fun i => World.frozen?_setCell ..))
  have KV := Lib.hid ((Kept.of_below (may := own t T) B2.out).setCell (p := ⟨b, 2, none⟩) (.inl (.inr hbT)) (.int .i64 v))
  clear hb T2 c0 c1 c3 fz hbT
  go_wp2_with fail
  go_ret
  obtain ⟨T', g1, g2, g3, g4⟩ := G.out
  exact ⟨rfl, T', g1, g2, fun x hx => .inl (g3 x hx), KV.out, fun ρ h => .inl (g4 ρ h)⟩

set_option maxRecDepth 100000 in
theorem put_full (t : Nat) (T : Tr) (m c : Int) (a v : Int) (n : Nat) (w : World) (hT : Tri w t T m c) (h0 : 0 ≤ a) (h1 : a < 4294967296) (hn : n ≤ 32) (hr : rightB a n = true) (hg : T.get (path a n) = none) (hc : m ≤ c) :
    Calls Try.prog 11 #[.pointer (some ⟨t, 0, none⟩), .agg #[.int .u32 a, .int .i64 n], .int .i64 v] w fun e w' => e = .returned (.int .i64 3) ∧ Below w.heap.size w w' := by
  have K := Lib.hid (fun W => ip1.check_any a n W h0 h1)
  rw [hr] at K
  simp only [if_true] at K
  have ba := (Below.refl w.heap.size w).alloc (Nat.le_refl _) (.cells #[.int .u32 a, .int .i64 n] 30)
  have p0 := Lib.hid (aid.new2a w (.int .u32 a) (.int .i64 n) 30)
  have p1 := Lib.hid (aid.new2b w (.int .u32 a) (.int .i64 n) 30)
  have kf := fun W (hb : Below w.heap.size w W) => find_any t T m c a n W (hT.below hb) h0 h1 hn hr
  have hfv : findV T (path a n) = .pointer none := by rw [findV, hg]; rfl
  rw [hfv] at kf
  have KF := Lib.hid kf
  have BA := Lib.hid ba
  have HT := Lib.hid hT
  have hd : decide (c ≥ m) = true := decide_eq_true hc
  clear hr h0 h1 hT ba kf hfv hg hc
  go_enter Try.func11, Try.ntmps11
  go_wp2_with fail
  refine (K.out _).mono ?_
  rintro e w1 ⟨rfl, hb⟩
  have B1 := Lib.hid (aid.kb hb BA.out)
  have q0 := aid.kc hb p0.out
  have q1 := aid.kc hb p1.out
  clear hb
  go_wp2_with fail
  refine (KF.out _ B1.out).mono ?_
  rintro e w2 ⟨rfl, hb⟩
  have B2 := Lib.hid (aid.kb hb B1.out)
  have T2 := HT.out.below B2.out
  have k1 := fun s : aid.Keep w2 => aid.keep_cell T2.c1 s
  have k2 := fun s : aid.Keep w2 => aid.keep_cell T2.c2 s
  clear hb T2
  go_wp2_with fail
  refine aid.wp_region_keep (by kernel_rfl) (by kernel_rfl) ?_
  repeat (go_big_quiet_step (fail))
  refine wpQuiet_nil ?_
  rintro _ ⟨s, rfl⟩
  go_wp2_with fail
  go_ret
  exact ⟨rfl, aid.kbk B2.out s⟩

set_option maxRecDepth 100000 in
set_option maxHeartbeats 1000000 in
theorem put_new (t : Nat) (T : Tr) (m c : Int) (a v : Int) (n : Nat) (w : World) (hT : Tri w t T m c) (h0 : 0 ≤ a) (h1 : a < 4294967296) (hn : n ≤ 32) (hr : rightB a n = true) (hg : T.get (path a n) = none) (hc : c < m) (hc0 : 0 ≤ c) (hm : m ≤ 4096) :
    Calls Try.prog 11 #[.pointer (some ⟨t, 0, none⟩), .agg #[.int .u32 a, .int .i64 n], .int .i64 v] w fun e w' => e = .returned (.int .i64 0) ∧ PutOk w w' t T m (c + 1) (path a n) (.int .i64 v) := by
  have K := Lib.hid (fun W => ip1.check_any a n W h0 h1)
  rw [hr] at K
  simp only [if_true] at K
  have ba := (Below.refl w.heap.size w).alloc (Nat.le_refl _) (.cells #[.int .u32 a, .int .i64 n] 30)
  have p0 := Lib.hid (aid.new2a w (.int .u32 a) (.int .i64 n) 30)
  have p1 := Lib.hid (aid.new2b w (.int .u32 a) (.int .i64 n) 30)
  have kf := fun W (hb : Below w.heap.size w W) => find_any t T m c a n W (hT.below hb) h0 h1 hn hr
  have KG := Lib.hid (fun W (hb : Below w.heap.size w W) => grow_any t T m c a n W (hT.below hb) h0 h1 hn)
  have hfv : findV T (path a n) = .pointer none := by rw [findV, hg]; rfl
  rw [hfv] at kf
  have KF := Lib.hid kf
  have BA := Lib.hid ba
  have HT := Lib.hid hT
  have hd : decide (c ≥ m) = false := decide_eq_false (by omega)
  clear hr h0 h1 hT ba kf hfv hg
  go_enter Try.func11, Try.ntmps11
  go_wp2_with fail
  refine (K.out _).mono ?_
  rintro e w1 ⟨rfl, hb⟩
  have B1 := Lib.hid (aid.kb hb BA.out)
  have q0 := aid.kc hb p0.out
  have q1 := aid.kc hb p1.out
  clear hb
  go_wp2_with fail
  refine (KF.out _ B1.out).mono ?_
  rintro e w2 ⟨rfl, hb⟩
  have B2 := Lib.hid (aid.kb hb B1.out)
  have T2 := HT.out.below B2.out
  have k1 := fun s : aid.Keep w2 => aid.keep_cell T2.c1 s
  have k2 := fun s : aid.Keep w2 => aid.keep_cell T2.c2 s
  have r0 := Lib.hid (aid.kc hb q0)
  have r1 := Lib.hid (aid.kc hb q1)
  clear hb T2
  go_wp2_with fail
  refine aid.wp_region_keep (by kernel_rfl) (by kernel_rfl) ?_
  repeat (go_big_quiet_step (fail))
  refine wpQuiet_nil ?_
  rintro _ ⟨s, rfl⟩
  have s0 := aid.keep_cell r0.out s
  have s1 := aid.keep_cell r1.out s
  have B3 := Lib.hid (aid.kbk B2.out s)
  go_wp2_with fail
  refine (KG.out _ B3.out).mono ?_
  rintro e w4 ⟨T4, b, l, r, v0, hh, rfl, g1, g2, g3, g4, g5, g6⟩
  have hin := in_sub g1.tin (path a n)
  rw [g2] at hin
  obtain ⟨c0, c1, c2, c3, fz, -, -⟩ := hin
  have f2 := fz 2 (by omega)
  have f3 : (w4.setCell ⟨b, 2, none⟩ (.int .i64 v)).frozen? ⟨b, 3, none⟩ = false := by rw [World.frozen?_setCell]; exact fz 3 (by omega)
  have hbT : b ∈ T4.blocks := Tr.sub_blocks (π := path a n) (by rw [g2]; exact List.mem_cons_self ..)
  have htb : t ≠ b := fun e => g1.nt (e ▸ hbT)
  have d3 : (w4.setCell ⟨b, 2, none⟩ (.int .i64 v)).cell? ⟨b, 3, none⟩ = some (.bool hh) := (World.cell?_setCell_other _ _ _ _ (by simp)).trans c3
  have g := setval (w2 := (w4.setCell ⟨b, 2, none⟩ (.int .i64 v)).setCell ⟨b, 3, none⟩ (.bool true)) (v' := .int .i64 v) (hh' := true) g1 g2 (fun x hx hne => (Below.heap_setCell _ _ _ _ hne).trans (Below.heap_setCell _ _ _ _ hne)) ((World.cell?_setCell_other _ _ _ _ (by simp)).trans (World.cell?_setCell_other _ _ _ _ (by simp))) ((World.cell?_setCell_other _ _ _ _ (by simp)).trans (World.cell?_setCell_other _ _ _ _ (by simp))) ((World.cell?_setCell_other _ _ _ _ (by simp)).trans (World.cell?_setCell_same _ _ _ c2)) (World.cell?_setCell_same _ _ _ d3) (fun i => by rw [World.frozen?_setCell, World.frozen?_setCell])
  obtain ⟨T5, t1, t2, t3, t4⟩ := g
  have HD := Lib.hid (show ∀ ρ, T5.sub ρ ≠ .nil → T.sub ρ ≠ .nil ∨ ρ.length ≤ 32 from fun ρ h => (g6 ρ (t4 ρ h)).imp id (fun h => by omega))
  have e2 := t1.c2
  have e3 := t1.fz 2 (by omega)
  have G5 := Lib.hid (setcount t1 (c + 1))
  have hbo : own t T b ∨ s.world.heap.size ≤ b := (g4 b hbT).imp .inr id
  have KV := Lib.hid ((((Kept.of_below (may := own t T) B3.out).trans g5 (fun x _ h => h)).setCell (p := ⟨b, 2, none⟩) (hbo.imp id (fun h => by have := B3.out.size; dsimp only; omega)) (.int .i64 v)).setCell (p := ⟨b, 3, none⟩) (hbo.imp id (fun h => by have := B3.out.size; dsimp only; omega)) (.bool true) |>.setCell (p := ⟨t, 2, none⟩) (.inl (.inl rfl)) (.int .i64 (c + 1)))
  have HG := Lib.hid (show ∀ σ, T5.get σ = if σ = path a n then some (.int .i64 v) else T.get σ from fun σ => by rw [t2]; by_cases e : σ = path a n; rw [if_pos e, if_pos e]; rfl; rw [if_neg e, if_neg e]; exact g3 σ)
  have HB := Lib.hid (show ∀ x, x ∈ T5.blocks → x ∈ T.blocks ∨ w.heap.size ≤ x from fun x hx => (g4 x (t3 x hx)).imp id (fun h => by have := B3.out.size; omega))
  clear g1 g2 g3 g4 g5 g6 c0 c1 c3 fz hbT htb t1 t2 t3 t4 hbo
  go_wp2_with fail
  go_ret
  exact ⟨rfl, T5, G5.out, HG.out, HB.out, KV.out, HD.out⟩
end Go.Proofs.Ytfealajbibofiaa.trput
