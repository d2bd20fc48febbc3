import Derived.Test.YtfealajbibofiaaTrDrop2
/- Package trie: Drop. -/
set_option linter.unusedVariables false
set_option linter.unusedSimpArgs false
namespace Go.Proofs.Ytfealajbibofiaa.trdrop
open Go.RowKit Go.Lib Go.Proofs.Ytfealajbibofiaa.math1 Go.Proofs.Ytfealajbibofiaa.trmath Go.Proofs.Ytfealajbibofiaa.trmem Go.Proofs.Ytfealajbibofiaa.trgraft Go.Proofs.Ytfealajbibofiaa.trunder Go.Proofs.Ytfealajbibofiaa.trput

/-- without: at whatever node of the path -/
theorem without_any (n : Nat) (a : Int) (h0 : 0 ≤ a) (h1 : a < 4294967296) (hn : n ≤ 32) : ∀ (j : Nat) (U : Tr) (k : Nat) (w : World), k + j = n → In w U → U.blocks.Nodup → U.sub (pathF a k j) ≠ .nil →
    Calls Try.prog 41 #[U.ptr, .agg #[.int .u32 a, .int .i64 n], .int .i64 k] w fun e w' => e = .returned (U.drop (.int .i64 0) (pathF a k j)).ptr ∧ Left w w' U (U.drop (.int .i64 0) (pathF a k j))
  | j, .nil, k, w, _, _, _, hs => absurd (Tr.sub_nil _) hs
  | 0, .node b l r v hh, k, w, hk, hin, hnd, _ => by
    have hk' : k = n := by omega
    rcases l with _ | ⟨bl, ll, rl, vl, hl⟩
    · rcases r with _ | ⟨br, lr, rr, vr, hr⟩
      · exact end_nil_nil n k a b 0 0 .nil .nil .nil .nil v v v false false hh w hk' hin hnd
      · exact end_nil_node n k a b 0 br .nil .nil lr rr v vr v false hr hh w hk' hin hnd
    · rcases r with _ | ⟨br, lr, rr, vr, hr⟩
      · exact end_node_nil n k a b bl 0 ll rl .nil .nil vl v v hl false hh w hk' hin hnd
      · exact end_node_node n k a b bl br ll rl lr rr vl vr v hl hr hh w hk' hin hnd
  | j + 1, .node b l r v hh, k, w, hk, hin, hnd, hs => by
    obtain ⟨n1, n2, n3, n4, n5⟩ := Tr.nodup_kids hnd
    have hkn : k < n := by omega
    have ih := fun (U : Tr) (W : World) => without_any n a h0 h1 hn j U (k + 1) W (by omega)
    have hs' : ((Tr.node b l r v hh).kid (turn a k)).sub (pathF a (k + 1) j) ≠ .nil := hs
    cases ht : turn a k
    · rw [ht] at hs'
      have hsl : l.sub (pathF a (k + 1) j) ≠ .nil := hs'
      rcases l with _ | ⟨bk, lk, rk, vk, hk2⟩
      · exact absurd (Tr.sub_nil _) hsl
      · have e : (Tr.node b (.node bk lk rk vk hk2) r v hh).drop (.int .i64 0) (pathF a k (j + 1)) = Tr.trim (.node b ((Tr.node bk lk rk vk hk2).drop (.int .i64 0) (pathF a (k + 1) j)) r v hh) := by
          rw [pathF, ht]; rfl
        rw [e]
        exact step_false n k a b bk lk rk r _ vk v hk2 hh w h0 h1 hkn hn ht hin hnd (fun x hx => Tr.drop_blocks hx) (Lib.hid (fun W hW => ih (.node bk lk rk vk hk2) W hW n3 hsl))
    · rw [ht] at hs'
      have hsr : r.sub (pathF a (k + 1) j) ≠ .nil := hs'
      rcases r with _ | ⟨bk, lk, rk, vk, hk2⟩
      · exact absurd (Tr.sub_nil _) hsr
      · have e : (Tr.node b l (.node bk lk rk vk hk2) v hh).drop (.int .i64 0) (pathF a k (j + 1)) = Tr.trim (.node b l ((Tr.node bk lk rk vk hk2).drop (.int .i64 0) (pathF a (k + 1) j)) v hh) := by
          rw [pathF, ht]; rfl
        rw [e]
        exact step_true n k a b bk lk rk l _ vk v hk2 hh w h0 h1 hkn hn ht hin hnd (fun x hx => Tr.drop_blocks hx) (Lib.hid (fun W hW => ih (.node bk lk rk vk hk2) W hW n4 hsr))

theorem root_facts {w1 w2 : World} {t : Nat} {T T' : Tr} {m c : Int} (h : Tri w1 t T m c) (h3 : Kept (fun x => x ∈ T.blocks) w1 w2) (h2 : In w2 T') (hsub : ∀ x, x ∈ T'.blocks → x ∈ T.blocks) (hnd : T'.blocks.Nodup) :
    w2.cell? ⟨t, 0, none⟩ = some T.ptr ∧ w2.frozen? ⟨t, 0, none⟩ = false ∧ Tri (w2.setCell ⟨t, 0, none⟩ T'.ptr) t T' m c := by
  have hb : w2.heap[t]? = w1.heap[t]? := h3.block t (h.lt (.inl rfl)) h.nt
  have cc : ∀ i, w2.cell? ⟨t, i, none⟩ = w1.cell? ⟨t, i, none⟩ := fun i => World.cell?_of_block (w := w1) (a := ⟨t, i, none⟩) hb
  have ff : ∀ i, w2.frozen? ⟨t, i, none⟩ = w1.frozen? ⟨t, i, none⟩ := fun i => World.frozen?_of_block (w := w1) (a := ⟨t, i, none⟩) hb
  refine ⟨(cc 0).trans h.c0, (ff 0).trans (h.fz 0 (by omega)), ⟨?_, ?_, ?_, fun i hi => ?_, ?_, hnd, fun hx => h.nt (hsub _ hx)⟩⟩
  · exact World.cell?_setCell_same _ _ _ ((cc 0).trans h.c0)
  · exact (World.cell?_setCell_other _ _ _ _ (by simp)).trans ((cc 1).trans h.c1)
  · exact (World.cell?_setCell_other _ _ _ _ (by simp)).trans ((cc 2).trans h.c2)
  · rw [World.frozen?_setCell]; exact (ff i).trans (h.fz i hi)
  · exact in_same h2 (fun x hx => Below.heap_setCell _ _ _ _ (fun e => h.nt (hsub _ (by rw [← show x = t from e]; exact hx))))

theorem drop_no (v : Value) (a n : Int) (w : World) (K : ∀ W, Below w.heap.size w W → Calls Try.prog 39 #[v, .agg #[.int .u32 a, .int .i64 n]] W fun e w' => e = .returned (.pointer none) ∧ Below W.heap.size W w') :
    Calls Try.prog 13 #[v, .agg #[.int .u32 a, .int .i64 n]] w fun e w' => e = .returned (.bool false) ∧ Below w.heap.size w w' := by
  have BA := Lib.hid ((Below.refl w.heap.size w).alloc (Nat.le_refl _) (.cells #[.int .u32 a, .int .i64 n] 30))
  have KF := Lib.hid K
  clear K
  go_enter Try.func13, Try.ntmps13
  go_wp2_with fail
  refine (KF.out _ BA.out).mono ?_
  rintro e w1 ⟨rfl, hb⟩
  have B := Lib.hid (aid.kb hb BA.out)
  clear hb
  go_wp2_with fail
  go_ret
  exact ⟨rfl, B.out⟩

/-- what Drop leaves -/
def DropOk (w w' : World) (t : Nat) (T : Tr) (m c' : Int) (π : List Bool) : Prop :=
  ∃ T', Tri w' t T' m c' ∧ (∀ σ, T'.get σ = if σ = π then none else T.get σ) ∧ (∀ x, x ∈ T'.blocks → x ∈ T.blocks) ∧ Kept (own t T) w w' ∧ (∀ ρ, T'.sub ρ ≠ .nil → T.sub ρ ≠ .nil)

set_option maxRecDepth 100000 in
set_option maxHeartbeats 2000000 in
theorem drop_yes (t : Nat) (T : Tr) (m c : Int) (a : Int) (n : Nat) (w : World) (hT : Tri w t T m c) (h0 : 0 ≤ a) (h1 : a < 4294967296) (hn : n ≤ 32) (hr : rightB a n = true) (hg : (T.get (path a n)).isSome = true) (hc0 : 0 ≤ c) (hc1 : c ≤ 4096) :
    Calls Try.prog 13 #[.pointer (some ⟨t, 0, none⟩), .agg #[.int .u32 a, .int .i64 n]] w fun e w' => e = .returned (.bool true) ∧ DropOk w w' t T m (c - 1) (path a n) := by
  have kf := fun W (hb : Below w.heap.size w W) => find_any t T m c a n W (hT.below hb) h0 h1 hn hr
  obtain ⟨bs, ls, rs, vs, hhs, hs⟩ : ∃ b l r v0 hh, T.sub (path a n) = .node b l r v0 hh := by
    cases hs : T.sub (path a n) with
    | nil => rw [Tr.get, hs] at hg; cases hg
    | node b l r v0 hh => exact ⟨b, l, r, v0, hh, rfl⟩
  have hfv : findV T (path a n) = .pointer (some ⟨bs, 0, none⟩) := by rw [findV, if_pos hg, hs]; rfl
  rw [hfv] at kf
  have hne : T.sub (pathF a 0 n) ≠ .nil := by rw [← path_eq_F, hs]; exact fun h => by cases h
  obtain ⟨b, hb0⟩ : ∃ b, T.ptr = .pointer (some ⟨b, 0, none⟩) := by
    cases T with
    | nil => exact absurd (Tr.sub_nil _) hne
    | node b l r v hh => exact ⟨b, rfl⟩
  have kc := fun (W : World) (hW : In W T) => without_any n a h0 h1 hn n T 0 W (by omega) hW hT.nd hne
  rw [← path_eq_F, hb0] at kc
  obtain ⟨T', hT'⟩ : ∃ T', T' = T.drop (.int .i64 0) (path a n) := ⟨_, rfl⟩
  rw [← hT'] at kc
  have HDS := Lib.hid (show ∀ x, x ∈ T'.blocks → x ∈ T.blocks from fun x hx => by rw [hT'] at hx; exact Tr.drop_blocks hx)
  have HSU := Lib.hid (show ∀ ρ, T'.sub ρ ≠ .nil → T.sub ρ ≠ .nil from fun ρ h => by rw [hT'] at h; exact Tr.drop_sub h)
  have HDN := Lib.hid (show T'.blocks.Nodup by rw [hT']; exact Tr.drop_nodup hT.nd)
  have HG := Lib.hid (show ∀ σ, T'.get σ = if σ = path a n then none else T.get σ from fun σ => by rw [hT']; exact Tr.get_drop _ _ _ _)
  have KC := Lib.hid kc
  have KF := Lib.hid kf
  have HT := Lib.hid hT
  have HB0 := Lib.hid hb0
  obtain ⟨al, hal⟩ : ∃ al, T'.ptr = .pointer al := by cases T' <;> exact ⟨_, rfl⟩
  have HAL := Lib.hid hal
  have ba := (Below.refl w.heap.size w).alloc (Nat.le_refl _) (.cells #[.int .u32 a, .int .i64 n] 30)
  have BA := Lib.hid ba
  have p0 := Lib.hid (aid.new2a w (.int .u32 a) (.int .i64 n) 30)
  have p1 := Lib.hid (aid.new2b w (.int .u32 a) (.int .i64 n) 30)
  clear kf kc hT hs hfv hne hb0 hT' hal ba hg hr h0 h1
  go_enter Try.func13, Try.ntmps13
  go_wp2_with fail
  refine (KF.out _ BA.out).mono ?_
  rintro e W1 ⟨rfl, hb⟩
  have HT1 := Lib.hid (HT.out.below (aid.kb hb BA.out))
  have hpo : ¬ own t T w.heap.size := fun h => Nat.lt_irrefl _ (HT.out.lt h)
  have q0 := aid.kc hb p0.out
  have q1 := aid.kc hb p1.out
  have HP0 := Lib.hid (show ∀ W, Kept (own t T) W1 W → W.cell? ⟨w.heap.size, 0, none⟩ = some (.int .u32 a) from fun W h => Kept.cell h q0 hpo)
  have HP1 := Lib.hid (show ∀ W, Kept (own t T) W1 W → W.cell? ⟨w.heap.size, 0 + 1, none⟩ = some (.int .i64 n) from fun W h => Kept.cell h q1 hpo)
  have HC0 := Lib.hid (show W1.cell? ⟨t, 0, none⟩ = some (.pointer (some ⟨b, 0, none⟩)) from HB0.out ▸ HT1.out.c0)
  have B1 := Lib.hid (aid.kb hb BA.out)
  clear hb hpo q0 q1 p0 p1
  go_wp2_with fail
  refine wp_region_noPanic ?_
  refine wp_region_held_drew (S := fun W => Kept (own t T) W1 W) (by kernel_rfl) ((Kept.refl _ _).drew) (fun hSx => ?_)
  change wpAnyH _ _ _ _ _ 10 _ _ _
  have hS0 : Kept (own t T) W1 W1.drew := hSx
  clear hSx
  refine wpAnyH_take (i := 0) (v := .pointer (some ⟨t, 0, none⟩)) rfl (by kernel_rfl) (by kernel_rfl) (by kernel_rfl) (fun _ _ _ h => h) (.inl ⟨rfl, fun _ _ => rfl⟩) hS0 ?_
  try simp only [Act.put, List.setIfInBounds_toArray, List.set_cons_zero, List.set_cons_succ, List.getElem_toArray, List.getElem_cons_zero, List.getElem_cons_succ]
  refine wpAnyH_take (i := 1) (v := .pointer (some ⟨t, 0, none⟩)) rfl (by kernel_rfl) (by kernel_rfl) (by kernel_rfl) (fun _ _ _ h => h) (.inl ⟨rfl, fun _ _ => rfl⟩) hS0 ?_
  try simp only [Act.put, List.setIfInBounds_toArray, List.set_cons_zero, List.set_cons_succ, List.getElem_toArray, List.getElem_cons_zero, List.getElem_cons_succ]
  refine wpAnyH_take (i := 2) (v := .pointer (some ⟨t, 0, none⟩)) rfl (by kernel_rfl) (by kernel_rfl) (by kernel_rfl) (fun _ _ _ h => h) (.inl ⟨rfl, fun _ _ => by kernel_rfl⟩) hS0 ?_
  try simp only [Act.put, List.setIfInBounds_toArray, List.set_cons_zero, List.set_cons_succ, List.getElem_toArray, List.getElem_cons_zero, List.getElem_cons_succ]
  refine wpAnyH_take (i := 3) (v := .pointer (some ⟨t, 0, none⟩)) rfl (by kernel_rfl) (by kernel_rfl) (by kernel_rfl) (fun _ _ _ h => h) (.inl ⟨rfl, fun _ _ => by kernel_rfl⟩) hS0 ?_
  try simp only [Act.put, List.setIfInBounds_toArray, List.set_cons_zero, List.set_cons_succ, List.getElem_toArray, List.getElem_cons_zero, List.getElem_cons_succ]
  refine wpAnyH_take (i := 5) (v := .agg #[.int .u32 a, .int .i64 n]) rfl (by kernel_rfl) (by kernel_rfl) (by kernel_rfl) (fun _ _ _ h => h) (yields_pfx rfl (.tmp 3) rfl w.heap.size 0 rfl _ _ HP0.out HP1.out) hS0 ?_
  try simp only [Act.put, List.setIfInBounds_toArray, List.set_cons_zero, List.set_cons_succ, List.getElem_toArray, List.getElem_cons_zero, List.getElem_cons_succ]
  have cD : W1.drew.cell? ⟨t, 0, none⟩ = some (.pointer (some ⟨b, 0, none⟩)) := HC0.out
  refine wpAnyH_ready (rs := [4]) (by kernel_rfl) (by simp) ?_
  refine AllReadyH.cons rfl (fun K hK => ?_) AllReadyH.nil
  go_simp
  refine hK.out _ _ hS0 (fun _ => ?_)
  clear hK K
  try simp only [Act.put, List.setIfInBounds_toArray, List.set_cons_zero, List.set_cons_succ, List.getElem_toArray, List.getElem_cons_zero, List.getElem_cons_succ]
  refine wpAnyH_ready (rs := [6]) (by kernel_rfl) (by simp) ?_
  refine AllReadyH.cons rfl (fun K hK => ?_) AllReadyH.nil
  go_simp
  refine (KC.out W1.drew (in_same HT1.out.tin (fun x hx => rfl))).mono ?_
  rintro e0 w2 ⟨rfl, hL1, hL2⟩
  have hS1 : Kept (own t T) W1 w2 := Kept.trans (show Kept (own t T) W1 W1.drew from hS0) hL2 (fun x _ h => .inr h)
  have SF := root_facts HT1.out (Kept.trans (Kept.of_below (may := fun x => x ∈ T.blocks) ((Below.refl _ _).drew)) hL2 (fun x _ h => h)) hL1 HDS.out HDN.out
  obtain ⟨s0, s1, s2⟩ := SF
  rw [HAL.out] at s2
  rw [HAL.out]
  have S2 := Lib.hid s2
  clear s2
  go_wp2_with fail
  refine hK.out _ _ hS1 (fun _ => ?_)
  clear hK K
  try simp only [Act.put, List.setIfInBounds_toArray, List.set_cons_zero, List.set_cons_succ, List.getElem_toArray, List.getElem_cons_zero, List.getElem_cons_succ]
  refine wpAnyH_take (i := 7) (v := .pointer (some ⟨t, 0, none⟩)) rfl (by kernel_rfl) (by kernel_rfl) (by kernel_rfl) (fun _ _ _ h => h) (.inl ⟨rfl, fun _ _ => by kernel_rfl⟩) hS1 ?_
  try simp only [Act.put, List.setIfInBounds_toArray, List.set_cons_zero, List.set_cons_succ, List.getElem_toArray, List.getElem_cons_zero, List.getElem_cons_succ]
  refine wpAnyH_take (i := 8) (v := .pointer (some ⟨t, 0, none⟩)) rfl (by kernel_rfl) (by kernel_rfl) (by kernel_rfl) (fun _ _ _ h => h) (.inl ⟨rfl, fun _ _ => by kernel_rfl⟩) hS1 ?_
  try simp only [Act.put, List.setIfInBounds_toArray, List.set_cons_zero, List.set_cons_succ, List.getElem_toArray, List.getElem_cons_zero, List.getElem_cons_succ]
  refine wpAnyH_ready (rs := [9]) (by kernel_rfl) (by simp) ?_
  refine AllReadyH.cons rfl (fun K hK => ?_) AllReadyH.nil
  go_simp
  refine hK.out _ _ (hS1.setCell (p := ⟨t, 0, none⟩) (.inl (.inl rfl)) _) (fun _ => ?_)
  clear hK K
  try simp only [Act.put, List.setIfInBounds_toArray, List.set_cons_zero, List.set_cons_succ, List.getElem_toArray, List.getElem_cons_zero, List.getElem_cons_succ]
  refine wpAnyH_done (by kernel_rfl) ?_ _
  refine NoPanic.normal ?_
  have KV := Lib.hid ((((Kept.of_below (may := own t T) B1.out).trans hS1 (fun x _ h => h)).setCell (p := ⟨t, 0, none⟩) (.inl (.inl rfl)) (.pointer al)).setCell (p := ⟨t, 2, none⟩) (.inl (.inl rfl)) (.int .i64 (c - 1)))
  have S3 := Lib.hid (setcount S2.out (c - 1))
  have e2 := S2.out.c2
  have e3 := S2.out.fz 2 (by omega)
  clear s0 s1 hL1 hL2 hS0 hS1 cD S2
  go_wp2_with fail
  go_ret
  exact ⟨rfl, T', S3.out, HG.out, HDS.out, KV.out, HSU.out⟩
end Go.Proofs.Ytfealajbibofiaa.trdrop
