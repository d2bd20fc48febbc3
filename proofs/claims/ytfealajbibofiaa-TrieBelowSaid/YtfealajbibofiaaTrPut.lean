import Derived.Test.YtfealajbibofiaaTrUnder
import Derived.Test.YtfealajbibofiaaTrGraft
/- Package trie: New, Len, find, grow. -/
set_option linter.unusedVariables false
set_option linter.unusedSimpArgs false
namespace Go.Proofs.Ytfealajbibofiaa.trput
open Go.RowKit Go.Lib Go.Proofs.Ytfealajbibofiaa.math1 Go.Proofs.Ytfealajbibofiaa.trmath Go.Proofs.Ytfealajbibofiaa.trmem Go.Proofs.Ytfealajbibofiaa.trgraft Go.Proofs.Ytfealajbibofiaa.trunder

theorem setval {w w2 : World} {t : Nat} {T : Tr} {m c : Int} {π : List Bool} {b : Nat} {l r : Tr} {v v' : Value} {hh hh' : Bool} (h : Tri w t T m c) (hs : T.sub π = .node b l r v hh) (hk : ∀ x, x < w.heap.size → x ≠ b → w2.heap[x]? = w.heap[x]?)
    (d0 : w2.cell? ⟨b, 0, none⟩ = w.cell? ⟨b, 0, none⟩) (d1 : w2.cell? ⟨b, 1, none⟩ = w.cell? ⟨b, 1, none⟩) (d2 : w2.cell? ⟨b, 2, none⟩ = some v') (d3 : w2.cell? ⟨b, 3, none⟩ = some (.bool hh')) (df : ∀ i, w2.frozen? ⟨b, i, none⟩ = w.frozen? ⟨b, i, none⟩) :
    ∃ T', Tri w2 t T' m c ∧ (∀ σ, T'.get σ = if σ = π then (if hh' then some v' else none) else T.get σ) ∧ (∀ x, x ∈ T'.blocks → x ∈ T.blocks) ∧ (∀ ρ, T'.sub ρ ≠ .nil → T.sub ρ ≠ .nil) := by
  have hin := in_sub h.tin π
  have hnd := nodup_sub h.nd π
  rw [hs] at hin hnd
  obtain ⟨c0, c1, c2, c3, fz, il, ir⟩ := hin
  obtain ⟨n1, n2, n3, n4, n5⟩ := Tr.nodup_kids hnd
  have hre : Tr.Reach T π := Tr.reach_of_sub (by rw [hs]; exact fun h => by cases h)
  have hbT : b ∈ T.blocks := Tr.sub_blocks (π := π) (by rw [hs]; exact List.mem_cons_self ..)
  have htb : t ≠ b := fun e => h.nt (e ▸ hbT)
  have htl := h.lt (.inl rfl)
  have hbt := hk t htl htb
  have cc : ∀ i, w2.cell? ⟨t, i, none⟩ = w.cell? ⟨t, i, none⟩ := fun i => World.cell?_of_block (w := w) (a := ⟨t, i, none⟩) hbt
  have ff : ∀ i, w2.frozen? ⟨t, i, none⟩ = w.frozen? ⟨t, i, none⟩ := fun i => World.frozen?_of_block (w := w) (a := ⟨t, i, none⟩) hbt
  have hmem : ∀ x, x ∈ (T.rep π (.node b l r v' hh')).blocks → x ∈ T.blocks := fun x hx => by
    rcases Tr.rep_blocks hx with hx | hx
    · exact hx
    · exact Tr.sub_blocks (π := π) (by rw [hs]; exact hx)
  refine ⟨T.rep π (.node b l r v' hh'), ⟨?_, (cc 1).trans h.c1, (cc 2).trans h.c2, fun i hi => (ff i).trans (h.fz i hi), ?_, ?_, fun hx => h.nt (hmem _ hx)⟩, fun σ => ?_, hmem, fun ρ hρ => ?_⟩
  · rw [Tr.rep_ptr hre (by rw [hs]; rfl)]; exact (cc 0).trans h.c0
  · exact rep_in h.tin hre ⟨d0.trans c0, d1.trans c1, d2, d3, fun i hi => (df i).trans (fz i hi), in_same il (fun x hx => hk x (in_lt il x hx) (fun e => n1 (e ▸ hx))), in_same ir (fun x hx => hk x (in_lt ir x hx) (fun e => n2 (e ▸ hx)))⟩ (by rw [hs]; rfl) h.nd (fun x hx hns => hk x (in_lt h.tin x hx) (fun e => hns (by rw [e, hs]; exact List.mem_cons_self ..)))
  · exact Tr.rep_nodup hre h.nd hnd (fun x hx => .inl (by rw [hs]; exact hx))
  · rw [Tr.get_rep hre (fun σ hne => ?_)]
    · rfl
    · rw [hs]
      match σ with
      | [] => exact absurd rfl hne
      | d :: σ => rfl
  · rcases Tr.sub_rep_ne (fun _ => False) hre (fun σ hσ => .inl (by
      rw [hs]
      match σ with
      | [] => exact fun e => by cases e
      | d :: σ => exact hσ)) ρ hρ with h | h
    · exact h
    · exact h.elim

theorem len_nil (w : World) : Calls Try.prog 22 #[.pointer none] w fun e w' => e = .returned (.int .i64 0) ∧ Below w.heap.size w w' := by
  go_enter Try.func22, Try.ntmps22
  go_wp2_with fail
  go_ret
  exact ⟨rfl, Below.refl _ _⟩
theorem len_any (t : Nat) (T : Tr) (m c : Int) (w : World) (hT : Tri w t T m c) : Calls Try.prog 22 #[.pointer (some ⟨t, 0, none⟩)] w fun e w' => e = .returned (.int .i64 c) ∧ Below w.heap.size w w' := by
  have k2 := hT.c2
  clear hT
  go_enter Try.func22, Try.ntmps22
  go_wp2_with fail
  go_ret
  exact ⟨rfl, Below.refl _ _⟩

/-- find: a node at which something stands -/
def findV (T : Tr) (π : List Bool) : Value := if (T.get π).isSome then (T.sub π).ptr else .pointer none
theorem find_nil (a n : Int) (w : World) : Calls Try.prog 39 #[.pointer none, .agg #[.int .u32 a, .int .i64 n]] w fun e w' => e = .returned (.pointer none) ∧ Below w.heap.size w w' := by
  have K := Lib.hid (fun W => under_nil a n W)
  have BA := Lib.hid ((Below.refl w.heap.size w).alloc (Nat.le_refl _) (.cells #[.int .u32 a, .int .i64 n] 30))
  go_enter Try.func39, Try.ntmps39
  go_wp2_with fail
  refine (K.out _).mono ?_
  rintro e w1 ⟨rfl, hb⟩
  have B := Lib.hid (aid.kb hb BA.out)
  clear hb
  go_wp2_with fail
  go_ret
  exact ⟨rfl, B.out⟩
theorem find_bad (t : Nat) (a n : Int) (w : World) (h0 : 0 ≤ a) (h1 : a < 4294967296) (hr : rightB a n = false) : Calls Try.prog 39 #[.pointer (some ⟨t, 0, none⟩), .agg #[.int .u32 a, .int .i64 n]] w fun e w' => e = .returned (.pointer none) ∧ Below w.heap.size w w' := by
  have K := Lib.hid (fun W => under_bad t a n W h0 h1 hr)
  have BA := Lib.hid ((Below.refl w.heap.size w).alloc (Nat.le_refl _) (.cells #[.int .u32 a, .int .i64 n] 30))
  clear hr h0 h1
  go_enter Try.func39, Try.ntmps39
  go_wp2_with fail
  refine (K.out _).mono ?_
  rintro e w1 ⟨rfl, hb⟩
  have B := Lib.hid (aid.kb hb BA.out)
  clear hb
  go_wp2_with fail
  go_ret
  exact ⟨rfl, B.out⟩
theorem find_any (t : Nat) (T : Tr) (m c : Int) (a : Int) (n : Nat) (w : World) (hT : Tri w t T m c) (h0 : 0 ≤ a) (h1 : a < 4294967296) (hn : n ≤ 32) (hr : rightB a n = true) :
    Calls Try.prog 39 #[.pointer (some ⟨t, 0, none⟩), .agg #[.int .u32 a, .int .i64 n]] w fun e w' => e = .returned (findV T (path a n)) ∧ Below w.heap.size w w' := by
  have ba := (Below.refl w.heap.size w).alloc (Nat.le_refl _) (.cells #[.int .u32 a, .int .i64 n] 30)
  have K := Lib.hid (under_any t T m c a n _ (hT.below ba) h0 h1 hn hr)
  have BA := Lib.hid ba
  have IN := Lib.hid (in_sub hT.tin (path a n))
  have hfv : findV T (path a n) = if (T.sub (path a n)).val.isSome then (T.sub (path a n)).ptr else .pointer none := rfl
  rw [hfv]
  obtain ⟨S, hS⟩ : ∃ S, S = T.sub (path a n) := ⟨_, rfl⟩
  rw [← hS] at K IN ⊢
  clear hS hfv hT h0 h1 hr ba
  cases S with
  | nil =>
    rw [show (if (Tr.val .nil).isSome then Tr.ptr .nil else Value.pointer none) = .pointer none from rfl]
    rw [show Tr.ptr .nil = .pointer none from rfl] at K
    go_enter Try.func39, Try.ntmps39
    go_wp2_with fail
    refine (K.out).mono ?_
    rintro e w1 ⟨rfl, hb⟩
    have B := Lib.hid (aid.kb hb BA.out)
    clear hb
    go_wp2_with fail
    go_ret
    exact ⟨rfl, B.out⟩
  | node b l r v hh =>
    rw [show Tr.ptr (.node b l r v hh) = .pointer (some ⟨b, 0, none⟩) from rfl] at K ⊢
    have c3 := IN.out.2.2.2.1
    have hc3 := fun w1 (hb : Below w.heap.size w w1) => aid.kc hb c3
    have HC := Lib.hid hc3
    clear c3 hc3 IN
    cases hh
    · rw [show (if (Tr.val (.node b l r v false)).isSome then Value.pointer (some ⟨b, 0, none⟩) else Value.pointer none) = .pointer none from rfl]
      go_enter Try.func39, Try.ntmps39
      go_wp2_with fail
      refine (K.out).mono ?_
      rintro e w1 ⟨rfl, hb⟩
      have B := Lib.hid (aid.kb hb BA.out)
      have c3 := HC.out _ B.out
      clear hb
      go_wp2_with fail
      go_ret
      exact ⟨rfl, B.out⟩
    · rw [show (if (Tr.val (.node b l r v true)).isSome then Value.pointer (some ⟨b, 0, none⟩) else Value.pointer none) = .pointer (some ⟨b, 0, none⟩) from rfl]
      go_enter Try.func39, Try.ntmps39
      go_wp2_with fail
      refine (K.out).mono ?_
      rintro e w1 ⟨rfl, hb⟩
      have B := Lib.hid (aid.kb hb BA.out)
      have c3 := HC.out _ B.out
      clear hb
      go_wp2_with fail
      go_ret
      exact ⟨rfl, B.out⟩

set_option maxRecDepth 100000 in
set_option maxHeartbeats 1000000 in
/-- grow: the node of a prefix, made with all above it -/
theorem grow_any (t : Nat) (T : Tr) (m c : Int) (a : Int) (n : Nat) (w : World) (hT : Tri w t T m c) (h0 : 0 ≤ a) (h1 : a < 4294967296) (hn : n ≤ 32) :
    Calls Try.prog 40 #[.pointer (some ⟨t, 0, none⟩), .agg #[.int .u32 a, .int .i64 n]] w fun e w' => ∃ T' b l r v hh, e = .returned (.pointer (some ⟨b, 0, none⟩)) ∧ Tri w' t T' m c ∧ T'.sub (path a n) = .node b l r v hh ∧ (∀ σ, T'.get σ = T.get σ) ∧ (∀ x, x ∈ T'.blocks → x ∈ T.blocks ∨ w.heap.size ≤ x) ∧ Kept (own t T) w w' ∧ (∀ ρ, T'.sub ρ ≠ .nil → T.sub ρ ≠ .nil ∨ ρ.length ≤ n) := by
  have ba := (Below.refl w.heap.size w).alloc (Nat.le_refl _) (.cells #[.int .u32 a, .int .i64 n] 30)
  have TA := Lib.hid (hT.below ba)
  have p0 := Lib.hid (aid.new2a w (.int .u32 a) (.int .i64 n) 30)
  have p1 := Lib.hid (aid.new2b w (.int .u32 a) (.int .i64 n) 30)
  have KA := Lib.hid (Kept.of_below (may := own t T) ba)
  have SZ := Lib.hid (show (w.alloc (.cells #[.int .u32 a, .int .i64 n] 30)).heap.size = w.heap.size + 1 by simp)
  have HA := Lib.hid (And.intro h0 h1)
  have LT := Lib.hid (fun x (hx : own t T x) => hT.lt hx)
  clear h0 h1 hT ba
  go_enter Try.func40, Try.ntmps40
  go_wp2_with fail
  go_loopw [5, 6] (fun nv iv wr => ∃ (k : Nat) (T' : Tr) (L : Addr), k ≤ n ∧ iv = .int .i64 k ∧ nv = .pointer (some L) ∧ Hid (link t T' a k = some L) ∧ Hid (Tri wr t T' m c) ∧ Hid (∀ σ, T'.get σ = T.get σ) ∧ Hid (∀ x, x ∈ T'.blocks → x ∈ T.blocks ∨ w.heap.size + 1 ≤ x) ∧ Hid (∀ ρ, T'.sub ρ ≠ .nil → T.sub ρ ≠ .nil ∨ ρ.length ≤ n) ∧ Hid (Kept (own t T) w wr) ∧ Hid (w.heap.size < wr.heap.size) ∧ Hid (wr.cell? ⟨w.heap.size, 0, none⟩ = some (.int .u32 a)) ∧ Hid (wr.cell? ⟨w.heap.size, 1, none⟩ = some (.int .i64 n))) (fun _ iv _ => n - (intOf iv).toNat)
  case atStart => exact ⟨0, T, ⟨t, 0, none⟩, by omega, rfl, rfl, Lib.hid rfl, TA, Lib.hid (fun _ => rfl), Lib.hid (fun x hx => .inl hx), Lib.hid (fun ρ h => .inl h), KA, Lib.hid (by rw [SZ.out]; omega), p0, p1⟩
  case round =>
    obtain ⟨k, T', L, hk, rfl, rfl, hl, hTr, hg, hbl, hdp, hkp, hsz, q0, q1⟩ := hrel
    have hlc := link_cell hTr.out hl.out
    obtain ⟨lc, lf, lo, llt⟩ := hlc
    have LO := Lib.hid lo
    cases hs : T'.sub (path a k) with
    | nil =>
      obtain ⟨T2, g1, g2, g3, g4, g5, g6⟩ := graft hTr.out hl.out hs (.int .i64 0) 75
      rw [hs] at lc
      rw [show Tr.ptr .nil = Value.pointer none from rfl] at lc
      have lB : L.block ≠ wr.heap.size := by omega
      have lc2 := aid.ca (.cells #[.pointer none, .pointer none, .int .i64 0, .bool false] 75) lc
      have G1 := Lib.hid g1
      have G2 := Lib.hid g2
      have G3 := Lib.hid (fun σ => (g3 σ).trans (hg.out σ))
      have G4 := Lib.hid (show ∀ x, x ∈ T2.blocks → x ∈ T.blocks ∨ w.heap.size + 1 ≤ x from fun x hx => by
        have := hsz.out
        rcases g4 x hx with h | h
        · exact hbl.out x h
        · right; omega)
      have G5 := Lib.hid g5
      have G6 := Lib.hid (show ∀ ρ, T2.sub ρ ≠ .nil → T.sub ρ ≠ .nil ∨ ρ.length ≤ n from fun ρ hρ => (g6 ρ hρ).elim (fun h => hdp.out ρ h) (fun h => .inr (by omega)))
      have lf2 : (wr.alloc (.cells #[.pointer none, .pointer none, .int .i64 0, .bool false] 75)).frozen? L = false := (World.frozen?_of_block (w := wr) (Below.heap_alloc _ _ _ llt)).trans lf
      have hLne : w.heap.size ≠ L.block := by
        intro e
        rcases lo with h | h
        · have := LT.out t (.inl rfl); omega
        · rcases hbl.out _ h with h | h
          · have := LT.out _ (.inr h); omega
          · omega
      have hLk : own t T L.block ∨ w.heap.size ≤ L.block := by
        rcases lo with h | h
        · exact .inl (.inl h)
        · rcases hbl.out _ h with h | h
          · exact .inl (.inr h)
          · exact .inr (by omega)
      have cV := World.cell?_setCell_same (a := L) _ (v := .pointer (some ⟨wr.heap.size, 0, none⟩)) lc2
      have KV := Lib.hid ((hkp.out.then ((Below.refl _ _).alloc (Nat.le_refl _) (.cells #[.pointer none, .pointer none, .int .i64 0, .bool false] 75))).setCell hLk (.pointer (some ⟨wr.heap.size, 0, none⟩)))
      have qV0 := (World.cell?_setCell_other _ L ⟨w.heap.size, 0, none⟩ (.pointer (some ⟨wr.heap.size, 0, none⟩)) (fun e => hLne (by rw [e]))).trans (aid.ca (.cells #[.pointer none, .pointer none, .int .i64 0, .bool false] 75) q0.out)
      have qV1 := (World.cell?_setCell_other _ L ⟨w.heap.size, 1, none⟩ (.pointer (some ⟨wr.heap.size, 0, none⟩)) (fun e => hLne (by rw [e]))).trans (aid.ca (.cells #[.pointer none, .pointer none, .int .i64 0, .bool false] 75) q1.out)
      have SV := Lib.hid (show w.heap.size < ((wr.alloc (.cells #[.pointer none, .pointer none, .int .i64 0, .bool false] 75)).setCell L (.pointer (some ⟨wr.heap.size, 0, none⟩))).heap.size by have := hsz.out; simp [World.setCell]; omega)
      obtain ⟨B, hB⟩ : ∃ B, B = wr.heap.size := ⟨_, rfl⟩
      obtain ⟨V, hV⟩ : ∃ V, V = (wr.alloc (.cells #[.pointer none, .pointer none, .int .i64 0, .bool false] 75)).setCell L (.pointer (some ⟨wr.heap.size, 0, none⟩)) := ⟨_, rfl⟩
      have HV := Lib.hid hV
      have HB := Lib.hid hB
      rw [← hV] at KV SV G1
      rw [← hB] at G2
      have cK := fun s : aid.Keep V => aid.keep_cell (hV ▸ cV) s
      have qK0 := fun s : aid.Keep V => aid.keep_cell (hV ▸ qV0) s
      rw [← hB] at cK
      have HV0 := Lib.hid (hV ▸ qV0 : V.cell? ⟨w.heap.size, 0, none⟩ = some (.int .u32 a))
      have HV1 := Lib.hid (hV ▸ qV1 : V.cell? ⟨w.heap.size, 1, none⟩ = some (.int .i64 n))
      clear g1 g2 g3 g4 g5 g6 hV hB lo hs hLne hLk hl hTr hg hbl hdp hkp hsz q0 q1 LO lB
      by_cases hkn : k = n
      · subst hkn
        go_wp2_with fail
        rw [← HV.out, ← HB.out]
        go_ret
        exact ⟨T2, B, _, _, _, _, rfl, G1.out, G2.out, G3.out, fun x hx => (G4.out x hx).imp id (fun h => by omega), KV.out, G6.out⟩
      · have hi : ((k : Int) == (n : Int)) = false := by
          have : (k : Int) ≠ (n : Int) := by omega
          simpa using this
        have KB := Lib.hid (fun W => ip1.bit_turn a k W HA.out.1 HA.out.2)
        have hnx : ∀ _ : Nat, link t T2 a (k + 1) = some ⟨B, if turn a k then 1 else 0, none⟩ := fun _ => by simp only [link, G2.out]
        have hkn2 : k + 1 ≤ n := by omega
        cases htn : turn a k
        · rw [htn] at KB hnx
          simp only [Bool.false_eq_true, if_false] at KB hnx
          have HX := Lib.hid (hnx 0)
          clear htn hnx hkn
          go_wp2_with fail
          rw [← HV.out]
          refine aid.wp_region_keep (by kernel_rfl) (by kernel_rfl) ?_
          repeat (go_big_quiet_step ((go_at_call 42; (with_reducible exact aid.keep_same (KB.out _)))))
          refine wpQuiet_nil ?_
          rintro _ ⟨s, rfl⟩
          go_wp2_with fail
          go_roundw
          case rel => exact ⟨k + 1, T2, _, hkn2, by go_num, rfl, Lib.hid HX.out, Lib.hid (G1.out.below s.below), G3, G4, G6, Lib.hid (KV.out.then s.below), Lib.hid (Nat.lt_of_lt_of_le SV.out s.below.size), Lib.hid (aid.keep_cell HV0.out s), Lib.hid (aid.keep_cell HV1.out s)⟩
          case measure => simp [intOf]; omega
        · rw [htn] at KB hnx
          simp only [if_true] at KB hnx
          have HX := Lib.hid (hnx 0)
          clear htn hnx hkn
          go_wp2_with fail
          rw [← HV.out]
          refine aid.wp_region_keep (by kernel_rfl) (by kernel_rfl) ?_
          repeat (go_big_quiet_step ((go_at_call 42; (with_reducible exact aid.keep_same (KB.out _)))))
          refine wpQuiet_nil ?_
          rintro _ ⟨s, rfl⟩
          go_wp2_with fail
          go_roundw
          case rel => exact ⟨k + 1, T2, _, hkn2, by go_num, rfl, Lib.hid HX.out, Lib.hid (G1.out.below s.below), G3, G4, G6, Lib.hid (KV.out.then s.below), Lib.hid (Nat.lt_of_lt_of_le SV.out s.below.size), Lib.hid (aid.keep_cell HV0.out s), Lib.hid (aid.keep_cell HV1.out s)⟩
          case measure => simp [intOf]; omega
    | node b l r v hh =>
      rw [hs] at lc
      rw [show Tr.ptr (.node b l r v hh) = Value.pointer (some ⟨b, 0, none⟩) from rfl] at lc
      have G2 := Lib.hid hs
      have q2 := q0.out
      have q3 := q1.out
      have cK := fun s : aid.Keep wr => aid.keep_cell lc s
      have qK0 := fun s : aid.Keep wr => aid.keep_cell q2 s
      clear hs lo
      by_cases hkn : k = n
      · subst hkn
        go_wp2_with fail
        go_ret
        exact ⟨T', b, _, _, _, _, rfl, hTr.out, G2.out, hg.out, fun x hx => (hbl.out x hx).imp id (fun h => by omega), hkp.out, hdp.out⟩
      · have hi : ((k : Int) == (n : Int)) = false := by
          have : (k : Int) ≠ (n : Int) := by omega
          simpa using this
        have KB := Lib.hid (fun W => ip1.bit_turn a k W HA.out.1 HA.out.2)
        have hnx : ∀ _ : Nat, link t T' a (k + 1) = some ⟨b, if turn a k then 1 else 0, none⟩ := fun _ => by simp only [link, G2.out]
        have hkn2 : k + 1 ≤ n := by omega
        cases htn : turn a k
        · rw [htn] at KB hnx
          simp only [Bool.false_eq_true, if_false] at KB hnx
          have HX := Lib.hid (hnx 0)
          clear htn hnx hkn
          go_wp2_with fail
          refine aid.wp_region_keep (by kernel_rfl) (by kernel_rfl) ?_
          repeat (go_big_quiet_step ((go_at_call 42; (with_reducible exact aid.keep_same (KB.out _)))))
          refine wpQuiet_nil ?_
          rintro _ ⟨s, rfl⟩
          go_wp2_with fail
          go_roundw
          case rel => exact ⟨k + 1, T', _, hkn2, by go_num, rfl, Lib.hid HX.out, Lib.hid (hTr.out.below s.below), hg, hbl, hdp, Lib.hid (hkp.out.then s.below), Lib.hid (Nat.lt_of_lt_of_le hsz.out s.below.size), Lib.hid (aid.keep_cell q0.out s), Lib.hid (aid.keep_cell q1.out s)⟩
          case measure => simp [intOf]; omega
        · rw [htn] at KB hnx
          simp only [if_true] at KB hnx
          have HX := Lib.hid (hnx 0)
          clear htn hnx hkn
          go_wp2_with fail
          refine aid.wp_region_keep (by kernel_rfl) (by kernel_rfl) ?_
          repeat (go_big_quiet_step ((go_at_call 42; (with_reducible exact aid.keep_same (KB.out _)))))
          refine wpQuiet_nil ?_
          rintro _ ⟨s, rfl⟩
          go_wp2_with fail
          go_roundw
          case rel => exact ⟨k + 1, T', _, hkn2, by go_num, rfl, Lib.hid HX.out, Lib.hid (hTr.out.below s.below), hg, hbl, hdp, Lib.hid (hkp.out.then s.below), Lib.hid (Nat.lt_of_lt_of_le hsz.out s.below.size), Lib.hid (aid.keep_cell q0.out s), Lib.hid (aid.keep_cell q1.out s)⟩
          case measure => simp [intOf]; omega
end Go.Proofs.Ytfealajbibofiaa.trput
