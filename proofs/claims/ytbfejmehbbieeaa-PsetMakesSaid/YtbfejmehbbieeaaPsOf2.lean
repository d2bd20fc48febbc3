import Derived.Test.YtbfejmehbbieeaaPsOf1
import Derived.Deep.AppendLies
/- Package pset: Of. -/
set_option linter.unusedVariables false
set_option linter.unusedSimpArgs false
namespace Go.Proofs.Ytbfejmehbbieeaa.psof
open Go.RowKit Go.Shelf Go.Lib Go.Sort Go.Proofs.Ytbfejmehbbieeaa.math1 Go.Proofs.Ytbfejmehbbieeaa.pscmp Go.Proofs.Ytbfejmehbbieeaa.psfind Go.Proofs.Ytbfejmehbbieeaa.pssort Go.Proofs.Ytbfejmehbbieeaa.psuniq Go.Proofs.Ytbfejmehbbieeaa.pscompact

theorem infoPfx : (Try.prog.info? 26).map (fun i => (i.zero, i.size, i.bytes)) = some (some (.agg #[.int .u32 0, .int .i64 0]), 2, 16) := by kernel_rfl

/-- the cells of a row -/
def fl (d : Array P2) : List Value := (flatK enc 2 d).toList
theorem fl_len (d : Array P2) : (fl d).length = d.size * 2 := by
  unfold fl
  rw [Array.length_toList, size_flatK]
theorem fl_get (d : Array P2) (j : Nat) (hj : j < d.size * 2) : (fl d)[j]? = some (enc d[j / 2]!)[j % 2]! := by
  have h : j < (flatK enc 2 d).size := by rw [size_flatK]; exact hj
  unfold fl
  rw [Array.getElem?_toList, Array.getElem?_eq_getElem h, ← getElem!_pos (flatK enc 2 d) j h, get_flatK _ _ _ _ hj]
theorem fl_one (d : Array P2) : ∀ u ∈ fl d, u.oneCell' = true := by
  intro u hu
  obtain ⟨j, hj, e⟩ := List.mem_iff_getElem.1 hu
  have hj2 : j < d.size * 2 := by rw [← fl_len]; exact hj
  have h := fl_get d j hj2
  rw [List.getElem?_eq_getElem hj, e] at h
  rw [Option.some.inj h]
  have : j % 2 = 0 ∨ j % 2 = 1 := by omega
  rcases this with f | f <;> rw [f] <;> rfl
theorem fl_row {w : World} {b o : Nat} {d : Array P2} (h : Row w b o d) : ∀ j u, (fl d)[j]? = some u → w.cell? ((⟨b, o, none⟩ : Addr).add j) = some u := by
  intro j u hu
  have hj : j < d.size * 2 := by
    rw [← fl_len]
    exact (List.getElem?_eq_some_iff.1 hu).1
  rw [fl_get d j hj] at hu
  rw [Addr.add_mid]
  have r := h (j / 2) (by omega)
  have : j % 2 = 0 ∨ j % 2 = 1 := by omega
  rcases this with f | f
  · rw [show o + j = o + j / 2 * 2 by omega, r.1, ← hu, f]; rfl
  · rw [show o + j = o + j / 2 * 2 + 1 by omega, r.2, ← hu, f]; rfl
theorem holds_of_own {w : World} {base g n cap : Nat} {e : TypeId} {d : Array P2} (h : w.ownsRow base e 2 (.slice (some ⟨g, 0, none⟩) n cap) n (fl d)) :
    d.size = n ∧ HoldsK enc 2 w g 0 d ∧ n ≤ cap ∧ g < w.heap.size ∧ base ≤ g := by
  have hl : d.size = n := by
    have := h.1
    rw [fl_len] at this
    omega
  have hf : ∀ j, w.frozen? ⟨g, j, none⟩ = false ∧ n ≤ cap ∧ g < w.heap.size ∧ base ≤ g := by
    rcases h.2 with ⟨h1, _⟩ | ⟨g', cap', cur, hv, hb, hh, hc, _⟩
    · cases h1
    · cases hv
      exact fun j => ⟨by unfold World.frozen?; rw [hh]; simp, hc, (Array.getElem?_eq_some_iff.1 hh).1, hb⟩
  refine ⟨hl, fun j hj => ⟨?_, by rw [Nat.zero_add]; exact (hf j).1⟩, (hf 0).2⟩
  have hj2 : j < d.size * 2 := by rw [size_flatK] at hj; exact hj
  rw [Nat.zero_add, h.cellAt j (by omega), fl_get d j hj2, get_flatK _ _ _ _ hj2]
  rfl

theorem Row.far {W : World} {b o : Nat} {d : Array P2} (h : Row W b o d) {p : Addr} (hp : p.block ≠ b) (v : Value) : Row (W.setCell p v) b o d := fun k hk =>
  ⟨(World.cell?_setCell_far W p ⟨b, o + k * 2, none⟩ v hp).trans (h k hk).1, (World.cell?_setCell_far W p ⟨b, o + k * 2 + 1, none⟩ v hp).trans (h k hk).2⟩
/-- all is in its form -/
def AllOk (d : Array P2) : Prop := ∀ j, j < d.size → rightB d[j]!.1 d[j]!.2 = true
def AllU (d : Array P2) : Prop := ∀ j, j < d.size → 0 ≤ d[j]!.1 ∧ d[j]!.1 < 4294967296

theorem of_nil (w : World) : Calls Try.prog 10 #[.slice none 0 0] w fun e w' => e = .returned (.tuple #[.agg #[.slice none 0 0], .int .i64 0]) ∧ Below w.heap.size w w' := by
  have K1 := Lib.hid sort_nil
  have K2 := Lib.hid compact_nil
  have K3 := Lib.hid (fun W => bounded_ok (.slice none 0 0) W 0 (.inl ⟨rfl, rfl⟩) (by decide))
  go_enter Try.func10, Try.ntmps10
  go_wp2_with fail
  go_loopw [14] (fun iv wr => iv = .int .i64 0 ∧ wr.cell? ⟨w.heap.size, 0, none⟩ = some (.slice none 0 0) ∧ wr.frozen? ⟨w.heap.size, 0, none⟩ = false ∧ w.heap.size < wr.heap.size ∧ Hid (Below w.heap.size w wr)) (fun iv _ => 0)
  case atStart => exact ⟨rfl, by go_simp, by go_simp, by simp, (Below.refl _ _).alloc (Nat.le_refl _) _⟩
  case round =>
    obtain ⟨rfl, c0, f0, hlt0, B⟩ := hrel
    go_wp2_with fail
    refine (K1.out _).mono ?_
    rintro e w1 ⟨rfl, rfl⟩
    go_wp2_with fail
    refine (K2.out _).mono ?_
    rintro e w1 ⟨rfl, rfl⟩
    go_wp2_with fail
    refine (K3.out _).mono ?_
    rintro e w1 ⟨rfl, hb⟩
    have c1 := aid.kc hb c0
    have f1 := (hb.frozen (p := ⟨w.heap.size, 0, none⟩) hlt0).trans f0
    have hB := Lib.hid (aid.kb hb B.out)
    clear hb
    go_wp2_with fail
    refine bodyPost_ret (v := .tuple #[.agg #[.slice none 0 0], .int .i64 0]) (by simp [results, Try.results10, go_sem, c1]) rfl ⟨rfl, ?_⟩
    have hBo := hB.out
    repeat (refine Below.setCell ?_ (by simp) _)
    exact hBo

theorem of_empty (a : Addr) (cap : Nat) (w : World) : Calls Try.prog 10 #[.slice (some a) 0 cap] w fun e w' => e = .returned (.tuple #[.agg #[.slice none 0 0], .int .i64 0]) ∧ Below w.heap.size w w' := by
  have K1 := Lib.hid sort_nil
  have K2 := Lib.hid compact_nil
  have K3 := Lib.hid (fun W => bounded_ok (.slice none 0 0) W 0 (.inl ⟨rfl, rfl⟩) (by decide))
  go_enter Try.func10, Try.ntmps10
  go_wp2_with fail
  go_loopw [14] (fun iv wr => iv = .int .i64 0 ∧ wr.cell? ⟨w.heap.size, 0, none⟩ = some (.slice none 0 0) ∧ wr.frozen? ⟨w.heap.size, 0, none⟩ = false ∧ w.heap.size < wr.heap.size ∧ Hid (Below w.heap.size w wr)) (fun iv _ => 0)
  case atStart => exact ⟨rfl, by go_simp, by go_simp, by simp, (Below.refl _ _).alloc (Nat.le_refl _) _⟩
  case round =>
    obtain ⟨rfl, c0, f0, hlt0, B⟩ := hrel
    go_wp2_with fail
    refine (K1.out _).mono ?_
    rintro e w1 ⟨rfl, rfl⟩
    go_wp2_with fail
    refine (K2.out _).mono ?_
    rintro e w1 ⟨rfl, rfl⟩
    go_wp2_with fail
    refine (K3.out _).mono ?_
    rintro e w1 ⟨rfl, hb⟩
    have c1 := aid.kc hb c0
    have f1 := (hb.frozen (p := ⟨w.heap.size, 0, none⟩) hlt0).trans f0
    have hB := Lib.hid (aid.kb hb B.out)
    clear hb
    go_wp2_with fail
    refine bodyPost_ret (v := .tuple #[.agg #[.slice none 0 0], .int .i64 0]) (by simp [results, Try.results10, go_sem, c1]) rfl ⟨rfl, ?_⟩
    have hBo := hB.out
    repeat (refine Below.setCell ?_ (by simp) _)
    exact hBo

set_option maxRecDepth 100000 in
set_option maxHeartbeats 1000000 in
theorem of_bad (b o cap : Nat) (d : Array P2) (w : World) (hR : Row w b o d) (hsz : d.size ≤ 16384) (hu : AllU d) (hbad : ¬ AllOk d) :
    Calls Try.prog 10 #[.slice (some ⟨b, o, none⟩) d.size cap] w fun e w' => e = .returned (.tuple #[.agg #[.slice none 0 0], .int .i64 1]) ∧ Below w.heap.size w w' := by
  obtain ⟨n, hnn⟩ : ∃ n, n = d.size := ⟨_, rfl⟩
  rw [← hnn] at hsz ⊢
  have HN := Lib.hid hnn
  have HR := Lib.hid hR
  have HU := Lib.hid hu
  have HB := Lib.hid hbad
  clear hnn hR hu hbad
  go_enter Try.func10, Try.ntmps10
  go_wp2_with fail
  go_loopw [14] (fun iv wr => ∃ k : Nat, k ≤ n ∧ iv = .int .i64 k ∧ Hid (∀ j, j < k → rightB d[j]!.1 d[j]!.2 = true) ∧ Hid (Row wr b o d) ∧ wr.cell? ⟨w.heap.size, 0, none⟩ = some (.slice none 0 0) ∧ wr.frozen? ⟨w.heap.size, 0, none⟩ = false ∧ w.heap.size < wr.heap.size ∧ Hid (Below w.heap.size w wr)) (fun iv _ => n - (intOf iv).toNat)
  case atStart => exact ⟨0, by omega, rfl, fun j hj => absurd hj (Nat.not_lt_zero j), Lib.hid (HR.out.below ((Below.refl _ _).alloc (Nat.le_refl _) _)), by go_simp, by go_simp, by simp, (Below.refl _ _).alloc (Nat.le_refl _) _⟩
  case round =>
    obtain ⟨k, hk, rfl, A, R, c0, f0, hlt0, B⟩ := hrel
    by_cases hlt : k < n
    · have hd : k < d.size := by rw [← HN.out]; exact hlt
      have k0 := (R.out k hd).1
      have k1 := (R.out k hd).2
      obtain ⟨⟨x1, x2⟩, hx⟩ : ∃ x, x = d[k]! := ⟨_, rfl⟩
      have hxu := HU.out k hd
      rw [← hx] at k0 k1 hxu
      dsimp only at k0 k1 hxu
      have K := Lib.hid (fun W => ip1.check_any x1 x2 W hxu.1 hxu.2)
      have HX := Lib.hid hx
      clear hx hxu
      have CA := fun o' : Obj => aid.ca o' c0
      have FA := fun o' : Obj => (((Below.refl wr.heap.size wr).alloc (Nat.le_refl _) o').frozen (p := ⟨w.heap.size, 0, none⟩) hlt0).trans f0
      cases hr : rightB x1 x2
      · rw [hr] at K
        simp only [Bool.false_eq_true, if_false] at K
        go_wp2_with fail
        refine (K.out _).mono ?_
        rintro e w1 ⟨rfl, hb⟩
        have c1 := aid.kc hb (CA (.cells #[.int .u32 x1, .int .i64 x2] 26))
        have f1 := (hb.frozen (p := ⟨w.heap.size, 0, none⟩) (by simp; omega)).trans (FA (.cells #[.int .u32 x1, .int .i64 x2] 26))
        have hB := Lib.hid (aid.kb hb (aid.kba B.out (.cells #[.int .u32 x1, .int .i64 x2] 26)))
        have hlt1 : w.heap.size < w1.heap.size := by have := hb.size; simp at this; omega
        clear hb CA FA
        go_wp2_with fail
        refine bodyPost_ret (v := .tuple #[.agg #[.slice none 0 0], .int .i64 1]) (by simp [results, Try.results10, go_sem, c1]) rfl ⟨rfl, ?_⟩
        have hBo := hB.out
        repeat (refine Below.setCell ?_ (by simp) _)
        exact hBo
      · rw [hr] at K
        simp only [if_true] at K
        have A2 := Lib.hid (show ∀ j, j < k + 1 → rightB d[j]!.1 d[j]!.2 = true from fun j hj => by
          by_cases ej : j = k
          · rw [ej, ← HX.out]; exact hr
          · exact A.out j (by omega))
        clear hr
        go_wp2_with fail
        refine (K.out _).mono ?_
        rintro e w1 ⟨rfl, hb⟩
        have c1 := aid.kc hb (CA (.cells #[.int .u32 x1, .int .i64 x2] 26))
        have f1 := (hb.frozen (p := ⟨w.heap.size, 0, none⟩) (by simp; omega)).trans (FA (.cells #[.int .u32 x1, .int .i64 x2] 26))
        have R1 := Lib.hid ((R.out.below ((Below.refl wr.heap.size wr).alloc (Nat.le_refl _) (.cells #[.int .u32 x1, .int .i64 x2] 26))).below hb)
        have hB := Lib.hid (aid.kb hb (aid.kba B.out (.cells #[.int .u32 x1, .int .i64 x2] 26)))
        have hlt1 : w.heap.size < w1.heap.size := by have := hb.size; simp at this; omega
        clear hb CA FA
        go_wp2_with fail
        go_roundw
        case rel => exact ⟨k + 1, by omega, by go_num, A2, R1, c1, f1, hlt1, hB⟩
        case measure => simp [intOf]; omega
    · have hk' : k = n := by omega
      exact absurd (fun j hj => A.out j (by rw [hk', HN.out]; exact hj)) HB.out
set_option maxRecDepth 100000 in
set_option maxHeartbeats 1000000 in
theorem of_ok (b o cap : Nat) (d : Array P2) (w : World) (hR : Row w b o d) (hsz : d.size ≤ 16384) (hu : AllU d) (hok : AllOk d) (hpos : 0 < d.size) (hm : (mk d).size ≤ 4096) :
    Calls Try.prog 10 #[.slice (some ⟨b, o, none⟩) d.size cap] w fun e w' => (∃ s, e = .returned (.tuple #[.agg #[s], .int .i64 0]) ∧ IsRow w' s (mk d)) ∧ Below w.heap.size w w' := by
  obtain ⟨n, hnn⟩ : ∃ n, n = d.size := ⟨_, rfl⟩
  obtain ⟨ip0, hi, hz0, hz1, hz2⟩ : ∃ i, Try.prog.info? 26 = some i ∧ i.zero = some (.agg #[.int .u32 0, .int .i64 0]) ∧ i.size = 2 ∧ i.bytes = 16 := by
    have h := infoPfx
    cases h2 : Try.prog.info? 26 with
    | none => rw [h2] at h; cases h
    | some i => rw [h2] at h; simp at h; exact ⟨i, rfl, h.1, h.2.1, h.2.2⟩
  have KB := Lib.hid (fun (W : World) (g c : Nat) => bounded_ok (.slice (some ⟨g, 0, none⟩) (mk d).size c) W (mk d).size (.inr ⟨_, _, rfl⟩) hm)
  have F3 := Lib.hid (hpos)
  rw [← hnn] at hsz hpos ⊢
  have HN := Lib.hid hnn
  have HR := Lib.hid hR
  have HU := Lib.hid hu
  have HOK := Lib.hid hok
  have I1 := Lib.hid hi
  have I2 := Lib.hid hz0
  have I3 := Lib.hid hz1
  have I4 := Lib.hid hz2
  clear hnn hR hu hok hi hz0 hz1 hz2
  go_enter Try.func10, Try.ntmps10
  go_wp2_with fail
  go_loopw [14] (fun iv wr => ∃ k : Nat, k ≤ n ∧ iv = .int .i64 k ∧ Hid (∀ j, j < k → rightB d[j]!.1 d[j]!.2 = true) ∧ Hid (Row wr b o d) ∧ wr.cell? ⟨w.heap.size, 0, none⟩ = some (.slice none 0 0) ∧ wr.frozen? ⟨w.heap.size, 0, none⟩ = false ∧ w.heap.size < wr.heap.size ∧ Hid (Below w.heap.size w wr)) (fun iv _ => n - (intOf iv).toNat)
  case atStart => exact ⟨0, by omega, rfl, fun j hj => absurd hj (Nat.not_lt_zero j), Lib.hid (HR.out.below ((Below.refl _ _).alloc (Nat.le_refl _) _)), by go_simp, by go_simp, by simp, (Below.refl _ _).alloc (Nat.le_refl _) _⟩
  case round =>
    obtain ⟨k, hk, rfl, A, R, c0, f0, hlt0, B⟩ := hrel
    by_cases hlt : k < n
    · have hd : k < d.size := by rw [← HN.out]; exact hlt
      have k0 := (R.out k hd).1
      have k1 := (R.out k hd).2
      obtain ⟨⟨x1, x2⟩, hx⟩ : ∃ x, x = d[k]! := ⟨_, rfl⟩
      have hxu := HU.out k hd
      rw [← hx] at k0 k1 hxu
      dsimp only at k0 k1 hxu
      have K := Lib.hid (fun W => ip1.check_any x1 x2 W hxu.1 hxu.2)
      have HX := Lib.hid hx
      clear hx hxu
      have CA := fun o' : Obj => aid.ca o' c0
      have FA := fun o' : Obj => (((Below.refl wr.heap.size wr).alloc (Nat.le_refl _) o').frozen (p := ⟨w.heap.size, 0, none⟩) hlt0).trans f0
      have hr : rightB x1 x2 = true := by
        have := HOK.out k hd
        rw [← HX.out] at this
        exact this
      rw [hr] at K
      simp only [if_true] at K
      have A2 := Lib.hid (show ∀ j, j < k + 1 → rightB d[j]!.1 d[j]!.2 = true from fun j hj => by
        by_cases ej : j = k
        · rw [ej, ← HX.out]; exact hr
        · exact A.out j (by omega))
      clear hr
      go_wp2_with fail
      refine (K.out _).mono ?_
      rintro e w1 ⟨rfl, hb⟩
      have c1 := aid.kc hb (CA (.cells #[.int .u32 x1, .int .i64 x2] 26))
      have f1 := (hb.frozen (p := ⟨w.heap.size, 0, none⟩) (by simp; omega)).trans (FA (.cells #[.int .u32 x1, .int .i64 x2] 26))
      have R1 := Lib.hid ((R.out.below ((Below.refl wr.heap.size wr).alloc (Nat.le_refl _) (.cells #[.int .u32 x1, .int .i64 x2] 26))).below hb)
      have hB := Lib.hid (aid.kb hb (aid.kba B.out (.cells #[.int .u32 x1, .int .i64 x2] 26)))
      have hlt1 : w.heap.size < w1.heap.size := by have := hb.size; simp at this; omega
      clear hb CA FA
      go_wp2_with fail
      go_roundw
      case rel => exact ⟨k + 1, by omega, by go_num, A2, R1, c1, f1, hlt1, hB⟩
      case measure => simp [intOf]; omega
    · have hk' : k = n := by omega
      subst hk'
      have NW := Lib.hid (fl_row R.out)
      have hws : w.heap.size ≤ wr.heap.size := by omega
      go_wp2_with (at_builtin; refine wpList_append_lies _ rfl (.tmp 25) (.tmp 26) 22 rfl w.heap.size 26 ip0 (.agg #[.int .u32 0, .int .i64 0]) 2 16 Try.underlying22 I1.out I2.out I3.out I4.out rfl (by decide) _ 0 [] rfl (World.ownsRow_nil _ _ _ _) ⟨b, o, none⟩ k cap (fl d) rfl ?c1 NW.out (fl_one d) ?c3 ?c4 ?c5 ?c6 _ rfl ?_)
      case c1 => rw [fl_len, HN.out]
      case c3 => exact hpos
      case c4 => unfold maxLen; omega
      case c5 => omega
      case c6 => exact hws
      intro g cap' w1 hown hgrow hat hlt'
      obtain rfl : g = wr.heap.size := by
        rcases hat with h | h
        · simp [Value.ownBlock] at h
        · exact h
      have b1 : Below wr.heap.size wr w1 := (Below.refl wr.heap.size wr).grown hgrow (Nat.le_refl _) (by intro k hk; simp [Value.ownBlock] at hk)
      obtain ⟨_, hH, hcap, _, _⟩ := holds_of_own hown
      have S1 := pssort.sort_any wr.heap.size 0 cap' d w1 hH hlt' (by rw [← HN.out]; omega)
      rw [← HN.out] at S1
      have HS := Lib.hid S1
      have B1 := Lib.hid b1
      have L1 := Lib.hid (show k ≤ cap' from hcap)
      clear hown hgrow hat hH hcap b1 S1 NW
      go_wp2_with fail
      refine HS.out.mono ?_
      rintro e w2 ⟨rfl, hH2, hb2, hsame⟩
      have B2 := Lib.hid (B1.out.trans hb2)
      have L2 := Lib.hid (show wr.heap.size < w2.heap.size from Nat.lt_of_lt_of_le hlt' hb2.size)
      have C2 := pscompact.compact_any wr.heap.size 0 cap' (sorted d) w2 hH2 (by have := hb2.size; omega) (by rw [sorted_size, ← HN.out]; exact L1.out) (by rw [sorted_size, ← HN.out]; omega)
      rw [sorted_size, ← HN.out] at C2
      have HC := Lib.hid C2
      clear hH2 hb2 hsame C2
      go_wp2_with fail
      refine HC.out.mono ?_
      rintro e w3 ⟨rfl, hR3, hb3⟩
      have B3 := Lib.hid (B2.out.trans hb3)
      have R3 := Lib.hid (show Row w3 wr.heap.size 0 (mk d) from hR3)
      have L3 := Lib.hid (show wr.heap.size < w3.heap.size from Nat.lt_of_lt_of_le L2.out hb3.size)
      clear hR3 hb3
      rw [show (uq (sorted d)).size = (mk d).size from rfl]
      go_wp2_with fail
      refine (KB.out _ _ _).mono ?_
      rintro e w4 ⟨rfl, hb4⟩
      have B4 := Lib.hid (aid.kb hb4 (B3.out.mono (Nat.le_refl _) |>.mono (Nat.le_refl _)))
      have c1 := (B4.out.cell (p := ⟨w.heap.size, 0, none⟩) hlt0).trans c0
      have f1 := (B4.out.frozen (p := ⟨w.heap.size, 0, none⟩) hlt0).trans f0
      have hB := Lib.hid (aid.kb B4.out B.out)
      have R4 := Lib.hid (R3.out.below hb4)
      have LW := Lib.hid (show wr.heap.size < w4.heap.size from Nat.lt_of_lt_of_le L3.out hb4.size)
      clear hb4
      go_wp2_with fail
      refine bodyPost_ret (v := .tuple #[.agg #[.slice (some ⟨wr.heap.size, 0, none⟩) (mk d).size cap'], .int .i64 0]) (by simp [results, Try.results10, go_sem, c1]) rfl ⟨⟨_, rfl, .inr ⟨_, _, _, rfl, ?_, ?_⟩⟩, ?_⟩
      · repeat (refine Row.far ?_ (by simp; omega) _)
        exact R4.out
      · have := LW.out
        simpa using this
      have hBo := hB.out
      repeat (refine Below.setCell ?_ (by simp) _)
      exact hBo
set_option maxRecDepth 100000 in
set_option maxHeartbeats 1000000 in
theorem of_many (b o cap : Nat) (d : Array P2) (w : World) (hR : Row w b o d) (hsz : d.size ≤ 16384) (hu : AllU d) (hok : AllOk d) (hpos : 0 < d.size) (hm : 4096 < (mk d).size) :
    Calls Try.prog 10 #[.slice (some ⟨b, o, none⟩) d.size cap] w fun e w' => e = .returned (.tuple #[.agg #[.slice none 0 0], .int .i64 3]) ∧ Below w.heap.size w w' := by
  obtain ⟨n, hnn⟩ : ∃ n, n = d.size := ⟨_, rfl⟩
  obtain ⟨ip0, hi, hz0, hz1, hz2⟩ : ∃ i, Try.prog.info? 26 = some i ∧ i.zero = some (.agg #[.int .u32 0, .int .i64 0]) ∧ i.size = 2 ∧ i.bytes = 16 := by
    have h := infoPfx
    cases h2 : Try.prog.info? 26 with
    | none => rw [h2] at h; cases h
    | some i => rw [h2] at h; simp at h; exact ⟨i, rfl, h.1, h.2.1, h.2.2⟩
  have KB := Lib.hid (fun (W : World) (g c : Nat) => bounded_many (.slice (some ⟨g, 0, none⟩) (mk d).size c) W (mk d).size (.inr ⟨_, _, rfl⟩) hm (by have := mk_size d; omega))
  have F3 := Lib.hid (hpos)
  rw [← hnn] at hsz hpos ⊢
  have HN := Lib.hid hnn
  have HR := Lib.hid hR
  have HU := Lib.hid hu
  have HOK := Lib.hid hok
  have I1 := Lib.hid hi
  have I2 := Lib.hid hz0
  have I3 := Lib.hid hz1
  have I4 := Lib.hid hz2
  clear hnn hR hu hok hi hz0 hz1 hz2
  go_enter Try.func10, Try.ntmps10
  go_wp2_with fail
  go_loopw [14] (fun iv wr => ∃ k : Nat, k ≤ n ∧ iv = .int .i64 k ∧ Hid (∀ j, j < k → rightB d[j]!.1 d[j]!.2 = true) ∧ Hid (Row wr b o d) ∧ wr.cell? ⟨w.heap.size, 0, none⟩ = some (.slice none 0 0) ∧ wr.frozen? ⟨w.heap.size, 0, none⟩ = false ∧ w.heap.size < wr.heap.size ∧ Hid (Below w.heap.size w wr)) (fun iv _ => n - (intOf iv).toNat)
  case atStart => exact ⟨0, by omega, rfl, fun j hj => absurd hj (Nat.not_lt_zero j), Lib.hid (HR.out.below ((Below.refl _ _).alloc (Nat.le_refl _) _)), by go_simp, by go_simp, by simp, (Below.refl _ _).alloc (Nat.le_refl _) _⟩
  case round =>
    obtain ⟨k, hk, rfl, A, R, c0, f0, hlt0, B⟩ := hrel
    by_cases hlt : k < n
    · have hd : k < d.size := by rw [← HN.out]; exact hlt
      have k0 := (R.out k hd).1
      have k1 := (R.out k hd).2
      obtain ⟨⟨x1, x2⟩, hx⟩ : ∃ x, x = d[k]! := ⟨_, rfl⟩
      have hxu := HU.out k hd
      rw [← hx] at k0 k1 hxu
      dsimp only at k0 k1 hxu
      have K := Lib.hid (fun W => ip1.check_any x1 x2 W hxu.1 hxu.2)
      have HX := Lib.hid hx
      clear hx hxu
      have CA := fun o' : Obj => aid.ca o' c0
      have FA := fun o' : Obj => (((Below.refl wr.heap.size wr).alloc (Nat.le_refl _) o').frozen (p := ⟨w.heap.size, 0, none⟩) hlt0).trans f0
      have hr : rightB x1 x2 = true := by
        have := HOK.out k hd
        rw [← HX.out] at this
        exact this
      rw [hr] at K
      simp only [if_true] at K
      have A2 := Lib.hid (show ∀ j, j < k + 1 → rightB d[j]!.1 d[j]!.2 = true from fun j hj => by
        by_cases ej : j = k
        · rw [ej, ← HX.out]; exact hr
        · exact A.out j (by omega))
      clear hr
      go_wp2_with fail
      refine (K.out _).mono ?_
      rintro e w1 ⟨rfl, hb⟩
      have c1 := aid.kc hb (CA (.cells #[.int .u32 x1, .int .i64 x2] 26))
      have f1 := (hb.frozen (p := ⟨w.heap.size, 0, none⟩) (by simp; omega)).trans (FA (.cells #[.int .u32 x1, .int .i64 x2] 26))
      have R1 := Lib.hid ((R.out.below ((Below.refl wr.heap.size wr).alloc (Nat.le_refl _) (.cells #[.int .u32 x1, .int .i64 x2] 26))).below hb)
      have hB := Lib.hid (aid.kb hb (aid.kba B.out (.cells #[.int .u32 x1, .int .i64 x2] 26)))
      have hlt1 : w.heap.size < w1.heap.size := by have := hb.size; simp at this; omega
      clear hb CA FA
      go_wp2_with fail
      go_roundw
      case rel => exact ⟨k + 1, by omega, by go_num, A2, R1, c1, f1, hlt1, hB⟩
      case measure => simp [intOf]; omega
    · have hk' : k = n := by omega
      subst hk'
      have NW := Lib.hid (fl_row R.out)
      have hws : w.heap.size ≤ wr.heap.size := by omega
      go_wp2_with (at_builtin; refine wpList_append_lies _ rfl (.tmp 25) (.tmp 26) 22 rfl w.heap.size 26 ip0 (.agg #[.int .u32 0, .int .i64 0]) 2 16 Try.underlying22 I1.out I2.out I3.out I4.out rfl (by decide) _ 0 [] rfl (World.ownsRow_nil _ _ _ _) ⟨b, o, none⟩ k cap (fl d) rfl ?c1 NW.out (fl_one d) ?c3 ?c4 ?c5 ?c6 _ rfl ?_)
      case c1 => rw [fl_len, HN.out]
      case c3 => exact hpos
      case c4 => unfold maxLen; omega
      case c5 => omega
      case c6 => exact hws
      intro g cap' w1 hown hgrow hat hlt'
      obtain rfl : g = wr.heap.size := by
        rcases hat with h | h
        · simp [Value.ownBlock] at h
        · exact h
      have b1 : Below wr.heap.size wr w1 := (Below.refl wr.heap.size wr).grown hgrow (Nat.le_refl _) (by intro k hk; simp [Value.ownBlock] at hk)
      obtain ⟨_, hH, hcap, _, _⟩ := holds_of_own hown
      have S1 := pssort.sort_any wr.heap.size 0 cap' d w1 hH hlt' (by rw [← HN.out]; omega)
      rw [← HN.out] at S1
      have HS := Lib.hid S1
      have B1 := Lib.hid b1
      have L1 := Lib.hid (show k ≤ cap' from hcap)
      clear hown hgrow hat hH hcap b1 S1 NW
      go_wp2_with fail
      refine HS.out.mono ?_
      rintro e w2 ⟨rfl, hH2, hb2, hsame⟩
      have B2 := Lib.hid (B1.out.trans hb2)
      have L2 := Lib.hid (show wr.heap.size < w2.heap.size from Nat.lt_of_lt_of_le hlt' hb2.size)
      have C2 := pscompact.compact_any wr.heap.size 0 cap' (sorted d) w2 hH2 (by have := hb2.size; omega) (by rw [sorted_size, ← HN.out]; exact L1.out) (by rw [sorted_size, ← HN.out]; omega)
      rw [sorted_size, ← HN.out] at C2
      have HC := Lib.hid C2
      clear hH2 hb2 hsame C2
      go_wp2_with fail
      refine HC.out.mono ?_
      rintro e w3 ⟨rfl, hR3, hb3⟩
      have B3 := Lib.hid (B2.out.trans hb3)
      have R3 := Lib.hid (show Row w3 wr.heap.size 0 (mk d) from hR3)
      have L3 := Lib.hid (show wr.heap.size < w3.heap.size from Nat.lt_of_lt_of_le L2.out hb3.size)
      clear hR3 hb3
      rw [show (uq (sorted d)).size = (mk d).size from rfl]
      go_wp2_with fail
      refine (KB.out _ _ _).mono ?_
      rintro e w4 ⟨rfl, hb4⟩
      have B4 := Lib.hid (aid.kb hb4 (B3.out.mono (Nat.le_refl _) |>.mono (Nat.le_refl _)))
      have c1 := (B4.out.cell (p := ⟨w.heap.size, 0, none⟩) hlt0).trans c0
      have f1 := (B4.out.frozen (p := ⟨w.heap.size, 0, none⟩) hlt0).trans f0
      have hB := Lib.hid (aid.kb B4.out B.out)
      clear hb4
      go_wp2_with fail
      refine bodyPost_ret (v := .tuple #[.agg #[.slice none 0 0], .int .i64 3]) (by simp [results, Try.results10, go_sem, c1]) rfl ⟨rfl, ?_⟩
      have hBo := hB.out
      repeat (refine Below.setCell ?_ (by simp) _)
      exact hBo

/-- OF PREFIXES ALL IN THEIR FORM, not too many -/
theorem of_set (s : Value) (d : Array P2) (w : World) (hR : IsRow w s d) (hsz : d.size ≤ 16384) (hu : AllU d) (hok : AllOk d) (hm : (mk d).size ≤ 4096) :
    Calls Try.prog 10 #[s] w fun e w' => (∃ s', e = .returned (.tuple #[.agg #[s'], .int .i64 0]) ∧ IsRow w' s' (mk d)) ∧ Below w.heap.size w w' := by
  have e0 : d.size = 0 → mk d = #[] := fun h => by
    have := mk_size d
    exact Array.eq_empty_of_size_eq_zero (by omega)
  rcases hR with ⟨rfl, rfl⟩ | ⟨b, o, cap, rfl, hR, _⟩
  · exact (of_nil w).mono fun e w' ⟨he, hb⟩ => ⟨⟨_, he, .inl ⟨rfl, e0 rfl⟩⟩, hb⟩
  · by_cases h0 : d.size = 0
    · rw [h0]
      exact (of_empty _ _ w).mono fun e w' ⟨he, hb⟩ => ⟨⟨_, he, .inl ⟨rfl, e0 h0⟩⟩, hb⟩
    · exact of_ok b o cap d w hR hsz hu hok (by omega) hm
end Go.Proofs.Ytbfejmehbbieeaa.psof
