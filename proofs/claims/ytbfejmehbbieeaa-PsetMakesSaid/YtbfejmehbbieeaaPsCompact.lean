import Derived.Test.YtbfejmehbbieeaaPsUniq
import Derived.Test.YtbfejmehbbieeaaPsEqual
import Derived.Lib.SliceRun
import Derived.Deep.MidRow
/- slices.Compact over prefixes: neighbours that are the same left out. -/
set_option linter.unusedVariables false
set_option linter.unusedSimpArgs false
namespace Go.Proofs.Ytbfejmehbbieeaa.pscompact
open Go.RowKit Go.Shelf Go.Lib Go.Sort Go.Proofs.Ytbfejmehbbieeaa.pscmp Go.Proofs.Ytbfejmehbbieeaa.psfind Go.Proofs.Ytbfejmehbbieeaa.pssort Go.Proofs.Ytbfejmehbbieeaa.psuniq Go.Proofs.Ytbfejmehbbieeaa.pseq

theorem eql_pfx (x m y n : Int) (W : World) : (binOp .eql 26 (.agg #[.int .u32 x, .int .i64 m]) (.agg #[.int .u32 y, .int .i64 n])).run Try.prog W = .ok (.bool (x == y && m == n)) W := by
  rw [run_eql_struct]
  go_simp
  by_cases h1 : x = y
  · by_cases h2 : m = n <;> simp [h1, h2, go_sem]
  · by_cases h2 : m = n <;> simp [h1, h2, go_sem]

theorem row_of_holds {w : World} {b o : Nat} {d : Array P2} (h : HoldsK enc 2 w b o d) : Row w b o d := fun k hk => ⟨(h.cell (c := 0) hk (by decide)).1, (h.cell (c := 1) hk (by decide)).1⟩
theorem holds_below {w w' : World} {B b o : Nat} {d : Array P2} (h : HoldsK enc 2 w b o d) (hb : Below B w w') (hB : b < B) : HoldsK enc 2 w' b o d := by
  intro j hj
  obtain ⟨h1, h2⟩ := h j hj
  exact ⟨(hb.cell (p := ⟨b, o + j, none⟩) hB).trans h1, (hb.frozen (p := ⟨b, o + j, none⟩) hB).trans h2⟩

theorem get_set_same {d : Array P2} {i : Nat} (hi : i < d.size) (x : P2) : (d.set! i x)[i]! = x := by
  have h : i < (d.set! i x).size := by simpa using hi
  rw [getElem!_pos _ i h]
  simp
theorem get_set_ne {d : Array P2} {i j : Nat} (hne : i ≠ j) (x : P2) : (d.set! i x)[j]! = d[j]! := by
  by_cases hj : j < d.size
  · have h : j < (d.set! i x).size := by simpa using hj
    rw [getElem!_pos _ j h, getElem!_pos _ j hj]
    simp only [Array.set!_eq_setIfInBounds]
    rw [Array.getElem_setIfInBounds hj, if_neg hne]
  · have h : ¬ j < (d.set! i x).size := by simpa using hj
    rw [getElem!_neg _ j h, getElem!_neg _ j hj]
theorem sc_ne (w : World) (b i j : Nat) (v : Value) (h : i ≠ j) : (w.setCell ⟨b, i, none⟩ v).cell? ⟨b, j, none⟩ = w.cell? ⟨b, j, none⟩ := World.cell?_setCell_other _ _ _ _ (fun e => h (by cases e; rfl))
/-- one element of a row, written anew -/
theorem holds_set {w : World} {b o : Nat} {d : Array P2} (h : HoldsK enc 2 w b o d) {i : Nat} (hi : i < d.size) (x : P2) :
    HoldsK enc 2 ((w.setCell ⟨b, o + i * 2, none⟩ (.int .u32 x.1)).setCell ⟨b, o + i * 2 + 1, none⟩ (.int .i64 x.2)) b o (d.set! i x) := by
  intro j hj
  have hj2 : j < d.size * 2 := by
    have : (flatK enc 2 (d.set! i x)).size = (d.set! i x).size * 2 := size_flatK _ _ _
    rw [this] at hj
    simpa using hj
  have h0 := h.cell (c := 0) hi (by decide)
  have h1 := h.cell (c := 1) hi (by decide)
  have hm : j = j / 2 * 2 + j % 2 := by omega
  have hq : j / 2 < d.size := by omega
  have hc := h.cell (i := j / 2) (c := j % 2) hq (by omega)
  rw [show o + j / 2 * 2 + j % 2 = o + j by omega] at hc
  refine ⟨?_, by rw [World.frozen?_setCell, World.frozen?_setCell]; exact hc.2⟩
  rw [get_flatK _ _ _ _ (by simpa using hj2)]
  by_cases e : j / 2 = i
  · have hset : (d.set! i x)[j / 2]! = x := by rw [e]; exact get_set_same hi x
    rw [hset]
    rcases (show j % 2 = 0 ∨ j % 2 = 1 by omega) with f | f
    · rw [sc_ne _ b (o + i * 2 + 1) (o + j) _ (by omega), show o + j = o + i * 2 by omega, World.cell?_setCell_same' _ _ _ (by
        have := h0.1
        rw [Nat.add_zero] at this
        rw [this]; rfl)]
      rw [f]; rfl
    · rw [show o + j = o + i * 2 + 1 by omega, World.cell?_setCell_same' _ _ _ (by
        rw [sc_ne _ b (o + i * 2) (o + i * 2 + 1) _ (by omega), h1.1]; rfl)]
      rw [f]; rfl
  · have hset : (d.set! i x)[j / 2]! = d[j / 2]! := get_set_ne (Ne.symm e) x
    rw [hset, sc_ne _ b (o + i * 2 + 1) (o + j) _ (by omega), sc_ne _ b (o + i * 2) (o + j) _ (by omega)]
    exact hc.1
theorem below_setCells' {b : Nat} : ∀ (vs : List Value) (o : Nat) (w : World), Below b w (w.setCells b o vs)
  | [], _, _ => Below.refl _ _
  | v :: r, o, w => by
    rw [World.setCells]
    exact ((Below.refl b w).setCell (p := ⟨b, o, none⟩) (Nat.le_refl _) v).trans (below_setCells' r (o + 1) _)
theorem zeros (n : Nat) : (Builtin.zeroCells #[.int .u32 0, .int .i64 0] n).toList.length = n * 2 ∧ ∀ u ∈ (Builtin.zeroCells #[.int .u32 0, .int .i64 0] n).toList, u.oneCell' = true := by
  refine ⟨by simp [Builtin.zeroCells], fun u hu => ?_⟩
  simp only [Builtin.zeroCells, Array.toList_map, Array.toList_range, List.mem_map, List.mem_range] at hu
  obtain ⟨i, _, rfl⟩ := hu
  have : i % 2 = 0 ∨ i % 2 = 1 := by omega
  rcases this with e | e <;> simp [e, Value.oneCell']
theorem zeroPfx : ∀ w : World, (zeroValue 26).run Try.prog w = .ok (.agg #[.int .u32 0, .int .i64 0]) w := fun w => by kernel_rfl
/-- clear over a row of prefixes -/
theorem clear_row (w : World) (ty : TypeId) (b o n c : Nat) (hn : 0 < n) (hc : ∀ j, j < n * 2 → (w.cell? ⟨b, o + j, none⟩).isSome = true) (hf : ∀ j, j < n * 2 → w.frozen? ⟨b, o + j, none⟩ = false) :
    ∃ W2, (Builtin.clear_ #[22] ty #[.slice (some ⟨b, o, none⟩) n c]).run Try.prog w = .ok (.tuple #[]) W2 ∧ Below b w W2 ∧ ∀ p : Addr, (p.block ≠ b ∨ p.off < o) → W2.cell? p = w.cell? p := by
  have hst := run_storeCells_cells (P := Try.prog) b o (Builtin.zeroCells #[.int .u32 0, .int .i64 0] n).toList 0 w (by rw [(zeros n).1]; simpa using hc) (by rw [(zeros n).1]; simpa using hf) (zeros n).2
  simp only [Nat.add_zero] at hst
  obtain ⟨m, rfl⟩ : ∃ m, n = m + 1 := ⟨n - 1, by omega⟩
  refine ⟨w.setCells b o (Builtin.zeroCells #[.int .u32 0, .int .i64 0] (m + 1)).toList, by simp [Builtin.clear_, run_underlying Try.underlying22, zeroPfx, Value.cells, hst], ?_, ?_⟩
  · exact below_setCells' _ _ _
  · intro p hp
    rw [World.cell?_setCells_out b _ _ _ _ (fun e h => ?_)]
    rcases hp with hp | hp
    · exact absurd e hp
    · omega

set_option maxRecDepth 100000 in
set_option maxHeartbeats 1000000 in
theorem compact_any (b o cap : Nat) (d : Array P2) (w : World) (hH : HoldsK enc 2 w b o d) (hb : b < w.heap.size) (hcap : d.size ≤ cap) (hn : d.size < 4611686018427387904) :
    Calls Try.prog 34 #[.slice (some ⟨b, o, none⟩) d.size cap] w fun e w' => e = .returned (.slice (some ⟨b, o, none⟩) (uq d).size cap) ∧ Row w' b o (uq d) ∧ Below b w w' := by
  obtain ⟨n, hnn⟩ : ∃ n, n = d.size := ⟨_, rfl⟩
  rw [← hnn] at hn hcap ⊢
  by_cases h2 : n < 2
  · have e := uq_small d (by omega)
    rw [e, ← hnn]
    have R := Lib.hid (row_of_holds hH)
    clear e hH hnn
    go_enter Try.func34, Try.ntmps34
    go_wp2_with fail
    go_ret
    exact ⟨rfl, R.out, Below.refl _ _⟩
  have HN := Lib.hid hnn
  have H0 := Lib.hid hH
  obtain ⟨U, hU⟩ : ∃ U, U = uq d := ⟨_, rfl⟩
  rw [← hU]
  have HU := Lib.hid hU
  clear hU hH hnn
  go_enter Try.func34, Try.ntmps34
  go_wp2_with fail
  go_loopw [3, 14] (fun kv _ wr => ∃ k : Nat, 1 ≤ k ∧ k ≤ n ∧ kv = .int .i64 k ∧ Hid (∀ j, 0 < j → j < k → d[j]! ≠ d[j - 1]!) ∧ Hid (HoldsK enc 2 wr b o d) ∧ Hid (Below w.heap.size w wr)) (fun kv _ _ => n - (intOf kv).toNat)
  case atStart => exact ⟨1, by omega, by omega, rfl, fun j h0 h1 => by omega, H0, Below.refl _ _⟩
  case round =>
    obtain ⟨k, hk1, hk, rfl, A, R, B⟩ := hrel
    by_cases hlt : k < n
    · have hd : k < d.size := by rw [← HN.out]; exact hlt
      have hd1 : k - 1 < d.size := by omega
      have RR := row_of_holds R.out
      have k0 := fun s : aid.Keep wr => aid.keep_cell (RR k hd).1 s
      have k1 := fun s : aid.Keep wr => aid.keep_cell (RR k hd).2 s
      have k2 := fun s : aid.Keep wr => aid.keep_cell (RR (k - 1) hd1).1 s
      have k3 := fun s : aid.Keep wr => aid.keep_cell (RR (k - 1) hd1).2 s
      clear RR
      obtain ⟨⟨x1, x2⟩, hx⟩ : ∃ x, x = d[k]! := ⟨_, rfl⟩
      obtain ⟨⟨y1, y2⟩, hy⟩ : ∃ y, y = d[k - 1]! := ⟨_, rfl⟩
      rw [← hx] at k0 k1
      rw [← hy] at k2 k3
      dsimp only at k0 k1 k2 k3
      have HX := Lib.hid hx
      have HY := Lib.hid hy
      clear hx hy
      have Q := eql_pfx x1 x2 y1 y2
      have hkm : ((k : Int) - 1) = ((k - 1 : Nat) : Int) := by omega
      by_cases heq : x1 = y1 ∧ x2 = y2
      · have q : (x1 == y1 && x2 == y2) = true := by simp [heq.1, heq.2]
        rw [q] at Q
        have hh : (x1, x2) = (y1, y2) := by rw [heq.1, heq.2]
        clear heq q
        go_wp2_with fail
        refine aid.wp_region_keep (by kernel_rfl) (by kernel_rfl) ?_
        repeat (go_big_quiet_step (fail))
        refine wpQuiet_nil ?_
        rintro _ ⟨s, rfl⟩
        have hws := s.below.size
        have W1 := Lib.hid (holds_below R.out s.below (show b < wr.heap.size from by have := B.out.size; omega))
        have B1 := Lib.hid (aid.kbk B.out s)
        obtain ⟨w1, hw1⟩ : ∃ w1, w1 = s.world := ⟨_, rfl⟩
        rw [← hw1] at W1 B1 ⊢
        clear k0 k1 k2 k3 hws hw1
        go_wp2_with fail
        have KN : n - k < 4611686018427387904 := by omega
        have E0 := Lib.hid (show uqTo d (k + 1) = d.toList.take k from by
          rw [uqTo, if_pos ⟨by omega, by rw [← HX.out, ← HY.out]; exact hh⟩]
          exact uq_same d k (by omega) A.out)
        go_loopw [3, 5] (fun kv k2v wr2 => ∃ (k' k2 : Nat) (c : Array P2), 1 ≤ k2 ∧ k + k2 ≤ n ∧ k' < k + k2 ∧ kv = .int .i64 k' ∧ k2v = .int .i64 k2 ∧ Hid (c.size = n ∧ (∀ j, k' ≤ j → j < n → c[j]! = d[j]!) ∧ c.toList.take k' = uqTo d (k + k2) ∧ (uqTo d (k + k2)).length = k') ∧ Hid (HoldsK enc 2 wr2 b o c) ∧ Hid (Below b w wr2) ∧ Hid (b < wr2.heap.size)) (fun _ k2v _ => n - (intOf k2v).toNat)
        case atStart => exact ⟨k, 1, d, by omega, by omega, by omega, rfl, rfl, ⟨HN.out.symm, fun _ _ _ => rfl, E0.out.symm, by rw [E0.out]; simp; omega⟩, W1, B1.out.mono (by omega), Lib.hid (by have := B1.out.size; omega)⟩
        case round =>
          obtain ⟨k', k2, c, g1, g2, g3, rfl, rfl, C, R2, B2, L2⟩ := hrel
          by_cases hlt2 : k + k2 < n
          · have hc2 : c.size = n := C.out.1
            have hd2 : k + k2 < c.size := by omega
            have hd3 : k + k2 - 1 < c.size := by omega
            have RR := row_of_holds R2.out
            have e0 : (o + k * 2) + k2 * 2 = o + (k + k2) * 2 := by omega
            have e1 : (o + k * 2) + (k2 - 1) * 2 = o + (k + k2 - 1) * 2 := by omega
            have k0 := fun s : aid.Keep wr => aid.keep_cell (RR (k + k2) hd2).1 s
            have k1 := fun s : aid.Keep wr => aid.keep_cell (RR (k + k2) hd2).2 s
            have k2a := fun s : aid.Keep wr => aid.keep_cell (RR (k + k2 - 1) hd3).1 s
            have k3 := fun s : aid.Keep wr => aid.keep_cell (RR (k + k2 - 1) hd3).2 s
            have c0 := C.out.2.1 (k + k2) (by omega) (by omega)
            have c1 := C.out.2.1 (k + k2 - 1) (by omega) (by omega)
            clear RR
            obtain ⟨⟨z1, z2⟩, hz⟩ : ∃ x, x = d[k + k2]! := ⟨_, rfl⟩
            obtain ⟨⟨v1, v2⟩, hv⟩ : ∃ x, x = d[k + k2 - 1]! := ⟨_, rfl⟩
            rw [c0, ← hz, ← e0] at k0 k1
            rw [c1, ← hv, ← e1] at k2a k3
            dsimp only at k0 k1 k2a k3
            have HZ := Lib.hid hz
            have HV := Lib.hid hv
            clear hz hv c0 c1 e0 e1
            have Q := neq_pfx z1 z2 v1 v2
            have hkm2 : ((k2 : Int) - 1) = ((k2 - 1 : Nat) : Int) := by omega
            by_cases heq2 : z1 = v1 ∧ z2 = v2
            · have q : (!(z1 == v1 && z2 == v2)) = false := by simp [heq2.1, heq2.2]
              rw [q] at Q
              have hh2 := Lib.hid (show uqTo d (k + (k2 + 1)) = uqTo d (k + k2) from by
                rw [show k + (k2 + 1) = (k + k2) + 1 by omega, uqTo, if_pos ⟨by omega, by rw [← HZ.out, ← HV.out, heq2.1, heq2.2]⟩])
              clear heq2 q
              go_wp2_with fail
              refine aid.wp_region_keep (by kernel_rfl) (by kernel_rfl) ?_
              repeat (go_big_quiet_step (fail))
              refine wpQuiet_nil ?_
              rintro _ ⟨s2, rfl⟩
              go_wp2_with fail
              go_roundw
              case rel => exact ⟨k', k2 + 1, c, by omega, by omega, by omega, rfl, by go_num, by rw [hh2.out]; exact C, holds_below R2.out s2.below L2.out, B2.out.trans (s2.below.mono (Nat.le_of_lt L2.out)), Lib.hid (Nat.lt_of_lt_of_le L2.out s2.below.size)⟩
              case measure => simp [intOf]; omega
            · have q : (!(z1 == v1 && z2 == v2)) = true := by
                simp only [Bool.not_eq_true', Bool.and_eq_false_imp, beq_iff_eq]
                intro h1
                simpa using fun h2 => heq2 ⟨h1, h2⟩
              rw [q] at Q
              have hk'd : k' < c.size := by omega
              have hh2 := Lib.hid (show uqTo d (k + (k2 + 1)) = uqTo d (k + k2) ++ [(z1, z2)] from by
                rw [show k + (k2 + 1) = (k + k2) + 1 by omega, uqTo, if_neg (fun e => heq2 (by
                  have := e.2
                  rw [← HZ.out, ← HV.out] at this
                  simpa using this)), ← HZ.out])
              have kc0 := fun s : aid.Keep wr => aid.keep_cell (R2.out.cell (c := 0) hk'd (by decide)).1 s
              have kc1 := fun s : aid.Keep wr => aid.keep_cell (R2.out.cell (c := 1) hk'd (by decide)).1 s
              have kf0 := fun s : aid.Keep wr => (s.below.frozen (p := ⟨b, o + k' * 2 + 0, none⟩) L2.out).trans (R2.out.cell (c := 0) hk'd (by decide)).2
              have kf1 := fun s : aid.Keep wr => (s.below.frozen (p := ⟨b, o + k' * 2 + 1, none⟩) L2.out).trans (R2.out.cell (c := 1) hk'd (by decide)).2
              simp only [Nat.add_zero] at kc0 kc1 kf0 kf1
              generalize (enc c[k']!)[0]! = old0 at kc0
              generalize (enc c[k']!)[1]! = old1 at kc1
              clear heq2 q
              go_wp2_with fail
              refine aid.wp_region_keep (by kernel_rfl) (by kernel_rfl) ?_
              repeat (go_big_quiet_step (fail))
              refine wpQuiet_nil ?_
              rintro _ ⟨s2, rfl⟩
              have a0 := k0 s2
              have a1 := k1 s2
              have a2 := kc0 s2
              have a3 := kc1 s2
              have a4 := kf0 s2
              have a5 := kf1 s2
              clear k0 k1 k2a k3 kc0 kc1 kf0 kf1
              go_wp2_with fail
              refine ⟨⟨k' + 1, k2 + 1, c.set! k' (z1, z2), by omega, by omega, by omega, by go_num, by go_num, ?_, ?_, ?_, ?_⟩, by simp [intOf]; omega⟩
              · refine Lib.hid ⟨by simpa using hc2, fun j h1 h2 => ?_, ?_, ?_⟩
                · rw [get_set_ne (by omega)]
                  exact C.out.2.1 j (by omega) h2
                · rw [hh2.out, ← C.out.2.2.1, Array.set!_eq_setIfInBounds, Array.toList_setIfInBounds, List.take_add_one, List.take_set_of_le (Nat.le_refl _), List.getElem?_set_self (by simpa using hk'd)]
                  simp
                · rw [hh2.out, List.length_append, C.out.2.2.2]; rfl
              · exact Lib.hid (holds_set (holds_below R2.out s2.below L2.out) hk'd (z1, z2))
              · exact Lib.hid (((B2.out.trans (s2.below.mono (Nat.le_of_lt L2.out))).setCell (p := ⟨b, _, none⟩) (Nat.le_refl _) _).setCell (p := ⟨b, _, none⟩) (Nat.le_refl _) _)
              · exact Lib.hid (by
                  have := L2.out
                  have := s2.below.size
                  simp
                  omega)
          · have hend : k + k2 = n := by omega
            have hc2 : c.size = n := C.out.1
            have hkn : k' < n := by omega
            obtain ⟨W2, hW2, hB2, hcell⟩ := clear_row wr 0 b (o + k' * 2) (n - k') (cap - k') (by omega) (fun j hj => by
              have := R2.out (k' * 2 + j) (by rw [size_flatK, hc2]; omega)
              rw [Nat.add_assoc, this.1]; rfl) (fun j hj => by
              have := R2.out (k' * 2 + j) (by rw [size_flatK, hc2]; omega)
              rw [Nat.add_assoc]; exact this.2)
            have CE := Lib.hid (show U.toList = c.toList.take k' ∧ U.size = k' from by
              have e : U.toList = uqTo d (k + k2) := by rw [HU.out, uq, ← HN.out, hend]
              refine ⟨by rw [e, ← C.out.2.2.1], ?_⟩
              rw [← Array.length_toList, e, C.out.2.2.2])
            go_wp2_with fail
            go_ret
            refine ⟨by rw [CE.out.2]; rfl, fun i hi => ?_, B2.out.trans hB2⟩
            have hik : i < k' := by rw [← CE.out.2]; exact hi
            have hic : i < c.size := by omega
            have eU : U[i]! = c[i]! := by
              rw [getElem!_pos U i hi, getElem!_pos c i hic, ← Array.getElem_toList, ← Array.getElem_toList]
              have := List.getElem_of_eq CE.out.1 (show i < U.toList.length by simpa using hi)
              rw [this, List.getElem_take]
            have r := row_of_holds R2.out i hic
            rw [eU]
            exact ⟨(hcell _ (.inr (by dsimp only; omega))).trans r.1, (hcell _ (.inr (by dsimp only; omega))).trans r.2⟩
      · have q : (x1 == y1 && x2 == y2) = false := by
          by_cases h1 : x1 = y1
          · have : ¬ x2 = y2 := fun h2 => heq ⟨h1, h2⟩
            simp [h1, this]
          · simp [h1]
        rw [q] at Q
        have A2 := Lib.hid (show ∀ j, 0 < j → j < k + 1 → d[j]! ≠ d[j - 1]! from fun j h0 hj => by
          by_cases ej : j = k
          · rw [ej, ← HX.out, ← HY.out]
            intro e
            exact heq (by simpa using e)
          · exact A.out j h0 (by omega))
        clear heq q
        go_wp2_with fail
        refine aid.wp_region_keep (by kernel_rfl) (by kernel_rfl) ?_
        repeat (go_big_quiet_step (fail))
        refine wpQuiet_nil ?_
        rintro _ ⟨s, rfl⟩
        have W1 := Lib.hid (holds_below R.out s.below (show b < wr.heap.size from by have := B.out.size; omega))
        go_wp2_with fail
        go_roundw
        case rel => exact ⟨k + 1, by omega, by omega, by go_num, A2, W1, aid.kbk B.out s⟩
        case measure => simp [intOf]; omega
    · have hk' : k = n := by omega
      subst hk'
      have UE := Lib.hid (show U = d from by rw [HU.out]; exact uq_whole d (fun j h0 h1 => A.out j h0 (by rw [HN.out]; exact h1)))
      have R2 := Lib.hid (row_of_holds R.out)
      go_wp2_with fail
      go_ret
      exact ⟨by rw [UE.out, ← HN.out]; rfl, by rw [UE.out]; exact R2.out, B.out.mono (by omega)⟩
end Go.Proofs.Ytbfejmehbbieeaa.pscompact
