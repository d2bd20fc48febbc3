import Derived.Test.YtbfejmehbbieeaaPsAsk
import Derived.Test.YtbfejmehbbieeaaPsMarks
import Derived.Test.YtbfejmehbbieeaaTail
import Derived.Laws.MakeOwn
/- Package pset: places, the text that tells in which of some sets a prefix is. -/
set_option linter.unusedVariables false
set_option linter.unusedSimpArgs false
namespace Go.Proofs.Ytbfejmehbbieeaa.psplaces
open Go.RowKit Go.Shelf Go.Lib Go.Sort Go.Proofs.Ytbfejmehbbieeaa.math1 Go.Proofs.Ytbfejmehbbieeaa.pscmp Go.Proofs.Ytbfejmehbbieeaa.psfind Go.Proofs.Ytbfejmehbbieeaa.pssort Go.Proofs.Ytbfejmehbbieeaa.psuniq Go.Proofs.Ytbfejmehbbieeaa.pscompact Go.Proofs.Ytbfejmehbbieeaa.psof Go.Proofs.Ytbfejmehbbieeaa.psask Go.Proofs.Ytbfejmehbbieeaa.psmarks

/-- some sets in a row of their own -/
structure Sets (w : World) (b o n : Nat) (ss : Nat → Value) (ds : Nat → Array P2) : Prop where
  cell : ∀ i, i < n → w.cell? ⟨b, o + i, none⟩ = some (ss i)
  row : ∀ i, i < n → IsRow w (ss i) (ds i)
theorem Sets.below {w w' : World} {b o n : Nat} {ss : Nat → Value} {ds : Nat → Array P2} (h : Sets w b o n ss ds) (hb : Below w.heap.size w w') : Sets w' b o n ss ds :=
  ⟨fun i hi => aid.kc hb (h.cell i hi), fun i hi => (h.row i hi).below hb⟩
def Good (n : Nat) (ds : Nat → Array P2) : Prop := ∀ i, i < n → Strict (ds i) ∧ (ds i).size ≤ 4294967296
/-- the marks of a prefix -/
def inB (ds : Nat → Array P2) (p : P2) (i : Nat) : Bool := decide (p ∈ (ds i).toList)

theorem infoU8 : (Try.prog.info? 5).map (fun i => (i.zero, i.size, i.bytes)) = some (some (.int .u8 0), 1, 1) := by kernel_rfl
/-- the marks' bytes lie in block g -/
def Bytes (w : World) (g m : Nat) (f : Nat → Int) : Prop := ∀ j, j < m → w.cell? ⟨g, j, none⟩ = some (.int .u8 (f j)) ∧ w.frozen? ⟨g, j, none⟩ = false

set_option maxRecDepth 100000 in
set_option maxHeartbeats 1000000 in
theorem places_any (p : P2) (b o n cap : Nat) (ss : Nat → Value) (ds : Nat → Array P2) (w : World) (hS : Sets w b o n ss ds) (hG : Good n ds) (hn : n ≤ 4096) :
    Calls Try.prog 51 #[.agg #[.int .u32 p.1, .int .i64 p.2], .slice (some ⟨b, o, none⟩) n cap] w fun e w' => e = .returned (.string (keyOfMarks (inB ds p) n)) ∧ Below w.heap.size w w' := by
  obtain ⟨i0, hi, hz0, hz1, hz2⟩ : ∃ i, Try.prog.info? 5 = some i ∧ i.zero = some (.int .u8 0) ∧ i.size = 1 ∧ i.bytes = 1 := by
    have h := infoU8
    cases h2 : Try.prog.info? 5 with
    | none => rw [h2] at h; cases h
    | some i => rw [h2] at h; simp at h; exact ⟨i, rfl, h.1, h.2.1, h.2.2⟩
  obtain ⟨m, hm⟩ : ∃ m, m = (n + 7) / 8 := ⟨_, rfl⟩
  have hmi : ((n : Int) + 7) / 8 = (m : Int) := by omega
  have hmk : ∀ W : World, (Instr.makeSlice 89 (.int .i64 (m : Int)) (.int .i64 (m : Int))).run Try.prog W = .ok (.slice (some ⟨W.heap.size, 0, none⟩) m m) (W.alloc (.cells (madeCells #[.int .u8 0] m) 5)) := by
    intro W
    have h := run_makeSlice W 89 5 i0 (.int .u8 0) Try.underlying89 hi hz0 .i64 .i64 (m : Int) (m : Int) (by omega) (by omega) (by rw [hz1]; simp; omega) (by rw [hz2]; simp; omega) (by omega)
    rw [hz1] at h
    simp only [Int.toNat_natCast, Nat.mul_one] at h
    exact h
  have hbz : ∀ W : World, Bytes (W.alloc (.cells (madeCells #[.int .u8 0] m) 5)) W.heap.size m (B (inB ds p) 0) := by
    intro W j hj
    constructor
    · go_simp
      rw [← hm]
      rw [show (madeCells #[Value.int .u8 0] m)[j]? = some (.int .u8 0) from by
        rw [Array.getElem?_eq_getElem (by rw [size_madeCells]; exact hj)]
        simp [madeCells, Nat.mod_one]]
      rfl
    · go_simp
  obtain ⟨p1, p2⟩ := p
  have HM := Lib.hid hmi
  have HK := Lib.hid hmk
  have HZ := Lib.hid hbz
  have HS := Lib.hid hS
  have HG := Lib.hid hG
  have HMM := Lib.hid hm
  clear hm hmi hmk hbz hS hG hi hz0 hz1 hz2
  go_enter Try.func51, Try.ntmps51
  go_wp2_with fail
  rw [HM.out, HK.out]
  have Z0 := Lib.hid (HZ.out (w.alloc (.cells #[.int .u32 p1, .int .i64 p2] 26)))
  have B0 := Lib.hid (((Below.refl w.heap.size w).alloc (Nat.le_refl _) (.cells #[.int .u32 p1, .int .i64 p2] 26)).alloc (by simp) (.cells (madeCells #[.int .u8 0] m) 5))
  have S0 := Lib.hid ((HS.out.below ((Below.refl w.heap.size w).alloc (Nat.le_refl _) (.cells #[.int .u32 p1, .int .i64 p2] 26))).below ((Below.refl _ _).alloc (Nat.le_refl _) (.cells (madeCells #[.int .u8 0] m) 5)))
  have P0 : ((w.alloc (.cells #[.int .u32 p1, .int .i64 p2] 26)).alloc (.cells (madeCells #[.int .u8 0] m) 5)).cell? ⟨w.heap.size, 0, none⟩ = some (.int .u32 p1) := aid.ca _ (aid.new2a w _ _ _)
  have P1 : ((w.alloc (.cells #[.int .u32 p1, .int .i64 p2] 26)).alloc (.cells (madeCells #[.int .u8 0] m) 5)).cell? ⟨w.heap.size, 1, none⟩ = some (.int .i64 p2) := aid.ca _ (aid.new2b w _ _ _)
  have L0 : w.heap.size + 1 < ((w.alloc (.cells #[.int .u32 p1, .int .i64 p2] 26)).alloc (.cells (madeCells #[.int .u8 0] m) 5)).heap.size := by simp
  have G0 : (w.alloc (.cells #[.int .u32 p1, .int .i64 p2] 26)).heap.size = w.heap.size + 1 := by simp
  rw [G0] at Z0 ⊢
  obtain ⟨W0, hW0⟩ : ∃ W0, W0 = (w.alloc (.cells #[.int .u32 p1, .int .i64 p2] 26)).alloc (.cells (madeCells #[.int .u8 0] m) 5) := ⟨_, rfl⟩
  rw [← hW0] at Z0 B0 S0 P0 P1 L0 ⊢
  clear hW0 G0
  go_wp2_with fail
  go_loopw [15] (fun iv wr => ∃ k : Nat, k ≤ n ∧ iv = .int .i64 k ∧ Hid (Bytes wr (w.heap.size + 1) m (B (inB ds (p1, p2)) k)) ∧ Hid (Sets wr b o n ss ds) ∧ Hid (wr.cell? ⟨w.heap.size, 0, none⟩ = some (.int .u32 p1)) ∧ Hid (wr.cell? ⟨w.heap.size, 1, none⟩ = some (.int .i64 p2)) ∧ w.heap.size + 1 < wr.heap.size ∧ Hid (Below w.heap.size w wr)) (fun iv _ => n - (intOf iv).toNat)
  case atStart => exact ⟨0, by omega, rfl, Z0, S0, P0, P1, L0, B0⟩
  case round =>
    obtain ⟨k, hk, rfl, Z, S, t0, t1, hlt0, Bl⟩ := hrel
    by_cases hlt : k < n
    · have c0 := S.out.cell k hlt
      have r0 := S.out.row k hlt
      have g0 := HG.out k hlt
      obtain ⟨sv, hsv⟩ : ∃ sv, sv = ss k := ⟨_, rfl⟩
      rw [← hsv] at c0 r0
      obtain ⟨sa, sm, sc, rfl⟩ : ∃ a m c, sv = .slice a m c := by
        rcases r0 with ⟨e, _⟩ | ⟨_, _, _, e, _⟩ <;> exact ⟨_, _, _, e⟩
      have K := Lib.hid (fun W (hW : Below wr.heap.size wr W) => has_set (.slice sa sm sc) (ds k) (p1, p2) W (r0.below hW) g0.1 g0.2)
      have t0a := fun o' : Obj => aid.ca o' t0.out
      have t1a := fun o' : Obj => aid.ca o' t1.out
      have BA := Lib.hid (fun o' : Obj => (Below.refl wr.heap.size wr).alloc (Nat.le_refl _) o')
      obtain ⟨r, hr⟩ : ∃ r, r = decide ((p1, p2) ∈ (ds k).toList) := ⟨_, rfl⟩
      rw [← hr] at K
      dsimp only at K
      have HR := Lib.hid (show inB ds (p1, p2) k = r from hr.symm)
      clear r0 g0 hr hsv
      go_wp2_with fail
      refine (K.out _ (BA.out _)).mono ?_
      rintro e w1 ⟨rfl, hb⟩
      have hbw := aid.kb hb (BA.out (.cells #[.slice sa sm sc] 29))
      have S1 := Lib.hid (S.out.below hbw)
      have q0 := Lib.hid (aid.kc hbw t0.out)
      have q1 := Lib.hid (aid.kc hbw t1.out)
      have hlt1 : w.heap.size + 1 < w1.heap.size := Nat.lt_of_lt_of_le hlt0 hbw.size
      have B1 := Lib.hid (aid.kb hbw Bl.out)
      have Z1 : Bytes w1 (w.heap.size + 1) m (B (inB ds (p1, p2)) k) := fun j hj =>
        ⟨(hbw.cell (p := ⟨w.heap.size + 1, j, none⟩) hlt0).trans (Z.out j hj).1, (hbw.frozen (p := ⟨w.heap.size + 1, j, none⟩) hlt0).trans (Z.out j hj).2⟩
      have ZH := Lib.hid Z1
      clear hb hbw t0a t1a Z1 K
      cases hr : r
      · have HR2 := Lib.hid (show ∀ j, B (inB ds (p1, p2)) (k + 1) j = B (inB ds (p1, p2)) k j from fun j => by
          rw [B, if_neg (fun e => by rw [HR.out, hr] at e; cases e.2)])
        clear hr
        go_wp2_with fail
        go_roundw
        case rel => exact ⟨k + 1, by omega, by go_num, fun j hj => by rw [HR2.out]; exact ZH.out j hj, S1, q0, q1, hlt1, B1⟩
        case measure => simp [intOf]; omega
      · have hkm : k / 8 < m := by rw [HMM.out]; omega
        have zc := fun s : aid.Keep w1 => aid.keep_cell (ZH.out (k / 8) hkm).1 s
        have zf := fun s : aid.Keep w1 => (s.below.frozen (p := ⟨w.heap.size + 1, k / 8, none⟩) hlt1).trans (ZH.out (k / 8) hkm).2
        obtain ⟨x, hx⟩ : ∃ x, x = B (inB ds (p1, p2)) k (k / 8) := ⟨_, rfl⟩
        have hbd := B_bd (inB ds (p1, p2)) k (k / 8)
        rw [← hx] at zc hbd
        have hor := or_bit (r := k % 8) (by omega) hbd.1 (hbd.2.2.1 rfl)
        have HX := Lib.hid hx
        have HO := Lib.hid hor
        have HR3 := Lib.hid (HR.out.trans hr)
        clear hx hbd hor hr
        go_wp2_with fail
        refine tail.wp_region_keep_tail 10 (by kernel_rfl) (by kernel_rfl) ?_
        simp only [List.take_succ_cons, List.take_zero, List.drop_succ_cons, List.drop_zero]
        repeat (go_big_quiet_step (fail))
        refine wpQuiet_nil ?_
        rintro _ ⟨s, rfl⟩
        have v0 := zc s
        have v1 := zf s
        clear zc zf
        go_wp2_with fail
        rw [HO.out]
        have hB2 : Below w.heap.size w (s.world.setCell ⟨w.heap.size + 1, k / 8, none⟩ (.int .u8 (x + 2 ^ (k % 8)))) := (aid.kbk B1.out s).setCell (p := ⟨w.heap.size + 1, k / 8, none⟩) (by simp) _
        refine ⟨⟨k + 1, by omega, by go_num, Lib.hid ?_, Lib.hid (HS.out.below hB2), Lib.hid ?_, Lib.hid ?_, ?_, Lib.hid hB2⟩, by simp [intOf]; omega⟩
        · intro j hj
          have hz := ZH.out j hj
          refine ⟨?_, by rw [World.frozen?_setCell]; exact (s.below.frozen (p := ⟨w.heap.size + 1, j, none⟩) hlt1).trans hz.2⟩
          by_cases ej : j = k / 8
          · rw [ej, World.cell?_setCell_same' _ _ _ (by rw [v0]; rfl), B, if_pos ⟨rfl, HR3.out⟩, ← HX.out]
          · rw [sc_ne _ (w.heap.size + 1) (k / 8) j _ (fun e => ej e.symm), B, if_neg (fun e => ej e.1)]
            exact aid.keep_cell hz.1 s
        · exact (World.cell?_setCell_far _ _ _ _ (by simp)).trans (aid.keep_cell q0.out s)
        · exact (World.cell?_setCell_far _ _ _ _ (by simp)).trans (aid.keep_cell q1.out s)
        · have := s.below.size
          simp
          omega
    · have hk' : k = n := by omega
      subst hk'
      have CV := Lib.hid (run_convert_bytes_arg (P := Try.prog) wr 89 5 Try.underlying89 Try.underlying5 (w.heap.size + 1) 0 m m (bytesOf (inB ds (p1, p2)) k) (by rw [bytes_len, HMM.out]) (fun j hj => by
        rw [Nat.zero_add, bytes_getD _ _ _ (by rw [← HMM.out]; exact hj)]
        exact (Z.out j hj).1) 9 Try.underlying9)
      go_wp2_with fail
      rw [CV.out]
      go_wp2_with fail
      go_ret
      exact ⟨rfl, Bl.out⟩
end Go.Proofs.Ytbfejmehbbieeaa.psplaces
