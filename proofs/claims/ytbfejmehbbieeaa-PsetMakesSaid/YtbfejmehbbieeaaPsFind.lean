import Derived.Test.YtbfejmehbbieeaaPsCmp
import Derived.Test.YtbfejmehbbieeaaAid
import Derived.Deep.LoopGhost
/- slices.BinarySearchFunc over prefixes in order, by ip.Prefix.Cmp: whether the prefix is among them. -/
set_option linter.unusedVariables false
set_option linter.unusedSimpArgs false
namespace Go.Proofs.Ytbfejmehbbieeaa.psfind
open Go.RowKit Go.Shelf Go.Lib Go.Sort Go.Proofs.Ytbfejmehbbieeaa.pscmp

/-- the prefixes of d lie in block b from offset o on -/
def Row (W : World) (b o : Nat) (d : Array (Int × Int)) : Prop := ∀ k, k < d.size → W.cell? ⟨b, o + k * 2, none⟩ = some (.int .u32 d[k]!.1) ∧ W.cell? ⟨b, o + k * 2 + 1, none⟩ = some (.int .i64 d[k]!.2)
theorem Row.below {W W' : World} {b o : Nat} {d : Array (Int × Int)} (h : Row W b o d) (hb : Below W.heap.size W W') : Row W' b o d := fun k hk => ⟨aid.kc hb (h k hk).1, aid.kc hb (h k hk).2⟩

theorem below_grown {w : World} {q : Nat} {os : Array Obj} : Below w.heap.size w (grow (w.drewN q) os) := by
  refine ⟨rfl, rfl, rfl, by simp [grow, World.drewN], fun k hk => ?_⟩
  simp only [grow, World.drewN]
  exact Array.getElem?_append_left hk
theorem cmp_below (x y : Int × Int) (w : World) : Calls Try.prog 26 #[.agg #[.int .u32 x.1, .int .i64 x.2], .agg #[.int .u32 y.1, .int .i64 y.2]] w fun e w' => e = .returned (.int .i64 (cf x y)) ∧ Below w.heap.size w w' :=
  (cmp_grow x y w).mono fun e w' ⟨he, q, os, hw⟩ => ⟨he, by rw [hw]; exact below_grown⟩

def Lo (d : Array (Int × Int)) (t : Int × Int) (lo : Nat) : Prop := ∀ k, k < lo → cf d[k]! t < 0
def Hi (d : Array (Int × Int)) (t : Int × Int) (hi : Nat) : Prop := ∀ k, hi ≤ k → k < d.size → ¬ cf d[k]! t < 0
/-- in order, each once -/
def Strict (d : Array (Int × Int)) : Prop := ∀ i j, i < j → j < d.size → cf d[i]! d[j]! < 0

theorem cf_neg (x y : Int × Int) : cf x y < 0 ↔ (x.1 < y.1 ∨ (x.1 = y.1 ∧ x.2 < y.2)) := by
  have := lt_iff x y
  unfold ltOf at this
  rwa [decide_eq_true_eq] at this
theorem cf_zero (x y : Int × Int) : cf x y = 0 ↔ x = y := by
  obtain ⟨a, n⟩ := x
  obtain ⟨b, m⟩ := y
  unfold cf cmpP or2 cmp3
  simp only [Prod.mk.injEq]
  constructor
  · intro h
    repeat' split at h
    all_goals omega
  · rintro ⟨rfl, rfl⟩
    simp
theorem strict_lo {d : Array (Int × Int)} {t : Int × Int} (hs : Strict d) {m : Nat} (hm : m < d.size) (h : cf d[m]! t < 0) : Lo d t (m + 1) := by
  intro k hk
  by_cases e : k = m
  · rw [e]; exact h
  · have := hs k m (by omega) hm
    rw [cf_neg] at *
    omega
theorem strict_hi {d : Array (Int × Int)} {t : Int × Int} (hs : Strict d) {m : Nat} (hm : m < d.size) (h : ¬ cf d[m]! t < 0) : Hi d t m := by
  intro k hk hk2
  by_cases e : k = m
  · rw [e]; exact h
  · have := hs m k (by omega) hk2
    rw [cf_neg] at *
    omega
/-- where the search ends -/
theorem found {d : Array (Int × Int)} {t : Int × Int} (hs : Strict d) {lo : Nat} (hl : Lo d t lo) (hh : Hi d t lo) : (t ∈ d.toList) ↔ (lo < d.size ∧ cf d[lo]! t = 0) := by
  constructor
  · intro hm
    obtain ⟨j, hj, e⟩ := List.mem_iff_getElem.1 hm
    have hj' : j < d.size := by simpa using hj
    have ej : d[j]! = t := by rw [getElem!_pos d j hj', ← e, Array.getElem_toList]
    have h1 : lo ≤ j := by
      apply Decidable.byContradiction
      intro hlt
      have := hl j (by omega)
      rw [ej, cf_neg] at this
      omega
    by_cases e2 : lo = j
    · rw [e2]; exact ⟨hj', (cf_zero _ _).2 ej⟩
    · have := hs lo j (by omega) hj'
      rw [ej] at this
      exact absurd this (hh lo (Nat.le_refl _) (by omega))
  · rintro ⟨h1, h2⟩
    rw [cf_zero] at h2
    rw [← h2, getElem!_pos d lo h1, ← Array.getElem_toList]
    exact List.getElem_mem _

set_option maxRecDepth 100000 in
set_option maxHeartbeats 1000000 in
theorem search_any (b o cap : Nat) (d : Array (Int × Int)) (t : Int × Int) (w : World) (hR : Row w b o d) (hs : Strict d) (hn : d.size < 4611686018427387904) :
    Calls Try.prog 39 #[.slice (some ⟨b, o, none⟩) d.size cap, .agg #[.int .u32 t.1, .int .i64 t.2], .func (.func 26) #[] #[]] w
      fun e w' => (∃ i : Int, e = .returned (.tuple #[.int .i64 i, .bool (decide (t ∈ d.toList))])) ∧ Below w.heap.size w w' := by
  have RW := Lib.hid (hR.below ((Below.refl w.heap.size w).alloc (Nat.le_refl _) (.cells #[.int .u32 t.1, .int .i64 t.2] 26)))
  have T0 := Lib.hid (aid.new2a w (.int .u32 t.1) (.int .i64 t.2) 26)
  have T1 := Lib.hid (aid.new2b w (.int .u32 t.1) (.int .i64 t.2) 26)
  have BW := Lib.hid ((Below.refl w.heap.size w).alloc (Nat.le_refl _) (.cells #[.int .u32 t.1, .int .i64 t.2] 26))
  have HS := Lib.hid hs
  clear hs hR
  obtain ⟨n, hnn⟩ : ∃ n, n = d.size := ⟨_, rfl⟩
  rw [← hnn] at hn ⊢
  have HN := Lib.hid hnn
  clear hnn
  go_enter Try.func39, Try.ntmps39
  go_wp2_with fail
  go_loopw [9, 10, 11] (fun iv jv hv wr => ∃ lo hi : Nat, lo ≤ hi ∧ hi ≤ n ∧ iv = .int .i64 lo ∧ jv = .int .i64 hi ∧ Hid (Lo d t lo) ∧ Hid (Hi d t hi) ∧ Hid (Row wr b o d) ∧ Hid (wr.cell? ⟨w.heap.size, 0, none⟩ = some (.int .u32 t.1)) ∧ Hid (wr.cell? ⟨w.heap.size, 1, none⟩ = some (.int .i64 t.2)) ∧ Hid (Below w.heap.size w wr)) (fun i j _ _ => (intOf j).toNat - (intOf i).toNat)
  case atStart => exact ⟨0, n, by omega, by omega, rfl, rfl, fun k hk => absurd hk (Nat.not_lt_zero k), fun k h1 h2 => absurd h2 (by rw [← HN.out]; omega), RW, T0, T1, BW⟩
  case round =>
    obtain ⟨lo, hi, hle, hhn, rfl, rfl, HL, HH, R, t0, t1, B⟩ := hrel
    by_cases hlt : lo < hi
    · obtain ⟨m, hm⟩ : ∃ m, m = (lo + hi) / 2 := ⟨_, rfl⟩
      have hm0 : lo ≤ m := by omega
      have hm1 : m < hi := by omega
      have hmi : ((lo : Int) + (hi : Int)) / 2 = (m : Int) := by omega
      have hmd : m < d.size := by rw [← HN.out]; omega
      have k0 := fun s : aid.Keep wr => aid.keep_cell (R.out m hmd).1 s
      have k1 := fun s : aid.Keep wr => aid.keep_cell (R.out m hmd).2 s
      have k2 := fun s : aid.Keep wr => aid.keep_cell t0.out s
      have k3 := fun s : aid.Keep wr => aid.keep_cell t1.out s
      have HM := Lib.hid hmi
      obtain ⟨⟨x1, x2⟩, hx⟩ : ∃ x, x = d[m]! := ⟨_, rfl⟩
      rw [← hx] at k0 k1
      have KC := cmp_below (x1, x2) t
      have SL : cf d[m]! t < 0 → Lo d t (m + 1) := fun h => strict_lo HS.out hmd h
      have SH : ¬ cf d[m]! t < 0 → Hi d t m := fun h => strict_hi HS.out hmd h
      rw [← hx] at SL SH
      obtain ⟨c, hc⟩ : ∃ c, c = cf (x1, x2) t := ⟨_, rfl⟩
      rw [← hc] at KC SL SH
      dsimp only at k0 k1 KC
      have K := Lib.hid KC
      clear hm hmi hc KC hx
      by_cases hneg : c < 0
      · have L2 := Lib.hid (SL hneg)
        clear SL SH
        have hdc : decide (c < 0) = true := decide_eq_true hneg
        go_wp2_with fail
        rw [HM.out]
        refine aid.wp_region_keep (by kernel_rfl) (by kernel_rfl) ?_
        repeat (go_big_quiet_step ((go_at_call 26; (with_reducible exact aid.keep_call (K.out _)))))
        refine wpQuiet_nil ?_
        rintro _ ⟨s, rfl⟩
        go_wp2_with fail
        go_roundw
        case rel => exact ⟨m + 1, hi, by omega, by omega, by go_num, rfl, L2.out, HH, R.out.below s.below, k2 s, k3 s, aid.kbk B.out s⟩
        case measure => simp [intOf]; omega
      · have H2 := Lib.hid (SH hneg)
        clear SL SH
        have hdc : decide (c < 0) = false := decide_eq_false hneg
        go_wp2_with fail
        rw [HM.out]
        refine aid.wp_region_keep (by kernel_rfl) (by kernel_rfl) ?_
        repeat (go_big_quiet_step ((go_at_call 26; (with_reducible exact aid.keep_call (K.out _)))))
        refine wpQuiet_nil ?_
        rintro _ ⟨s, rfl⟩
        go_wp2_with fail
        go_roundw
        case rel => exact ⟨lo, m, by omega, by omega, rfl, rfl, HL, H2.out, R.out.below s.below, k2 s, k3 s, aid.kbk B.out s⟩
        case measure => simp [intOf]; omega
    · have hh : hi = lo := by omega
      subst hh
      have FF := found HS.out HL.out HH.out
      rw [← HN.out] at FF
      by_cases hln : hi < n
      · have hmd : hi < d.size := by rw [← HN.out]; omega
        have k0 := fun s : aid.Keep wr => aid.keep_cell (R.out hi hmd).1 s
        have k1 := fun s : aid.Keep wr => aid.keep_cell (R.out hi hmd).2 s
        have k2 := fun s : aid.Keep wr => aid.keep_cell t0.out s
        have k3 := fun s : aid.Keep wr => aid.keep_cell t1.out s
        obtain ⟨⟨x1, x2⟩, hx⟩ : ∃ x, x = d[hi]! := ⟨_, rfl⟩
        rw [← hx] at k0 k1
        have KC := cmp_below (x1, x2) t
        rw [← hx] at FF
        obtain ⟨c, hc⟩ : ∃ c, c = cf (x1, x2) t := ⟨_, rfl⟩
        rw [← hc] at KC FF
        dsimp only at k0 k1 KC
        have K := Lib.hid KC
        have F2 : decide (t ∈ d.toList) = (c == 0) := by
          by_cases e : c = 0
          · rw [decide_eq_true (FF.2 ⟨hln, e⟩)]; simp [e]
          · rw [decide_eq_false (fun h => e (FF.1 h).2)]; simp [e]
        have G := Lib.hid F2
        clear hc KC FF F2 hx
        go_wp2_with fail
        refine aid.wp_region_keep (by kernel_rfl) (by kernel_rfl) ?_
        repeat (go_big_quiet_step ((go_at_call 26; (with_reducible exact aid.keep_call (K.out _)))))
        refine wpQuiet_nil ?_
        rintro _ ⟨s, rfl⟩
        go_wp2_with fail
        exact bodyPost_ret (v := .tuple #[.int .i64 hi, .bool (c == 0)]) (by simp [results, Try.results39, go_sem]) rfl ⟨⟨hi, by rw [G.out]⟩, aid.kbk B.out s⟩
      · have F2 : decide (t ∈ d.toList) = false := decide_eq_false (fun h => hln (FF.1 h).1)
        have G := Lib.hid F2
        clear FF F2
        go_wp2_with fail
        refine aid.wp_region_keep (by kernel_rfl) (by kernel_rfl) ?_
        repeat (go_big_quiet_step (fail))
        refine wpQuiet_nil ?_
        rintro _ ⟨s, rfl⟩
        go_wp2_with fail
        exact bodyPost_ret (v := .tuple #[.int .i64 hi, .bool false]) (by simp [results, Try.results39, go_sem]) rfl ⟨⟨hi, by rw [G.out]⟩, aid.kbk B.out s⟩
end Go.Proofs.Ytbfejmehbbieeaa.psfind
