/- ClockSorts: for any slice of ints the law answers true: what is due comes in order, each once. No condition. -/
import Derived.Test.YthcbhehdilaejaaLawClockLate
import Derived.Test.YthcbhehdilaejaaCkOpen
import Derived.Maps.OwnSet
import Derived.Maps.Views
set_option linter.unusedVariables false
set_option linter.unusedSimpArgs false
namespace Go.Proofs.Ythcbhehdilaejaa.lawClockSorts
open Go.ChangeShapes Go.WideShapes Go.ChangeAt Go.RowKit Go.Lib Go.Shelf Go.ChangeMaps Go.Proofs.Ythcbhehdilaejaa.frame Go.Proofs.Ythcbhehdilaejaa.ckmath Go.Proofs.Ythcbhehdilaejaa.ck Go.Proofs.Ythcbhehdilaejaa.ckopen Go.Proofs.Ythcbhehdilaejaa.lawClockLate

def dueTo (d : Array Int) : Nat → List E
  | 0 => []
  | k + 1 => (d[k]! % 256, (k : Int)) :: dueTo d k
theorem dueTo_len (d : Array Int) : ∀ k, (dueTo d k).length = k
  | 0 => rfl
  | k + 1 => by rw [dueTo, List.length_cons, dueTo_len d k]
theorem dueTo_is (d : Array Int) : ∀ k x, x ∈ dueTo d k → ∃ j : Nat, j < k ∧ x = (d[j]! % 256, (j : Int))
  | 0, x, h => by cases h
  | k + 1, x, h => by
    rcases List.mem_cons.1 h with rfl | h
    · exact ⟨k, by omega, rfl⟩
    · obtain ⟨j, hj, e⟩ := dueTo_is d k x h
      exact ⟨j, by omega, e⟩
theorem exists_min : ∀ L : List E, L ≠ [] → ∃ x M, L.Perm (x :: M) ∧ ∀ y ∈ M, ltE y x = false
  | [], h => absurd rfl h
  | [x], _ => ⟨x, [], List.Perm.refl _, fun y hy => by cases hy⟩
  | x :: z :: L, _ => by
    obtain ⟨y, M, p, hm⟩ := exists_min (z :: L) (by simp)
    cases e : ltE x y with
    | true =>
      refine ⟨x, z :: L, List.Perm.refl _, fun q hq => ?_⟩
      rcases List.mem_cons.1 (p.mem_iff.1 hq) with rfl | hq
      · exact ltE_asymm e
      · exact geE_trans (hm q hq) (ltE_asymm e)
    | false =>
      refine ⟨y, x :: M, (p.cons x).trans (List.Perm.swap _ _ _), fun q hq => ?_⟩
      rcases List.mem_cons.1 hq with rfl | hq
      · exact e
      · exact hm q hq
theorem ck_step {w wr w3 : World} {B c : Nat} {v v3 : Value} {now : Int} {L : List E} (Bl : Below w.heap.size w wr) (hB : w.heap.size ≤ B) (C : Ck wr B c v now L) (t : Tr wr c v w3 v3) : Below w.heap.size w w3 := by
  obtain ⟨l, h, _⟩ := C.ex
  have h1 := h.hp.hB
  have h2 := h.hp.lt
  exact Bl.trans ((t.below h.hp (by omega)).mono hB)
section
variable {P : Program} {w : World}
theorem owns_same {H : Type} {k : TypeId} {R : Value → Option (DataW H × List MemPlace)} {w' : World} {b n : Nat} {D : DataW H} (h : w.ownsMap P k R b n D) (e : w'.heap[b]? = w.heap[b]?) : w'.ownsMap P k R b n D := by
  obtain ⟨es, clock, hb, F, hs, hD⟩ := h
  exact ⟨es, clock, e.trans hb, F, hs, hD⟩
theorem bool_inv {H : Type} {e : TypeId} (he : P.underlying e = some .bool) {v : Value} {x : Bool} {ps : List MemPlace} (h : plainElem (H := H) P e v = some (.lit (.bool x), ps)) : v = .bool x := by
  unfold plainElem at h
  rw [he] at h
  cases v <;> simp at h
  rw [h.1]
theorem lookup_bool {H : Type} {k e t : TypeId} {b n : Nat} {D : DataW H} (h : w.ownsMap P k (plainElem P e) b n D) (K : Maps.Keyed P k) (ht : P.underlying t = some (.map k e)) (he : P.underlying e = some .bool) (hz : (zeroValue e).run P w = .ok (.bool false) w)
    {key : Value} {kl : Lit} (hkey : keyOf P k key = some kl) {x : Bool} (hx : D.atKey kl (.lit (.bool false)) = .lit (.bool x)) : (Instr.lookup t (.map (some b)) key false).run P w = .ok (.bool x) w := by
  obtain ⟨v, ps, hrun, hv⟩ := h.lookup K ht hz (plainElem_bool he false) hkey
  rw [hx] at hv
  rw [bool_inv he hv] at hrun
  exact hrun
end
/-- behind k rounds -/
structure Inv (d : Array Int) (N k : Nat) (last : Int) (M : List E) (D : DataW Unit) : Prop where
  sub : ∀ x ∈ M, ∃ j : Nat, j < N ∧ x = (d[j]! % 256, (j : Int))
  len : M.length + k = N
  seen : ∀ x ∈ M, D.atKey (.int .i64 x.2) (.lit (.bool false)) = .lit (.bool false)
  last : last = -1 ∨ ∃ j : Nat, j < N ∧ last = (j : Int) ∧ ∀ x ∈ M, ltE x (d[j]! % 256, (j : Int)) = false
theorem Inv.step {d : Array Int} {N k j : Nat} {last : Int} {M M' : List E} {D : DataW Unit} (h : Inv d N k last M D) (p : M.Perm ((d[j]! % 256, (j : Int)) :: M')) (hj : j < N) (hm : ∀ y ∈ M', ltE y (d[j]! % 256, (j : Int)) = false) (nd : ∀ y ∈ M', y.2 ≠ (j : Int)) : Inv d N (k + 1) (j : Int) M' (D.put (.int .i64 (j : Int)) (.lit (.bool true))) := by
  refine ⟨fun x hx => h.sub x (p.mem_iff.2 (List.mem_cons_of_mem _ hx)), ?_, fun x hx => ?_, .inr ⟨j, hj, rfl, hm⟩⟩
  · have := p.length_eq
    have := h.len
    simp at *; omega
  · rw [Maps.atKey_put_other (fun e => nd x hx (by simpa using e))]
    exact h.seen x (p.mem_iff.2 (List.mem_cons_of_mem _ hx))
/-- THE WALK -/
theorem wf_small {a : Int} (h0 : 0 ≤ a) (h1 : a < 1000000) : (Lit.int .i64 a).wf = true := by
  have e1 : IntKind.i64.min = -9223372036854775808 := by decide
  have e2 : IntKind.i64.max = 9223372036854775807 := by decide
  simp [Lit.wf, e1, e2]; omega
theorem zeroB (w : World) : (zeroValue 4).run Try.prog w = .ok (.bool false) w := by kernel_rfl
set_option maxRecDepth 100000 in
set_option maxHeartbeats 4000000 in
theorem walk (v0 : Value) (d : Array Int) (w : World) (hd : RowI w v0 d ∧ ∀ j, j < d.size → I64 d[j]!) : Calls Try.prog 4 #[v0] w fun e w' => e = .returned (.bool true) ∧ Below w.heap.size w w' := by
  obtain ⟨hR, hI⟩ := hd
  obtain ⟨a1, c1, e1⟩ := hR.shape
  obtain ⟨N, hN⟩ : ∃ N, N = d.size := ⟨_, rfl⟩
  rw [← hN] at e1
  subst e1
  have HR := Lib.hid hR
  have HI := Lib.hid hI
  have HN := Lib.hid hN
  have KH := Lib.hid (head_true w)
  clear hR hI hN
  by_cases hbig : 200 < N
  · have g1 : (200 : Int) < (N : Int) := by omega
    go_enter Try.func4, Try.ntmps4
    go_wp2_with fail
    refine KH.out.mono ?_
    rintro e w1 ⟨rfl, b1⟩
    have B1 := Lib.hid b1
    clear b1
    go_wp2_with fail
    go_ret
    exact ⟨rfl, B1.out⟩
  · have g1 : ¬ ((200 : Int) < (N : Int)) := by omega
    go_enter Try.func4, Try.ntmps4
    go_wp2_with fail
    refine KH.out.mono ?_
    rintro e w1 ⟨rfl, b1⟩
    have B1 := Lib.hid b1
    have K0 := Lib.hid (new_any w1.heap.size w1 (Nat.le_refl _))
    clear b1 KH
    go_wp2_with fail
    refine K0.out.mono ?_
    rintro e w2 ⟨rfl, c2, b2⟩
    have C2 := Lib.hid c2
    have B2 := Lib.hid (aid.kb b2 B1.out)
    obtain ⟨cb, hcb⟩ : ∃ cb, cb = w1.heap.size := ⟨_, rfl⟩
    have HCB : Hid (w.heap.size ≤ cb) := Lib.hid (by rw [hcb]; exact B1.out.size)
    rw [← hcb] at C2 ⊢
    clear b2 c2 K0 hcb
    go_wp2_with fail
    go_loopw [18] (fun s18 wr => ∃ (i : Nat) (v' : Value), i ≤ N ∧ s18 = .int .i64 i ∧ Hid (Ck wr cb cb v' 0 (dueTo d i)) ∧ Hid (Below w.heap.size w wr)) (fun s18 _ => N - (intOf s18).toNat)
    case atStart => exact ⟨0, _, by omega, rfl, C2, B2⟩
    case round =>
      obtain ⟨i, v', hi, rfl, C, Bl⟩ := hrel
      by_cases hlt : i < N
      · have hlt2 : (i : Int) < (N : Int) := by omega
        obtain ⟨rb, ro, rfl, hrb, rr⟩ := HR.out.at (k := i) (by rw [← HN.out]; exact hlt)
        have r0 := (Bl.out.cell (p := ⟨rb, ro + i, none⟩) hrb).trans (rr i (by rw [← HN.out]; exact hlt))
        obtain ⟨x, hx⟩ : ∃ x, x = d[i]! := ⟨_, rfl⟩
        rw [← hx] at r0
        have e1 := and_255 x
        obtain ⟨A, hA⟩ : ∃ A, A = x % 256 := ⟨_, rfl⟩
        have a0 : 0 ≤ A ∧ A < 256 := by omega
        rw [← hA] at e1
        have K1 := Lib.hid (set_new C.out (name := (i : Int)) (fun y hy e => by
          obtain ⟨j, hj, ey⟩ := dueTo_is d i y hy
          rw [ey] at e
          dsimp only at e
          omega) (by rw [dueTo_len]; omega) A a0.1 (by omega))
        have HA : Hid (A = d[i]! % 256) := Lib.hid (by rw [hA, hx])
        clear rr hx hA
        go_wp2_with fail
        refine K1.out.mono ?_
        rintro e w3 ⟨rfl, v3, c3, t3⟩
        have C3 := Lib.hid (show Ck w3 cb cb v3 0 (dueTo d (i + 1)) by rw [dueTo, ← HA.out]; exact c3)
        have B3 := Lib.hid (ck_step Bl.out HCB.out C.out t3)
        clear c3 t3 K1
        go_wp2_with fail
        go_roundw
        case rel => exact ⟨i + 1, v3, by omega, by go_num, C3, B3⟩
        case measure => simp [intOf]; omega
      · obtain rfl : i = N := by omega
        go_wp2_with fail
        rw [run_makeMap]
        have O0 := Lib.hid (World.ownsMap_made (H := Unit) wr Try.prog 3 (plainElem Try.prog 4))
        have BA : Below wr.heap.size wr (wr.alloc (.map #[] 0)) := (Below.refl _ _).alloc (Nat.le_refl _) _
        have C0 := Lib.hid (C.out.below BA)
        have B0 := Lib.hid (aid.kb BA Bl.out)
        have NM0 : Hid (¬ mine cb v' wr.heap.size) := Lib.hid fun hm => by
          obtain ⟨l, h, _⟩ := C.out.ex
          have := (h.hp.ownLt hm).2
          omega
        have HMB : Hid (w.heap.size ≤ wr.heap.size) := Lib.hid Bl.out.size
        obtain ⟨W0, hW0⟩ : ∃ W0, W0 = wr.alloc (.map #[] 0) := ⟨_, rfl⟩
        obtain ⟨mb, hmb⟩ : ∃ mb, mb = wr.heap.size := ⟨_, rfl⟩
        rw [← hW0] at O0 C0 B0 ⊢
        rw [← hmb] at O0 NM0 HMB ⊢
        have IN0 : Hid (Inv d i 0 (-1) (dueTo d i) (.map [])) := Lib.hid ⟨fun x hx => dueTo_is d i x hx, by rw [dueTo_len]; omega, fun x hx => rfl, .inl rfl⟩
        clear hW0 hmb C Bl BA
        go_wp2_with fail
        go_loopw [6, 33] (fun s6 s33 wq => ∃ (k : Nat) (last : Int) (M : List E) (v3 : Value) (now : Int) (D : DataW Unit), s6 = .int .i64 last ∧ s33 = .int .i64 k ∧ k ≤ i ∧ now < 256 ∧ Hid (Ck wq cb cb v3 now M) ∧ Hid (wq.ownsMap Try.prog 3 (plainElem Try.prog 4) mb k D) ∧ Hid (¬ mine cb v3 mb) ∧ Hid (Below w.heap.size w wq) ∧ Hid (Inv d i k last M D)) (fun _ s33 _ => i - (intOf s33).toNat)
        case atStart => exact ⟨0, -1, dueTo d i, v', 0, .map [], by go_num, by go_num, by omega, by omega, C0, O0, NM0, B0, IN0⟩
        case round =>
          obtain ⟨k, last, M, v3, now, D, rfl, rfl, hk, hnow, C, O, NM, Bl, INV⟩ := hrel
          by_cases hlt : k < i
          · have hlt2 : (k : Int) < (i : Int) := by omega
            obtain ⟨y, M', hp, hm⟩ := exists_min M (fun e => by have := INV.out.len; rw [e] at this; simp at this; omega)
            obtain ⟨j, hj, hy⟩ := INV.out.sub y (hp.mem_iff.2 (List.mem_cons_self ..))
            subst hy
            obtain ⟨rb, ro, rfl, hrb, rr⟩ := HR.out.at (k := j) (by rw [← HN.out]; exact hj)
            have nd := (C.out.perm hp).nd
            have ats := (C.out.perm hp).ats _ (List.mem_cons_self ..)
            have CP := Lib.hid (C.out.perm hp)
            have seen := INV.out.seen _ (hp.mem_iff.2 (List.mem_cons_self ..))
            dsimp only at seen ats
            have hrj := rr j (by rw [← HN.out]; exact hj)
            have hwf := HI.out j (by rw [← HN.out]; exact hj)
            obtain ⟨x, hx⟩ : ∃ x, x = d[j]! := ⟨_, rfl⟩
            have e1 := and_255 x
            obtain ⟨A, hA⟩ : ∃ A, A = x % 256 := ⟨_, rfl⟩
            have a0 : 0 ≤ A ∧ A < 256 := by omega
            rw [← hA] at e1
            have hAd : d[j]! % 256 = A := by rw [hA, hx]
            have INV2 : Hid (Inv d i (k + 1) (j : Int) M' (D.put (.int .i64 (j : Int)) (.lit (.bool true)))) := Lib.hid (INV.out.step hp hj hm (fun q hq e => by
              simp only [List.map_cons, List.nodup_cons] at nd
              exact nd.1 (List.mem_map.2 ⟨q, hq, e⟩)))
            rw [hAd] at CP ats hm
            rw [← hx] at hrj
            have K1 := Lib.hid (next_some CP.out hm 255 (by omega) (by omega) (by omega))
            have LA : Hid (last = -1 ∨ ∃ jl : Nat, jl < i ∧ last = (jl : Int) ∧ (d[jl]! % 256 < A ∨ (d[jl]! % 256 = A ∧ jl ≤ j))) := Lib.hid (by
              rcases INV.out.last with e | ⟨jl, h1, h2, h3⟩
              · exact .inl e
              · right
                have h4 := h3 _ (hp.mem_iff.2 (List.mem_cons_self ..))
                rw [hAd] at h4
                rw [geE_iff] at h4
                dsimp only at h4
                exact ⟨jl, h1, h2, by omega⟩)
            have hj0 : decide ((j : Int) < 0) = false := decide_eq_false (by omega)
            have hj1 : decide ((i : Int) ≤ (j : Int)) = false := decide_eq_false (by omega)
            have hj1n : decide (i ≤ j) = false := decide_eq_false (by omega)
            have hj2 : (0 : Int) ≤ (j : Int) := by omega
            have hj3 : (j : Int) < (i : Int) := by omega
            have aa : (A == A) = true := by simp
            have SEEN := Lib.hid seen
            have HK : Hid (keyOf Try.prog 3 (.int .i64 (j : Int)) = some (.int .i64 (j : Int))) := Lib.hid (Maps.keyOf_int_mk Try.underlying3 (wf_small (by omega) (by omega)))
            have HT := Lib.hid (plainElem_bool (H := Unit) (P := Try.prog) Try.underlying4 true)
            have RR := Lib.hid rr
            clear hp hm nd ats seen hx hA hAd rr C INV
            go_wp2_with fail
            refine K1.out.mono ?_
            rintro e w3 ⟨rfl, v4, c3, t3⟩
            have C3 := Lib.hid c3
            have B3 := Lib.hid (ck_step Bl.out HCB.out CP.out t3)
            have O3 := Lib.hid (owns_same O.out (t3.kept.block mb O.out.lt NM.out))
            have NM4 : Hid (¬ mine cb v4 mb) := Lib.hid (fun hm => (t3.fresh mb hm).elim NM.out (fun h => by have := O.out.lt; omega))
            have r3 := (B3.out.cell (p := ⟨rb, ro + j, none⟩) hrb).trans hrj
            have R3 := aid.keep_cell r3
            have KN := Lib.hid (fun s : aid.Keep w3 => now_any (C3.out.below s.below))
            have LK := fun s : aid.Keep w3 => lookup_bool (owns_same O3.out (s.below.block mb O3.out.lt)) (Maps.int_keyed Try.underlying3) Try.underlying39 Try.underlying4 (zeroB _) HK.out SEEN.out
            clear c3 t3 K1 O CP Bl hrj r3 NM
            go_wp2_with fail
            refine aid.wp_region_keep (by kernel_rfl) (by kernel_rfl) ?_
            repeat (go_big_quiet_step ((go_at_call 13; (with_reducible exact aid.keep_same (KN.out _)))))
            refine wpQuiet_nil ?_
            rintro _ ⟨s, rfl⟩
            have C4 := Lib.hid (C3.out.below s.below)
            have O4 := Lib.hid (owns_same O3.out (s.below.block mb O3.out.lt))
            have B4 := Lib.hid (aid.kb s.below B3.out)
            have r4 := R3 s
            have R4 := aid.keep_cell r4
            clear C3 O3 R3 KN LK r4
            rcases LA.out with rfl | ⟨jl, hjl, rfl, hor⟩
            · have g0 : decide ((0 : Int) ≤ -1) = false := by decide
              clear LA B3
              go_wp2_with fail
              refine aid.wp_region_keep (by kernel_rfl) (by kernel_rfl) ?_
              repeat (go_big_quiet_step (fail))
              refine wpQuiet_nil ?_
              rintro _ ⟨s2, rfl⟩
              have C5 := Lib.hid (C4.out.below s2.below)
              have O5 := Lib.hid (owns_same O4.out (s2.below.block mb (O4.out.lt)))
              have B5 := Lib.hid (aid.kb s2.below B4.out)
              clear O4 B4 C4
              go_wp2_with (at_mapUpdate; refine wpList_mapUpdate_own _ rfl (.tmp 100) (.tmp 101) (.const (.bool true)) 39 rfl 3 4 (Maps.int_keyed Try.underlying3) Try.underlying39 _ _ k D rfl O5.out (by unfold maxLen; omega) _ _ _ rfl rfl HK.out _ _ HT.out ?_)
              intro w5 hown5 hgrow5
              have C6 := Lib.hid (C5.out.kept (Kept.of_grown (m := fun q => q = mb) hgrow5 (fun q hq => (Option.some.inj hq).symm)) (fun q hq e => NM4.out (e ▸ hq)))
              have B6 := Lib.hid (B5.out.grown hgrow5 B5.out.size (fun q hq => by have := Option.some.inj hq; have := HMB.out; omega))
              have O6 := Lib.hid hown5
              clear hown5 hgrow5 C5 O5 B5
              go_wp2_with fail
              go_roundw
              case rel => exact ⟨k + 1, (j : Int), M', v4, _, _, rfl, by go_num, by omega, by omega, C6, O6, NM4, B6, INV2⟩
              case measure => simp [intOf]; omega
            · have r5 := (B4.out.cell (p := ⟨rb, ro + jl, none⟩) hrb).trans (RR.out jl (by rw [← HN.out]; exact hjl))
              obtain ⟨z, hz⟩ : ∃ z, z = d[jl]! := ⟨_, rfl⟩
              have e2 := and_255 z
              obtain ⟨TL, hTL⟩ : ∃ A, A = z % 256 := ⟨_, rfl⟩
              rw [← hTL] at e2
              rw [← hz] at r5 hor
              rw [← hTL] at hor
              have R5 := aid.keep_cell r5
              have g0 : decide ((0 : Int) ≤ (jl : Int)) = true := decide_eq_true (by omega)
              have g1' : decide (A < TL) = false := decide_eq_false (by omega)
              have g5 : (0 : Int) ≤ (jl : Int) := by omega
              have g6 : (jl : Int) < (i : Int) := by omega
              clear LA B3 hz hTL r5
              rcases hor with hlt9 | ⟨heq9, hle9⟩
              · have g2 : (TL == A) = false := by simp; omega
                clear hlt9
                go_wp2_with fail
                refine aid.wp_region_keep (by kernel_rfl) (by kernel_rfl) ?_
                repeat (go_big_quiet_step (fail))
                refine wpQuiet_nil ?_
                rintro _ ⟨s2, rfl⟩
                have C5 := Lib.hid (C4.out.below s2.below)
                have O5 := Lib.hid (owns_same O4.out (s2.below.block mb (O4.out.lt)))
                have B5 := Lib.hid (aid.kb s2.below B4.out)
                clear O4 B4 C4
                go_wp2_with (at_mapUpdate; refine wpList_mapUpdate_own _ rfl (.tmp 100) (.tmp 101) (.const (.bool true)) 39 rfl 3 4 (Maps.int_keyed Try.underlying3) Try.underlying39 _ _ k D rfl O5.out (by unfold maxLen; omega) _ _ _ rfl rfl HK.out _ _ HT.out ?_)
                intro w5 hown5 hgrow5
                have C6 := Lib.hid (C5.out.kept (Kept.of_grown (m := fun q => q = mb) hgrow5 (fun q hq => (Option.some.inj hq).symm)) (fun q hq e => NM4.out (e ▸ hq)))
                have B6 := Lib.hid (B5.out.grown hgrow5 B5.out.size (fun q hq => by have := Option.some.inj hq; have := HMB.out; omega))
                have O6 := Lib.hid hown5
                clear hown5 hgrow5 C5 O5 B5
                go_wp2_with fail
                go_roundw
                case rel => exact ⟨k + 1, (j : Int), M', v4, _, _, rfl, by go_num, by omega, by omega, C6, O6, NM4, B6, INV2⟩
                case measure => simp [intOf]; omega
              · subst heq9
                have g3 : decide ((j : Int) < (jl : Int)) = false := decide_eq_false (by omega)
                have g3n : decide (j < jl) = false := decide_eq_false (by omega)
                clear hle9
                go_wp2_with fail
                refine aid.wp_region_keep (by kernel_rfl) (by kernel_rfl) ?_
                repeat (go_big_quiet_step (fail))
                refine wpQuiet_nil ?_
                rintro _ ⟨s2, rfl⟩
                have C5 := Lib.hid (C4.out.below s2.below)
                have O5 := Lib.hid (owns_same O4.out (s2.below.block mb (O4.out.lt)))
                have B5 := Lib.hid (aid.kb s2.below B4.out)
                clear O4 B4 C4
                go_wp2_with (at_mapUpdate; refine wpList_mapUpdate_own _ rfl (.tmp 100) (.tmp 101) (.const (.bool true)) 39 rfl 3 4 (Maps.int_keyed Try.underlying3) Try.underlying39 _ _ k D rfl O5.out (by unfold maxLen; omega) _ _ _ rfl rfl HK.out _ _ HT.out ?_)
                intro w5 hown5 hgrow5
                have C6 := Lib.hid (C5.out.kept (Kept.of_grown (m := fun q => q = mb) hgrow5 (fun q hq => (Option.some.inj hq).symm)) (fun q hq e => NM4.out (e ▸ hq)))
                have B6 := Lib.hid (B5.out.grown hgrow5 B5.out.size (fun q hq => by have := Option.some.inj hq; have := HMB.out; omega))
                have O6 := Lib.hid hown5
                clear hown5 hgrow5 C5 O5 B5
                go_wp2_with fail
                go_roundw
                case rel => exact ⟨k + 1, (j : Int), M', v4, _, _, rfl, by go_num, by omega, by omega, C6, O6, NM4, B6, INV2⟩
                case measure => simp [intOf]; omega
          · obtain rfl : k = i := by omega
            have hM : M = [] := by
              have := INV.out.len
              exact List.length_eq_zero_iff.1 (by omega)
            have K1 := Lib.hid (clen_any C.out 0 (by rw [hM]; rfl))
            go_wp2_with fail
            refine K1.out.mono ?_
            rintro e w3 ⟨rfl, rfl⟩
            go_wp2_with fail
            go_ret
            exact ⟨rfl, Bl.out⟩

set_option maxRecDepth 100000 in
theorem lifted (os : Os) (started : os.Started) (H : Type) (enc : TypeId × Value → H) :
    ReturnsInHanded {} Try.checked os 4 .any (Rows.clockSortsSpec.pre6 enc Try.prog Try.f4 Rows.clockSortsRow.domain false) (Rows.clockSortsSpec.post enc Try.prog Try.f4 false true false false) := by
  refine returnsInHanded_of_change (C := Try.checked) own started (by kernel_rfl) Try.func4
    (ChangeSpec.witness6 (enc := enc) (C := Try.checked) false ⟨#[], #[.slice none 0 0], []⟩ 8 (by kernel_rfl) (by kernel_rfl) (by kernel_rfl) (by kernel_rfl)) ?_
  intro W base args ds gs before hval0 hW hcnd _
  have hval : ∀ (j : Nat) t v, Try.f4.params[j]? = some t → args[j]? = some v → Value.okWide Try.prog W .any base t v := hval0
  obtain ⟨p, q, hA0, _⟩ := id hW
  have hA : DataW.TrodAll enc Try.prog W 0 (fun _ => true) true Try.f4.params.toList args.toList ds p := hA0
  rw [Try.params4] at hA hval
  obtain ⟨v0, vs0, d0, ds0, p0, q0, hargs, rfl, rfl, h0, r0⟩ := trodAll_cons hA
  obtain ⟨rfl, rfl, rfl⟩ := trodAll_nil r0
  obtain rfl : args = #[v0] := by cases args; simp_all
  obtain ⟨d, hd⟩ := ckopen.open_ints1 (hval 0 _ v0 rfl rfl) h0
  refine (walk v0 d W hd).mono fun e W' ⟨he, hb⟩ => ⟨_, he, ?_⟩
  exact law_post laidOut rfl (by kernel_rfl) Try.underlying4 (by kernel_rfl) (fun ds h => by match ds, h with | [_], _ => rfl) hW hb

theorem over : Rows.clockSortsRow.holds Try.pinned (OpenSpec.ofChange Rows.clockSortsSpec) :=
  OpenClaim.holds_of_wide 4 Try.f4 rfl rfl rfl rfl rfl rfl rfl ⟨rfl, rfl, rfl, rfl, rfl⟩ rfl rfl rfl rfl rfl (by kernel_rfl) Try.func4 (by kernel_rfl)
    (of_decide_eq_true (by kernel_rfl)) (by unfold Func.isWrapper; first | (rw [if_pos (by decide +kernel)]; kernel_rfl) | (rw [if_neg (by decide +kernel)]; exact ⟨rfl, rfl⟩))
    (fun os started H enc _ => lifted os started H enc)

theorem proved : Rows.ClockSortsSaid := over
end Go.Proofs.Ythcbhehdilaejaa.lawClockSorts
