/- PsetFull: for any two ints the law answers true: so many prefixes a set has, and no more; the same ones again count once. No condition. -/
import Derived.Test.YtmdijdkaagldjaaPsOr
import Derived.Test.YtmdijdkaagldjaaPsHead2
import Derived.Test.YtmdijdkaagldjaaFrame
set_option linter.unusedVariables false
set_option linter.unusedSimpArgs false
namespace Go.Proofs.Ytmdijdkaagldjaa.lawPsetFull
open Go.ChangeShapes Go.WideShapes Go.ChangeAt Go.RowKit Go.Joins Go.Deep Go.Shelf Go.Lib Go.Sort Go.Proofs.Ytmdijdkaagldjaa.math1 Go.Proofs.Ytmdijdkaagldjaa.frame Go.Proofs.Ytmdijdkaagldjaa.pscmp Go.Proofs.Ytmdijdkaagldjaa.psfind Go.Proofs.Ytmdijdkaagldjaa.pssort Go.Proofs.Ytmdijdkaagldjaa.psuniq Go.Proofs.Ytmdijdkaagldjaa.pscompact Go.Proofs.Ytmdijdkaagldjaa.psof Go.Proofs.Ytmdijdkaagldjaa.psask Go.Proofs.Ytmdijdkaagldjaa.pshead Go.Proofs.Ytmdijdkaagldjaa.psmake Go.Proofs.Ytmdijdkaagldjaa.psgroup Go.Proofs.Ytmdijdkaagldjaa.psfull Go.Proofs.Ytmdijdkaagldjaa.psor

def one : Array P2 := #[(2147483648, 1)]
theorem one_ok : AllOk one ∧ AllU one := by unfold AllOk AllU one; decide +kernel
theorem one_mk : mk one = one := mk_of_strict (strict_of_pairwise (by decide))
theorem or_one {N : Nat} (hN : N ≤ 4111) : (orD (rowTo N) one).size = N + 1 := by
  have e : orD (rowTo N) one = (rowTo N).push (2147483648, 1) := by
    refine strict_ext (mk_strict _) (psmerge.strict_push (row_strict N) (fun x hx => ?_)) (fun x => ?_)
    · obtain ⟨j, hj, rfl⟩ := mem_get.1 hx
      rw [row_size] at hj
      rw [row_get N j hj, cf_neg]
      left
      show (j : Int) * 256 < 2147483648
      omega
    · rw [or_mem, Array.toList_push, List.mem_append]
      simp [one]
  rw [e, Array.size_push, row_size]

set_option maxRecDepth 100000 in
set_option maxHeartbeats 2000000 in
theorem walk (n t : Int) (w : World) (hn : I64 n) (ht : I64 t) : Calls Try.prog 8 #[.int .i64 n, .int .i64 t] w fun e w' => e = .returned (.bool true) ∧ Below w.heap.size w w' := by
  obtain ⟨N0, hN0⟩ : ∃ N0 : Nat, (N0 : Int) = n % 32 := ⟨(n % 32).toNat, by omega⟩
  obtain ⟨T, hT⟩ : ∃ T : Nat, (T : Int) = t % 16 := ⟨(t % 16).toNat, by omega⟩
  have hN0b : N0 ≤ 31 := by omega
  have hTb : T ≤ 15 := by omega
  have and1 : bits .and .i64 n 31 = (N0 : Int) := by rw [mod_32, hN0]
  have and2 : bits .and .i64 t 15 = (T : Int) := by rw [mod_16, hT]
  obtain ⟨N, hN⟩ : ∃ N : Nat, N = 4080 + N0 := ⟨_, rfl⟩
  have hsum : (4080 : Int) + (N0 : Int) = (N : Int) := by omega
  have hNa : 4080 ≤ N := by omega
  have hNb : N ≤ 4111 := by omega
  have KH := Lib.hid head_true
  obtain ⟨ip0, hi, hz0, hz1, hz2⟩ : ∃ i, Try.prog.info? 26 = some i ∧ i.zero = some (.agg #[.int .u32 0, .int .i64 0]) ∧ i.size = 2 ∧ i.bytes = 16 := by
    have h := infoPfx
    cases h2 : Try.prog.info? 26 with
    | none => rw [h2] at h; cases h
    | some i => rw [h2] at h; simp at h; exact ⟨i, rfl, h.1, h.2.1, h.2.2⟩
  have I1 := Lib.hid hi
  have I2 := Lib.hid hz0
  have I3 := Lib.hid hz1
  have I4 := Lib.hid hz2
  clear hN0 hT hi hz0 hz1 hz2 hN
  go_enter Try.func8, Try.ntmps8
  go_wp2_with fail
  refine (KH.out _).mono ?_
  rintro e w1 ⟨rfl, hb⟩
  have B1 := Lib.hid (hb.alloc hb.size (.cells #[] 26))
  have O0 := Lib.hid (own_empty w1 w.heap.size hb.size)
  clear hb
  go_wp2_with fail
  go_loopw [5, 6] (fun pv iv wr => ∃ k g cap : Nat, k ≤ N ∧ iv = .int .i64 k ∧ pv = .slice (some ⟨g, 0, none⟩) k cap ∧ Hid (wr.ownsRow w.heap.size 26 2 (.slice (some ⟨g, 0, none⟩) k cap) k (fl (rowTo k))) ∧ Hid (Below w.heap.size w wr)) (fun _ iv _ => N - (intOf iv).toNat)
  case atStart => exact ⟨0, w1.heap.size, 0, by omega, rfl, rfl, Lib.hid (by rw [show fl (rowTo 0) = [] from pshead.fl_nil]; exact O0.out), B1⟩
  case round =>
    obtain ⟨k, g, cap, hk, rfl, rfl, O, Bl⟩ := hrel
    by_cases hlt : k < N
    · have hwr : w.heap.size ≤ wr.heap.size := Bl.out.size
      have OWN := Lib.hid (World.ownsRow.alloc O.out (.cells #[.int .u32 ((k : Int) * 256), .int .i64 24] 26))
      have BLA := Lib.hid (Bl.out.alloc hwr (.cells #[.int .u32 ((k : Int) * 256), .int .i64 24] 26))
      have NW := Lib.hid (show ∀ (j : Nat) u, (enc ((k : Int) * 256, 24))[j]? = some u → (wr.alloc (.cells #[.int .u32 ((k : Int) * 256), .int .i64 24] 26)).cell? ((⟨wr.heap.size, 0, none⟩ : Addr).add j) = some u from fun j u hu => by
        rw [Addr.add_mid]
        match j, hu with
        | 0, hu => simp [enc] at hu; rw [← hu]; exact aid.new2a wr _ _ _
        | 1, hu => simp [enc] at hu; rw [← hu]; exact aid.new2b wr _ _ _
        | j + 2, hu => simp [enc] at hu)
      have E1 : ∀ u ∈ enc ((k : Int) * 256, 24), u.oneCell' = true := fun u hu => by simp [enc] at hu; rcases hu with rfl | rfl <;> rfl
      have hgb := Lib.hid (O.out.lt g rfl).1
      have hkN : (k : Int) < 4112 := by omega
      have hk0 : (0 : Int) ≤ (k : Int) := by omega
      go_wp2_with (at_builtin; refine wpList_append_lies _ rfl (.tmp 27) (.tmp 32) 22 rfl w.heap.size 26 ip0 (.agg #[.int .u32 0, .int .i64 0]) 2 16 Try.underlying22 I1.out I2.out I3.out I4.out rfl (by decide) _ k (fl (rowTo k)) rfl OWN.out ⟨wr.heap.size, 0, none⟩ 1 1 (enc ((k : Int) * 256, 24)) rfl rfl NW.out E1 (by decide) (by unfold maxLen; omega) (by omega) (by simp; omega) _ rfl ?_)
      intro g' cap' w3 hown3 hgrow3 hat3 hlt3
      have O3 := Lib.hid (show w3.ownsRow w.heap.size 26 2 (.slice (some ⟨g', 0, none⟩) (k + 1) cap') (k + 1) (fl (rowTo (k + 1))) from by
        rw [rowTo, fl_push]; exact hown3)
      have B3 := Lib.hid (BLA.out.grown hgrow3 (by simp; omega) (fun q hq => by
        simp only [Value.ownBlock, Option.some.injEq] at hq
        have := hgb.out
        omega))
      clear hown3 hgrow3 hat3 hlt3
      go_wp2_with fail
      go_roundw
      case rel => exact ⟨k + 1, g', cap', by omega, by go_num, rfl, O3, B3⟩
      case measure => simp [intOf]; omega
    · have hk' : k = N := by omega
      subst hk'
      go_wp2_with fail
      go_loopw [5, 7] (fun pv iv wr => ∃ j g cap : Nat, j ≤ T ∧ iv = .int .i64 j ∧ pv = .slice (some ⟨g, 0, none⟩) (k + j) cap ∧ Hid (wr.ownsRow w.heap.size 26 2 (.slice (some ⟨g, 0, none⟩) (k + j) cap) (k + j) (fl (dupTo k j))) ∧ Hid (Below w.heap.size w wr)) (fun _ iv _ => T - (intOf iv).toNat)
      case atStart => exact ⟨0, g, cap, by omega, rfl, rfl, O, Bl⟩
      case round =>
        obtain ⟨j, g, cap, hj, rfl, rfl, O, Bl⟩ := hrel
        by_cases hlt : j < T
        · have hwr : w.heap.size ≤ wr.heap.size := Bl.out.size
          obtain ⟨_, hH, _, _, _⟩ := holds_of_own O.out
          have RR := row_of_holds hH j (by rw [dup_size]; omega)
          rw [dup_get k j j (by omega)] at RR
          have r0 := RR.1
          have r1 := RR.2
          rw [Nat.zero_add] at r0 r1
          dsimp only at r0 r1
          have OWN := Lib.hid (World.ownsRow.alloc O.out (.cells #[.int .u32 ((j : Int) * 256), .int .i64 24] 26))
          have BLA := Lib.hid (Bl.out.alloc hwr (.cells #[.int .u32 ((j : Int) * 256), .int .i64 24] 26))
          have NW := Lib.hid (show ∀ (i : Nat) u, (enc ((j : Int) * 256, 24))[i]? = some u → (wr.alloc (.cells #[.int .u32 ((j : Int) * 256), .int .i64 24] 26)).cell? ((⟨wr.heap.size, 0, none⟩ : Addr).add i) = some u from fun i u hu => by
            rw [Addr.add_mid]
            match i, hu with
            | 0, hu => simp [enc] at hu; rw [← hu]; exact aid.new2a wr _ _ _
            | 1, hu => simp [enc] at hu; rw [← hu]; exact aid.new2b wr _ _ _
            | i + 2, hu => simp [enc] at hu)
          have E1 : ∀ u ∈ enc ((j : Int) * 256, 24), u.oneCell' = true := fun u hu => by simp [enc] at hu; rcases hu with rfl | rfl <;> rfl
          have hgb := Lib.hid (O.out.lt g rfl).1
          have hjb : j < k + j := by omega
          clear hH RR
          go_wp2_with (at_builtin; refine wpList_append_lies _ rfl (.tmp 39) (.tmp 44) 22 rfl w.heap.size 26 ip0 (.agg #[.int .u32 0, .int .i64 0]) 2 16 Try.underlying22 I1.out I2.out I3.out I4.out rfl (by decide) _ (k + j) (fl (dupTo k j)) rfl OWN.out ⟨wr.heap.size, 0, none⟩ 1 1 (enc ((j : Int) * 256, 24)) rfl rfl NW.out E1 (by decide) (by unfold maxLen; omega) (by omega) (by simp; omega) _ rfl ?_)
          intro g' cap' w3 hown3 hgrow3 hat3 hlt3
          have O3 := Lib.hid (show w3.ownsRow w.heap.size 26 2 (.slice (some ⟨g', 0, none⟩) (k + (j + 1)) cap') (k + (j + 1)) (fl (dupTo k (j + 1))) from by
            rw [dupTo, fl_push]; exact hown3)
          have B3 := Lib.hid (BLA.out.grown hgrow3 (by simp; omega) (fun q hq => by
            simp only [Value.ownBlock, Option.some.injEq] at hq
            have := hgb.out
            omega))
          clear hown3 hgrow3 hat3 hlt3
          go_wp2_with fail
          go_roundw
          case rel => exact ⟨j + 1, g', cap', by omega, by go_num, rfl, O3, B3⟩
          case measure => simp [intOf]; omega
        · have hj' : j = T := by omega
          subst hj'
          have okd := dup_ok (n := k) (k := j) hNb (by omega)
          have hmk := dup_mk (n := k) (k := j) (by omega)
          have hds := dup_size k j
          by_cases hbig : 4096 < k
          · have hbi : (4096 : Int) < (k : Int) := by omega
            have K0 := of_many g 0 cap (dupTo k j) wr (row_of_holds (holds_of_own O.out).2.1) (by rw [hds]; omega) okd.2 okd.1 (by rw [hds]; omega) (by rw [hmk, row_size]; exact hbig)
            rw [hds] at K0
            have KO := Lib.hid K0
            have KLEN := Lib.hid (fun W => len_any (.slice none 0 0) W 0 (.inl ⟨rfl, rfl⟩))
            clear K0 okd hmk hds
            go_wp2_with fail
            refine KO.out.mono ?_
            rintro e w2 ⟨rfl, hb2⟩
            have B2 := Lib.hid (aid.kba (aid.kb hb2 Bl.out) (.cells #[.slice none 0 0] 29))
            clear hb2
            go_wp2_with fail
            refine (KLEN.out _).mono ?_
            rintro e w3 ⟨rfl, hb3⟩
            have B3 := Lib.hid (aid.kb hb3 B2.out)
            clear hb3
            go_wp2_with fail
            go_ret
            exact ⟨rfl, B3.out⟩
          · have hbi : ¬ (4096 : Int) < (k : Int) := by omega
            have K0 := of_set2 (.slice (some ⟨g, 0, none⟩) (k + j) cap) (dupTo k j) wr (isRow_of_own O.out) (by rw [hds]; omega) okd.2 okd.1 (by rw [hmk, row_size]; omega)
            rw [hmk, row_size] at K0
            have KO := Lib.hid K0
            have ONES := Lib.hid (show Strict one from strict_of_pairwise (by decide))
            clear K0 okd hmk hds
            go_wp2_with fail
            refine KO.out.mono ?_
            rintro e w2 ⟨⟨s1, rfl, hs1, hc1⟩, hb2⟩
            obtain ⟨ax, cx, hsh⟩ := pssame.IsRow.shape hs1
            rw [row_size] at hsh
            subst hsh
            have y2 : Below w2.heap.size w2 (w2.alloc (.cells #[.slice ax k cx] 29)) := (Below.refl _ _).alloc (Nat.le_refl _) _
            have y3 : Below _ (w2.alloc (.cells #[.slice ax k cx] 29)) ((w2.alloc (.cells #[.slice ax k cx] 29)).alloc (.cells #[.int .u32 2147483648, .int .i64 1] 26)) := (Below.refl _ _).alloc (Nat.le_refl _) _
            have hsz2 : (w2.alloc (.cells #[.slice ax k cx] 29)).heap.size = w2.heap.size + 1 := by simp
            have r1 := (hs1.below y2).below y3
            have c8 := aid.kc y3 (show (w2.alloc (.cells #[.slice ax k cx] 29)).cell? ⟨w2.heap.size, 0, none⟩ = some (.slice ax k cx) by go_simp)
            have LR := lit_row (w2.alloc (.cells #[.slice ax k cx] 29)) 26 #[.int .u32 2147483648, .int .i64 1] one ((fl_of [(2147483648, 1)]).symm ▸ rfl)
            rw [hsz2] at LR
            have B3 := aid.kb (aid.kb y3 y2) (aid.kb hb2 Bl.out)
            have K1 := of_set2 (.slice (some ⟨w2.heap.size + 1, 0, none⟩) 1 1) one _ (.inr ⟨w2.heap.size + 1, 0, 1, rfl, LR, by simp⟩) (by decide) one_ok.2 one_ok.1 (by rw [one_mk]; decide)
            rw [one_mk] at K1
            have KO1 := Lib.hid K1
            have R1' := Lib.hid r1
            have C8' := Lib.hid c8
            have B3' := Lib.hid B3
            have CP1 := Lib.hid (show CapOk (.slice ax k cx) (rowTo k).size by rw [row_size]; exact hc1)
            clear y2 y3 hsz2 r1 c8 LR B3 K1 hs1 hc1 hb2
            go_wp2_with fail
            refine KO1.out.mono ?_
            rintro e w4 ⟨⟨s2, rfl, hs2, hc2⟩, hb4⟩
            obtain ⟨ay, my, cy, rfl⟩ : ∃ a n c, s2 = Value.slice a n c := by
              obtain ⟨a, c, h⟩ := pssame.IsRow.shape hs2
              exact ⟨a, _, c, h⟩
            have y4 : Below w4.heap.size w4 (w4.alloc (.cells #[.slice ay my cy] 29)) := (Below.refl _ _).alloc (Nat.le_refl _) _
            have z4 := aid.kb y4 hb4
            have R1 := Lib.hid (R1'.out.below z4)
            have R2 := Lib.hid (hs2.below y4)
            have CP2 := Lib.hid (show CapOk (.slice ay my cy) one.size from hc2)
            have C8 := Lib.hid (aid.kc z4 C8'.out)
            have B5 := Lib.hid (aid.kb z4 B3'.out)
            have KLEN := Lib.hid (fun W => len_any (.slice ax k cx) W k (by
              cases ax with
              | none => 
                rcases R1.out with ⟨h, h0⟩ | ⟨_, _, _, h, _⟩
                · simp only [Value.slice.injEq] at h
                  exact .inl ⟨by rw [h.2.1, h.2.2], h.2.1⟩
                · simp at h
              | some a => exact .inr ⟨_, _, rfl⟩))
            have c8 := C8.out
            clear y4 z4 hs2 hc2 hb4 R1' C8' B3' KO KO1
            by_cases hfit : k + 1 ≤ 4096
            · have K3 := Lib.hid (psor.or_ok (.slice ax k cx) (.slice ay my cy) (rowTo k) one _ R1.out R2.out CP1.out CP2.out (row_strict k) ONES.out (by rw [row_size]; omega) (by decide) (by rw [or_one hNb]; omega))
              go_wp2_with fail
              refine K3.out.mono ?_
              rintro e w5 ⟨⟨x3, rfl, hx3⟩, hb5⟩
              obtain ⟨ax3, mx3, cx3, rfl⟩ : ∃ a n c, x3 = Value.slice a n c := by
                obtain ⟨a, c, h⟩ := pssame.IsRow.shape hx3
                exact ⟨a, _, c, h⟩
              have y5 : Below w5.heap.size w5 (w5.alloc (.cells #[.slice ax3 mx3 cx3] 29)) := (Below.refl _ _).alloc (Nat.le_refl _) _
              have z5 := aid.kb y5 hb5
              have c8b := aid.kc z5 C8.out
              have B6 := Lib.hid (aid.kb z5 B5.out)
              clear y5 z5 hb5 K3
              have hk6 : ((k : Int) == 4096) = false := by simp; omega
              have hkk : ((k : Int) == (k : Int)) = true := by simp
              go_wp2_with fail
              refine (KLEN.out _).mono ?_
              rintro e w6 ⟨rfl, hb6⟩
              have B7 := Lib.hid (aid.kb hb6 B6.out)
              clear hb6
              go_wp2_with fail
              go_ret
              exact ⟨rfl, B7.out⟩
            · have K3 := Lib.hid (psor.or_many (.slice ax k cx) (.slice ay my cy) (rowTo k) one _ R1.out R2.out CP1.out CP2.out (row_strict k) ONES.out (by rw [row_size]; omega) (by decide) (by rw [or_one hNb]; omega))
              go_wp2_with fail
              refine K3.out.mono ?_
              rintro e w5 ⟨rfl, hb5⟩
              have y5 : Below w5.heap.size w5 (w5.alloc (.cells #[.slice none 0 0] 29)) := (Below.refl _ _).alloc (Nat.le_refl _) _
              have z5 := aid.kb y5 hb5
              have c8b := aid.kc z5 C8.out
              have B6 := Lib.hid (aid.kb z5 B5.out)
              clear y5 z5 hb5 K3
              have hk6 : ((k : Int) == 4096) = true := by simp; omega
              have hkk : ((k : Int) == (k : Int)) = true := by simp
              go_wp2_with fail
              refine (KLEN.out _).mono ?_
              rintro e w6 ⟨rfl, hb6⟩
              have B7 := Lib.hid (aid.kb hb6 B6.out)
              clear hb6
              go_wp2_with fail
              go_ret
              exact ⟨rfl, B7.out⟩

set_option maxRecDepth 100000 in
theorem lifted (os : Os) (started : os.Started) (H : Type) (enc : TypeId × Value → H) :
    ReturnsInHanded {} Try.checked os 8 .any (Rows.psetFullSpec.pre6 enc Try.prog Try.f8 Rows.psetFullRow.domain false) (Rows.psetFullSpec.post enc Try.prog Try.f8 false true false false) := by
  refine returnsInHanded_of_change (C := Try.checked) own started (by kernel_rfl) Try.func8
    (ChangeSpec.witness6 (enc := enc) (C := Try.checked) false ⟨#[], #[.int .i64 0, .int .i64 0], []⟩ 8 (by kernel_rfl) (by kernel_rfl) (by kernel_rfl) (by kernel_rfl)) ?_
  intro W base args ds gs before hval0 hW hcnd _
  have hval : ∀ (j : Nat) t v, Try.f8.params[j]? = some t → args[j]? = some v → Value.okWide Try.prog W .any base t v := hval0
  obtain ⟨p, q, hA0, _⟩ := id hW
  have hA : DataW.TrodAll enc Try.prog W 0 (fun _ => true) true Try.f8.params.toList args.toList ds p := hA0
  rw [Try.params8] at hA hval
  obtain ⟨v0, vs0, d0, ds0, p0, q0, hargs, rfl, rfl, h0, r0⟩ := trodAll_cons hA
  obtain ⟨v1, vs1, d1, ds1, p1, q1, rfl, rfl, rfl, h1, r1⟩ := trodAll_cons r0
  obtain ⟨rfl, rfl, rfl⟩ := trodAll_nil r1
  obtain rfl : args = #[v0, v1] := by cases args; simp_all
  obtain ⟨n, rfl, hn⟩ := open_i64 Try.underlying3 (hval 0 _ v0 rfl rfl) h0
  obtain ⟨t, rfl, ht⟩ := open_i64 Try.underlying3 (hval 1 _ v1 rfl rfl) h1
  refine (walk n t W hn ht).mono fun e W' ⟨he, hb⟩ => ⟨_, he, ?_⟩
  exact law_post laidOut rfl (by kernel_rfl) Try.underlying4 (by kernel_rfl) (fun ds h => by match ds, h with | [_, _], _ => rfl) hW hb

theorem over : Rows.psetFullRow.holds Try.pinned (OpenSpec.ofChange Rows.psetFullSpec) :=
  OpenClaim.holds_of_wide 8 Try.f8 rfl rfl rfl rfl rfl rfl rfl ⟨rfl, rfl, rfl, rfl, rfl⟩ rfl rfl rfl rfl rfl (by kernel_rfl) Try.func8 (by kernel_rfl)
    (of_decide_eq_true (by kernel_rfl)) (by unfold Func.isWrapper; first | (rw [if_pos (by decide +kernel)]; kernel_rfl) | (rw [if_neg (by decide +kernel)]; exact ⟨rfl, rfl⟩))
    (fun os started H enc _ => lifted os started H enc)

theorem proved : Rows.PsetFullSaid := over
end Go.Proofs.Ytmdijdkaagldjaa.lawPsetFull
