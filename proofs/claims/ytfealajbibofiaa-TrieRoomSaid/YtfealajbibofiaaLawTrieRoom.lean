/- TrieRoom: for any int the law answers true: at so many prefixes something may stand, and no more; a nil trie has nothing. No condition. -/
import Derived.Test.YtfealajbibofiaaTrHead
import Derived.Test.YtfealajbibofiaaTrRef
import Derived.Test.YtfealajbibofiaaFrame
set_option linter.unusedVariables false
set_option linter.unusedSimpArgs false
namespace Go.Proofs.Ytfealajbibofiaa.lawTrieRoom
open Go.ChangeShapes Go.WideShapes Go.ChangeAt Go.RowKit Go.Lib Go.Proofs.Ytfealajbibofiaa.frame Go.Proofs.Ytfealajbibofiaa.math1 Go.Proofs.Ytfealajbibofiaa.trmath Go.Proofs.Ytfealajbibofiaa.trmem Go.Proofs.Ytfealajbibofiaa.trgraft Go.Proofs.Ytfealajbibofiaa.trunder Go.Proofs.Ytfealajbibofiaa.trput Go.Proofs.Ytfealajbibofiaa.trdrop Go.Proofs.Ytfealajbibofiaa.trlong Go.Proofs.Ytfealajbibofiaa.trhead

theorem dist_all : ((List.range 32).all fun i => (List.range 32).all fun k => !decide (path ((i : Int) * 256) 24 = path ((k : Int) * 256) 24) || i == k) = true := by kernel_rfl
theorem dist {i k : Nat} (hi : i < 32) (hk : k < 32) (h : path ((i : Int) * 256) 24 = path ((k : Int) * 256) 24) : i = k := by
  have h1 := List.all_eq_true.1 dist_all i (List.mem_range.2 hi)
  have h2 := List.all_eq_true.1 h1 k (List.mem_range.2 hk)
  rw [decide_eq_true h] at h2
  simpa using h2
theorem right24 (i : Nat) : rightB ((i : Int) * 256) 24 = true := by
  rw [rightB_iff]
  refine ⟨by decide, by decide, ?_⟩
  rw [show sz 24 = 256 by decide]
  omega
theorem none_of {T : Tr} {σ : List Bool} (h : ¬ (T.get σ).isSome = true) : T.get σ = none := by
  cases e : T.get σ with
  | none => rfl
  | some v => rw [e] at h; exact absurd rfl h

set_option maxRecDepth 100000 in
set_option maxHeartbeats 2000000 in
theorem walk (n : Int) (w : World) (hn : I64 n) : Calls Try.prog 5 #[.int .i64 n] w fun e w' => e = .returned (.bool true) ∧ Below w.heap.size w w' := by
  obtain ⟨N, hN⟩ : ∃ N : Nat, (N : Int) = n % 32 := ⟨(n % 32).toNat, by omega⟩
  have hNb : N ≤ 31 := by omega
  have and1 : bits .and .i64 n 31 = (N : Int) := by rw [mod_32, hN]
  have KH := Lib.hid head_true
  have KN := Lib.hid (fun W => new_any N (by omega) (by omega) W)
  clear hN
  go_enter Try.func5, Try.ntmps5
  go_wp2_with fail
  refine (KH.out _).mono ?_
  rintro e w1 ⟨rfl, hb⟩
  have B1 := Lib.hid hb
  clear hb
  go_wp2_with fail
  refine (KN.out _).mono ?_
  rintro e w2 ⟨rfl, hT, hb⟩
  have HS := Lib.hid (show w.heap.size ≤ w1.heap.size from B1.out.size)
  obtain ⟨t, ht⟩ : ∃ t, t = w1.heap.size := ⟨_, rfl⟩
  rw [← ht] at hT ⊢
  have M2 := Lib.hid (show Mine w.heap.size w2 t .nil N 0 from ⟨hT, Tr.dep_nil, fun x hx => by
    have := HS.out
    rcases hx with rfl | hx
    · omega
    · cases hx⟩)
  have B2 := Lib.hid (aid.kb hb B1.out)
  clear hT hb ht
  go_wp2_with fail
  go_loopw [4] (fun iv wr => ∃ (k : Nat) (T : Tr), k ≤ N ∧ iv = .int .i64 k ∧ Hid (Mine w.heap.size wr t T N k) ∧ Hid (∀ σ, (T.get σ).isSome = true ↔ ∃ i : Nat, i < k ∧ σ = path ((i : Int) * 256) 24) ∧ Hid (Below w.heap.size w wr)) (fun iv _ => N - (intOf iv).toNat)
  case atStart => exact ⟨0, .nil, by omega, rfl, M2, Lib.hid (fun σ => by rw [Tr.get_nil]; exact ⟨fun h => (by cases h), fun ⟨i, h, _⟩ => absurd h (Nat.not_lt_zero i)⟩), B2⟩
  case round =>
    obtain ⟨k, T, hk, rfl, HM, HG, Bl⟩ := hrel
    by_cases hlt : k < N
    · have hnone : T.get (path ((k : Int) * 256) 24) = none := none_of (fun h => by
        obtain ⟨i, h1, h2⟩ := (HG.out _).1 h
        have := dist (by omega) (by omega) h2
        omega)
      have KP := Lib.hid (put_new t T N k ((k : Int) * 256) k 24 wr HM.out.tri (by omega) (by omega) (by decide) (right24 k) hnone (by omega) (by omega) (by omega))
      clear hnone
      go_wp2_with fail
      refine KP.out.mono ?_
      rintro e w3 ⟨rfl, hp⟩
      obtain ⟨T1, m1, g1, b1, -, -⟩ := mine_put HM.out Bl.out.size hp
      have HM1 := Lib.hid (show Mine w.heap.size w3 t T1 N ((k + 1 : Nat) : Int) from m1)
      have HG1 := Lib.hid (show ∀ σ, (T1.get σ).isSome = true ↔ ∃ i : Nat, i < k + 1 ∧ σ = path ((i : Int) * 256) 24 from fun σ => by
        rw [g1]
        by_cases e : σ = path ((k : Int) * 256) 24
        · rw [if_pos e]; exact ⟨fun _ => ⟨k, by omega, e⟩, fun _ => rfl⟩
        · rw [if_neg e, HG.out]
          exact ⟨fun ⟨i, h1, h2⟩ => ⟨i, by omega, h2⟩, fun ⟨i, h1, h2⟩ => ⟨i, by
            have : i ≠ k := fun e' => e (by rw [h2, e'])
            omega, h2⟩⟩)
      have Bl1 := Lib.hid (Bl.out.trans b1)
      clear hp m1 g1 b1
      go_wp2_with fail
      go_roundw
      case rel => exact ⟨k + 1, T1, by omega, by go_num, HM1, HG1, Bl1⟩
      case measure => simp [intOf]; omega
    · have hk' : k = N := by omega
      subst hk'
      have ba := (Below.refl wr.heap.size wr).alloc (Nat.le_refl _) (.cells #[.int .u32 2147483648, .int .i64 1] 30)
      obtain ⟨V, hV⟩ : ∃ V, V = wr.alloc (.cells #[.int .u32 2147483648, .int .i64 1] 30) := ⟨_, rfl⟩
      have z0 : V.cell? ⟨wr.heap.size, 0, none⟩ = some (.int .u32 2147483648) := by rw [hV]; exact aid.new2a _ _ _ _
      have z1 : V.cell? ⟨wr.heap.size, 1, none⟩ = some (.int .i64 1) := by rw [hV]; exact aid.new2b _ _ _ _
      have hVs : wr.heap.size < V.heap.size := by rw [hV]; simp
      rw [← hV] at ba
      have MV := HM.out.below ba
      have BV := aid.kb ba Bl.out
      have hmn : T.get (path 2147483648 1) = none := none_of (fun h => by
        obtain ⟨i, h1, h2⟩ := (HG.out _).1 h
        exact absurd h2 (path_ne (by decide)))
      have KF := Lib.hid (put_full t T k k 2147483648 1 1 V MV.tri (by decide) (by decide) (by decide) (by kernel_rfl) hmn (by omega))
      have KB := Lib.hid (fun W => put_bad t 1 0 1 W (by decide) (by decide) (by kernel_rfl))
      have NO := Lib.hid (show ∀ x, own t T x → x < wr.heap.size from fun x hx => HM.out.tri.lt hx)
      have HMV := Lib.hid MV
      have HBV := Lib.hid BV
      have HV := Lib.hid hV
      have HMN := Lib.hid hmn
      have ez0 : (wr.alloc (.cells #[.int .u32 2147483648, .int .i64 1] 30)).cell? ⟨wr.heap.size, 0, none⟩ = some (.int .u32 2147483648) := aid.new2a _ _ _ _
      have ez1 : (wr.alloc (.cells #[.int .u32 2147483648, .int .i64 1] 30)).cell? ⟨wr.heap.size, 1, none⟩ = some (.int .i64 1) := aid.new2b _ _ _ _
      have Z0 := Lib.hid z0
      have Z1 := Lib.hid z1
      obtain ⟨mb, hmb⟩ : ∃ mb, mb = wr.heap.size := ⟨_, rfl⟩
      clear ba MV BV hmn HM Bl hV z0 z1
      go_wp2_with fail
      rw [← HV.out]
      refine KF.out.mono ?_
      rintro e w4 ⟨rfl, hb4⟩
      have M4 := Lib.hid (HMV.out.below hb4)
      have B4 := Lib.hid (aid.kb hb4 HBV.out)
      have S4 := Lib.hid (Nat.lt_of_lt_of_le hVs hb4.size)
      have z0 := aid.kc hb4 Z0.out
      have z1 := aid.kc hb4 Z1.out
      clear hb4 ez0 ez1 Z0 Z1 KF HMV HBV hVs hmb
      go_wp2_with fail
      refine (KB.out _).mono ?_
      rintro e w5 ⟨rfl, hb5⟩
      have M5 := Lib.hid (M4.out.below hb5)
      have B5 := Lib.hid (aid.kb hb5 B4.out)
      have S5 := Lib.hid (Nat.lt_of_lt_of_le S4.out hb5.size)
      have z0 := aid.kc hb5 z0
      have z1 := aid.kc hb5 z1
      clear hb5 M4 B4 S4
      by_cases hk0 : k = 0
      · subst hk0
        have BZ := B5
        clear M5 S5 B5 HG NO
        have KG := Lib.hid (fun W => get_no (.pointer none) 2147483648 1 W (fun W' _ => find_nil 2147483648 1 W'))
        have KLO := Lib.hid (fun W => longest_nil 0 W)
        have KAL := Lib.hid (fun W => all_nil 26 W)
        have KBE := Lib.hid (fun W => below_nil 27 2147483648 1 W)
        have KPN := Lib.hid (fun W => put_nil 2147483648 1 1 W)
        have KDN := Lib.hid (fun W => drop_no (.pointer none) 2147483648 1 W (fun W' _ => find_nil 2147483648 1 W'))
        have KLN := Lib.hid (fun W => trput.len_nil W)
        have KRI := Lib.hid (fun W => ref1.right_any 0 0 W (by decide) (by decide))
        rw [show rightB 0 0 = true by kernel_rfl] at KRI
        go_wp2_with fail
        refine (KG.out _).mono ?_
        rintro e x1 ⟨rfl, hb⟩
        have z0 := aid.kc hb z0
        have z1 := aid.kc hb z1
        have BZ := Lib.hid (aid.kb hb BZ.out)
        clear hb
        go_wp2_with fail
        refine (KLO.out _).mono ?_
        rintro e x2 ⟨rfl, hb⟩
        have y := aid.kb ((Below.refl x2.heap.size x2).alloc (Nat.le_refl _) (.cells #[.int .u32 0, .int .i64 0] 30)) hb
        have z0 := aid.kc y z0
        have z1 := aid.kc y z1
        have BZ := Lib.hid (aid.kb y BZ.out)
        clear hb y
        go_wp2_with fail
        refine (KAL.out _).mono ?_
        rintro e x3 ⟨rfl, hb⟩
        have z0 := aid.kc hb z0
        have z1 := aid.kc hb z1
        have BZ := Lib.hid (aid.kb hb BZ.out)
        clear hb
        go_wp2_with fail
        refine (KBE.out _).mono ?_
        rintro e x4 ⟨rfl, hb⟩
        have z0 := aid.kc hb z0
        have z1 := aid.kc hb z1
        have BZ := Lib.hid (aid.kb hb BZ.out)
        clear hb
        go_wp2_with fail
        refine (KPN.out _).mono ?_
        rintro e x5 ⟨rfl, hb⟩
        have z0 := aid.kc hb z0
        have z1 := aid.kc hb z1
        have BZ := Lib.hid (aid.kb hb BZ.out)
        clear hb
        go_wp2_with fail
        refine (KDN.out _).mono ?_
        rintro e x6 ⟨rfl, hb⟩
        have BZ := Lib.hid (aid.kb hb BZ.out)
        clear hb
        go_wp2_with fail
        refine (KLN.out _).mono ?_
        rintro e x7 ⟨rfl, hb⟩
        have BZ := Lib.hid (aid.kb hb BZ.out)
        clear hb
        go_wp2_with fail
        refine (KRI.out _).mono ?_
        rintro e x8 ⟨rfl, hb⟩
        have BZ := Lib.hid (aid.kb hb BZ.out)
        clear hb
        go_wp2_with fail
        go_ret
        exact ⟨rfl, BZ.out⟩
      · have hk1 : (0 : Int) < (k : Int) := by omega
        have h0 : (T.get (path 0 24)).isSome = true := (HG.out _).2 ⟨0, by omega, rfl⟩
        have KO := Lib.hid (put_old t T k k 0 7 24 w5 M5.out.tri (by decide) (by decide) (by decide) (by kernel_rfl) h0)
        have Z0 := Lib.hid z0
        have Z1 := Lib.hid z1
        clear z0 z1 h0
        go_wp2_with fail
        refine KO.out.mono ?_
        rintro e w6 ⟨rfl, hp⟩
        obtain ⟨T1, m1, g1, b1, k1, n1⟩ := mine_put M5.out B5.out.size hp
        have Y0 := Lib.hid (k1.cell Z0.out (fun h => Nat.lt_irrefl _ (NO.out _ h)))
        have Y1 := Lib.hid (k1.cell Z1.out (fun h => Nat.lt_irrefl _ (NO.out _ h)))
        have NO1 := Lib.hid (show ¬ own t T1 wr.heap.size from fun h => by
          rcases h with h | h
          · exact Nat.lt_irrefl _ (NO.out _ (.inl h))
          · rcases n1 _ h with h | h
            · exact Nat.lt_irrefl _ (NO.out _ (.inr h))
            · have := S5.out; omega)
        have G1 := Lib.hid g1
        have M6 := Lib.hid m1
        have B6 := Lib.hid (B5.out.trans b1)
        have KD := Lib.hid (drop_yes t T1 k k 0 24 w6 m1.tri (by decide) (by decide) (by decide) (by kernel_rfl) (by rw [g1, if_pos rfl]; rfl) (by omega) (by omega))
        clear hp m1 g1 b1 k1 n1 KO Z0 Z1 M5 B5 S5
        go_wp2_with fail
        refine KD.out.mono ?_
        rintro e w7 ⟨rfl, hp⟩
        obtain ⟨T2, m2, g2, b2, k2, n2⟩ := mine_drop M6.out B6.out.size hp
        have z0 := k2.cell Y0.out NO1.out
        have z1 := k2.cell Y1.out NO1.out
        have NO2 := Lib.hid (show ¬ own t T2 wr.heap.size from fun h => NO1.out (h.imp id (fun h => n2 _ h)))
        have hmn : T2.get (path 2147483648 1) = none := by
          rw [g2, if_neg (path_ne (by decide)), G1.out, if_neg (path_ne (by decide))]
          exact HMN.out
        have M7 := Lib.hid m2
        have B7 := Lib.hid (B6.out.trans b2)
        have KQ := Lib.hid (put_new t T2 k ((k : Int) - 1) 2147483648 1 1 w7 m2.tri (by decide) (by decide) (by decide) (by kernel_rfl) hmn (by omega) (by omega) (by omega))
        clear hp m2 g2 b2 k2 n2 hmn KD Y0 Y1 NO1 G1 M6 B6 NO HG HMN
        go_wp2_with fail
        refine KQ.out.mono ?_
        rintro e w8 ⟨rfl, hp⟩
        obtain ⟨T3, -, -, b3, k3, -⟩ := mine_put M7.out B7.out.size hp
        have z0 := k3.cell z0 NO2.out
        have z1 := k3.cell z1 NO2.out
        have BZ := Lib.hid (B7.out.trans b3)
        clear hp b3 k3 KQ NO2 M7 B7
        have KG := Lib.hid (fun W => get_no (.pointer none) 2147483648 1 W (fun W' _ => find_nil 2147483648 1 W'))
        have KLO := Lib.hid (fun W => longest_nil 0 W)
        have KAL := Lib.hid (fun W => all_nil 26 W)
        have KBE := Lib.hid (fun W => below_nil 27 2147483648 1 W)
        have KPN := Lib.hid (fun W => put_nil 2147483648 1 1 W)
        have KDN := Lib.hid (fun W => drop_no (.pointer none) 2147483648 1 W (fun W' _ => find_nil 2147483648 1 W'))
        have KLN := Lib.hid (fun W => trput.len_nil W)
        have KRI := Lib.hid (fun W => ref1.right_any 0 0 W (by decide) (by decide))
        rw [show rightB 0 0 = true by kernel_rfl] at KRI
        go_wp2_with fail
        refine (KG.out _).mono ?_
        rintro e x1 ⟨rfl, hb⟩
        have z0 := aid.kc hb z0
        have z1 := aid.kc hb z1
        have BZ := Lib.hid (aid.kb hb BZ.out)
        clear hb
        go_wp2_with fail
        refine (KLO.out _).mono ?_
        rintro e x2 ⟨rfl, hb⟩
        have y := aid.kb ((Below.refl x2.heap.size x2).alloc (Nat.le_refl _) (.cells #[.int .u32 0, .int .i64 0] 30)) hb
        have z0 := aid.kc y z0
        have z1 := aid.kc y z1
        have BZ := Lib.hid (aid.kb y BZ.out)
        clear hb y
        go_wp2_with fail
        refine (KAL.out _).mono ?_
        rintro e x3 ⟨rfl, hb⟩
        have z0 := aid.kc hb z0
        have z1 := aid.kc hb z1
        have BZ := Lib.hid (aid.kb hb BZ.out)
        clear hb
        go_wp2_with fail
        refine (KBE.out _).mono ?_
        rintro e x4 ⟨rfl, hb⟩
        have z0 := aid.kc hb z0
        have z1 := aid.kc hb z1
        have BZ := Lib.hid (aid.kb hb BZ.out)
        clear hb
        go_wp2_with fail
        refine (KPN.out _).mono ?_
        rintro e x5 ⟨rfl, hb⟩
        have z0 := aid.kc hb z0
        have z1 := aid.kc hb z1
        have BZ := Lib.hid (aid.kb hb BZ.out)
        clear hb
        go_wp2_with fail
        refine (KDN.out _).mono ?_
        rintro e x6 ⟨rfl, hb⟩
        have BZ := Lib.hid (aid.kb hb BZ.out)
        clear hb
        go_wp2_with fail
        refine (KLN.out _).mono ?_
        rintro e x7 ⟨rfl, hb⟩
        have BZ := Lib.hid (aid.kb hb BZ.out)
        clear hb
        go_wp2_with fail
        refine (KRI.out _).mono ?_
        rintro e x8 ⟨rfl, hb⟩
        have BZ := Lib.hid (aid.kb hb BZ.out)
        clear hb
        go_wp2_with fail
        go_ret
        exact ⟨rfl, BZ.out⟩

set_option maxRecDepth 100000 in
theorem lifted (os : Os) (started : os.Started) (H : Type) (enc : TypeId × Value → H) :
    ReturnsInHanded {} Try.checked os 5 .any (Rows.trieRoomSpec.pre6 enc Try.prog Try.f5 Rows.trieRoomRow.domain false) (Rows.trieRoomSpec.post enc Try.prog Try.f5 false true false false) := by
  refine returnsInHanded_of_change (C := Try.checked) own started (by kernel_rfl) Try.func5
    (ChangeSpec.witness6 (enc := enc) (C := Try.checked) false ⟨#[], #[.int .i64 0], []⟩ 8 (by kernel_rfl) (by kernel_rfl) (by kernel_rfl) (by kernel_rfl)) ?_
  intro W base args ds gs before hval0 hW hcnd _
  have hval : ∀ (j : Nat) t v, Try.f5.params[j]? = some t → args[j]? = some v → Value.okWide Try.prog W .any base t v := hval0
  obtain ⟨p, q, hA0, _⟩ := id hW
  have hA : DataW.TrodAll enc Try.prog W 0 (fun _ => true) true Try.f5.params.toList args.toList ds p := hA0
  rw [Try.params5] at hA hval
  obtain ⟨v0, vs0, d0, ds0, p0, q0, hargs, rfl, rfl, h0, r0⟩ := trodAll_cons hA
  obtain ⟨rfl, rfl, rfl⟩ := trodAll_nil r0
  obtain rfl : args = #[v0] := by cases args; simp_all
  obtain ⟨n, rfl, hn⟩ := open_i64 Try.underlying3 (hval 0 _ v0 rfl rfl) h0
  refine (walk n W hn).mono fun e W' ⟨he, hb⟩ => ⟨_, he, ?_⟩
  exact law_post laidOut rfl (by kernel_rfl) Try.underlying4 (by kernel_rfl) (fun ds h => by match ds, h with | [_], _ => rfl) hW hb

theorem over : Rows.trieRoomRow.holds Try.pinned (OpenSpec.ofChange Rows.trieRoomSpec) :=
  OpenClaim.holds_of_wide 5 Try.f5 rfl rfl rfl rfl rfl rfl rfl ⟨rfl, rfl, rfl, rfl, rfl⟩ rfl rfl rfl rfl rfl (by kernel_rfl) Try.func5 (by kernel_rfl)
    (of_decide_eq_true (by kernel_rfl)) (by unfold Func.isWrapper; first | (rw [if_pos (by decide +kernel)]; kernel_rfl) | (rw [if_neg (by decide +kernel)]; exact ⟨rfl, rfl⟩))
    (fun os started H enc _ => lifted os started H enc)

theorem proved : Rows.TrieRoomSaid := over
end Go.Proofs.Ytfealajbibofiaa.lawTrieRoom
