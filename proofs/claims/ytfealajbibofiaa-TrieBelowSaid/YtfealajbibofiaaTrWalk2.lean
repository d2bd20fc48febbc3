import Derived.Test.YtfealajbibofiaaTrWalk1
import Derived.Test.YtfealajbibofiaaMath3
/- Package trie: walk, Below, All, by whatever machine. -/
set_option linter.unusedVariables false
set_option linter.unusedSimpArgs false
namespace Go.Proofs.Ytfealajbibofiaa.trwalk
open Go.RowKit Go.Lib Go.Proofs.Ytfealajbibofiaa.math1 Go.Proofs.Ytfealajbibofiaa.trmath Go.Proofs.Ytfealajbibofiaa.trmem Go.Proofs.Ytfealajbibofiaa.trgraft Go.Proofs.Ytfealajbibofiaa.trunder Go.Proofs.Ytfealajbibofiaa.trput Go.Proofs.Ytfealajbibofiaa.trdrop Go.Proofs.Ytfealajbibofiaa.trlong Go.Proofs.Ytfealajbibofiaa.trhead

theorem walk_any {S : Type} (F : FuncId) (caps : Array Value) (eg : ∀ args w, (callFunc F args).run Try.prog w = .ok (.enter F args) w) (Inv : S → World → Prop) (C : Nat → Prop) (step : S → ((Int × Int) × Value) → S × Bool) (OK : ((Int × Int) × Value) → Prop)
    (HINV : ∀ s W W', Inv s W → Below W.heap.size W W' → Inv s W')
    (KF : ∀ s e W, OK e → Inv s W → (∀ q, C q → q < W.heap.size) → Calls Try.prog F (#[.agg #[.int .u32 e.1.1, .int .i64 e.1.2], e.2] ++ caps) W fun e1 w' => e1 = .returned (.bool (step s e).2) ∧ Inv (step s e).1 w' ∧ Kept C W w') :
    ∀ (U : Tr) (x : Int) (n : Nat) (w : World) (s : S), In w U → (∀ q, q ∈ U.blocks → ¬ C q) → (∀ q, C q → q < w.heap.size) → Inv s w → rightB x n = true → 0 ≤ x → x < 4294967296 → n + U.height ≤ 33 → (∀ e, e ∈ entries U x n → OK e) →
    Calls Try.prog 46 #[U.ptr, .agg #[.int .u32 x, .int .i64 n], .func (.func F) #[] caps] w fun e w' => e = .returned (.bool (run step s (entries U x n)).2) ∧ Inv (run step s (entries U x n)).1 w' ∧ Kept C w w'
  | .nil, x, n, w, s, _, _, _, hI, _, _, _, _, _ => (walk_nil x n (.func (.func F) #[] caps) w).mono fun e w' ⟨he, hb⟩ => ⟨he, HINV s w w' hI hb, Kept.of_below hb⟩
  | .node b l r v hh, x, n, w, s, hin, hC, hCw, hI, hr, h0, h1, hht, hOK => by
    have ihl := fun x n w s => walk_any F caps eg Inv C step OK HINV KF l x n w s
    have ihr := fun x n w s => walk_any F caps eg Inv C step OK HINV KF r x n w s
    have hl : n + 1 + l.height ≤ 33 ∧ n + 1 + r.height ≤ 33 := by simp only [Tr.height] at hht; omega
    have hn32 : n ≤ 32 := by omega
    have cl : ∀ q, q ∈ l.blocks → ¬ C q := fun q hq => hC q (List.mem_cons_of_mem _ (List.mem_append_left _ hq))
    have cr : ∀ q, q ∈ r.blocks → ¬ C q := fun q hq => hC q (List.mem_cons_of_mem _ (List.mem_append_right _ hq))
    have e2 : ∀ e, e ∈ entries l x (n + 1) → OK e := fun e he => hOK e (List.mem_append_right _ (List.mem_append_left _ he))
    have e3 : ∀ e, e ∈ entries r (x + sz (n + 1)) (n + 1) → OK e := fun e he => hOK e (List.mem_append_right _ (List.mem_append_right _ he))
    obtain ⟨s0, b0, hs0⟩ : ∃ s0 b0, (s0, b0) = if hh then step s ((x, n), v) else (s, true) := ⟨_, _, rfl⟩
    obtain ⟨s1, b1, hs1⟩ : ∃ s1 b1, (s1, b1) = run step s0 (entries l x (n + 1)) := ⟨_, _, rfl⟩
    obtain ⟨s2, b2, hs2⟩ : ∃ s2 b2, (s2, b2) = run step s1 (entries r (x + sz (n + 1)) (n + 1)) := ⟨_, _, rfl⟩
    have hrun : run step s (entries (.node b l r v hh) x n) = (if b0 then if b1 then s2 else s1 else s0, b0 && b1 && b2) := by
      rw [entries, run_append]
      have hfirst : run step s (if hh then [((x, (n : Int)), v)] else []) = (s0, b0) := by
        rw [hs0]
        cases hh
        · rfl
        · simp only [if_true, run]
          by_cases h : (step s ((x, (n : Int)), v)).2 = true
          · rw [if_pos h]; exact Prod.ext rfl h.symm
          · rw [if_neg h]; exact Prod.ext rfl (by simpa using h)
      rw [hfirst]
      cases b0
      · simp
      · simp only [if_true]
        rw [run_append, ← hs1]
        cases b1
        · simp
        · simp only [if_true, Bool.true_and]
          rw [← hs2]
    rw [hrun]
    have KFH : Hid (∀ W, Inv s W → (∀ q, C q → q < W.heap.size) → hh = true → Calls Try.prog F (#[.agg #[.int .u32 x, .int .i64 n], v] ++ caps) W fun e w' => e = .returned (.bool b0) ∧ Inv s0 w' ∧ Kept C W w') := Lib.hid (fun W hW hc hht' => by
      subst hht'
      simp only [if_true] at hs0
      have := KF s ((x, (n : Int)), v) W (hOK _ (List.mem_append_left _ (List.mem_singleton.2 rfl))) hW hc
      rw [← hs0] at this
      exact this)
    have h00 : hh = false → b0 = true ∧ s0 = s := fun h => by
      subst h
      simp only [Bool.false_eq_true, if_false] at hs0
      exact ⟨congrArg Prod.snd hs0, congrArg Prod.fst hs0⟩
    by_cases h32 : n = 32
    · have hln : l = .nil := by cases l with | nil => rfl | node => simp only [Tr.height] at hl; omega
      have hrn : r = .nil := by cases r with | nil => rfl | node => simp only [Tr.height] at hl; omega
      subst hln hrn
      obtain ⟨x0, n0, e0, _, kh0⟩ := half_some x n 0 (.inl rfl) h0 h1
      obtain ⟨x1, n1, e1, _, kh1⟩ := half_some x n 1 (.inr rfl) h0 h1
      have a1 : s1 = s0 ∧ b1 = true := ⟨congrArg Prod.fst hs1, congrArg Prod.snd hs1⟩
      have a2 : s2 = s1 ∧ b2 = true := ⟨congrArg Prod.fst hs2, congrArg Prod.snd hs2⟩
      exact walk_step F caps eg Inv C b .nil .nil v hh x n w b0 b1 b2 s s0 s1 s2 (Lib.hid HINV) KFH h00 hin hC hCw hI x0 n0 e0 x1 n1 e1 (Lib.hid kh0) (Lib.hid kh1)
        (Lib.hid (fun W _ hW _ => by rw [a1.1, a1.2]; exact (walk_nil x0 n0 _ W).mono fun e w' ⟨he, hb⟩ => ⟨he, HINV _ _ _ hW hb, Kept.of_below hb⟩))
        (Lib.hid (fun W _ hW _ => by rw [a2.1, a2.2]; exact (walk_nil x1 n1 _ W).mono fun e w' ⟨he, hb⟩ => ⟨he, HINV _ _ _ hW hb, Kept.of_below hb⟩))
    · obtain ⟨r1, r2, -, -⟩ := right_mono hr (by omega)
      have hb := (half_bits x n h0 h1 (by omega) (by omega) (rightB_iff.1 hr).2.2).2
      have hsz := sz_pos ((n : Int) + 1)
      have kh0 := fun W => ip1.half_yes x n 0 W h0 h1 hr (by omega)
      have kh1 := fun W => ip1.half_yes x n 1 W h0 h1 hr (by omega)
      rw [show ip1.halfI x n 0 = x from rfl] at kh0
      rw [show ip1.halfI x n 1 = x + sz ((n : Int) + 1) from rfl] at kh1
      exact walk_step F caps eg Inv C b l r v hh x n w b0 b1 b2 s s0 s1 s2 (Lib.hid HINV) KFH h00 hin hC hCw hI x (n + 1) 0 (x + sz ((n : Int) + 1)) (n + 1) 0 (Lib.hid kh0) (Lib.hid kh1)
        (Lib.hid (fun W hW hIW hcW => by
          have := ihl x (n + 1) W s0 hW cl hcW hIW r1 h0 h1 hl.1 e2
          rw [show ((n + 1 : Nat) : Int) = (n : Int) + 1 from rfl] at this
          rw [← hs1] at this
          exact this))
        (Lib.hid (fun W hW hIW hcW => by
          have := ihr (x + sz ((n : Int) + 1)) (n + 1) W s1 hW cr hcW hIW r2 (by omega) hb hl.2 e3
          rw [show ((n + 1 : Nat) : Int) = (n : Int) + 1 from rfl] at this
          rw [← hs2] at this
          exact this))
set_option maxRecDepth 100000 in
set_option maxHeartbeats 2000000 in
theorem below_any {S : Type} (F : FuncId) (caps : Array Value) (eg : ∀ args w, (callFunc F args).run Try.prog w = .ok (.enter F args) w) (Inv : S → World → Prop) (C : Nat → Prop) (step : S → ((Int × Int) × Value) → S × Bool) (OK : ((Int × Int) × Value) → Prop)
    (HINV : ∀ s W W', Inv s W → Below W.heap.size W W' → Inv s W')
    (KF : ∀ s e W, OK e → Inv s W → (∀ q, C q → q < W.heap.size) → Calls Try.prog F (#[.agg #[.int .u32 e.1.1, .int .i64 e.1.2], e.2] ++ caps) W fun e1 w' => e1 = .returned (.bool (step s e).2) ∧ Inv (step s e).1 w' ∧ Kept C W w')
    (t : Nat) (T : Tr) (m c : Int) (x : Int) (n : Nat) (w : World) (s : S) (hT : Tri w t T m c) (hd : T.height ≤ 33) (hC : ∀ q, own t T q → ¬ C q) (hCw : ∀ q, C q → q < w.heap.size) (hI : Inv s w) (hr : rightB x n = true) (h0 : 0 ≤ x) (h1 : x < 4294967296) (hht : n + (T.sub (path x n)).height ≤ 33) (hOK : ∀ e, e ∈ entries (T.sub (path x n)) x n → OK e) :
    Calls Try.prog 18 #[.pointer (some ⟨t, 0, none⟩), .agg #[.int .u32 x, .int .i64 n], .func (.func F) #[] caps] w fun e w' => e = .returned (.tuple #[]) ∧ Inv (run step s (entries (T.sub (path x n)) x n)).1 w' ∧ Kept C w w' := by
  have hn : n ≤ 32 := by have := (rightB_iff.1 hr).2.1; omega
  have ba := (Below.refl w.heap.size w).alloc (Nat.le_refl _) (.cells #[.int .u32 x, .int .i64 n] 30)
  obtain ⟨V, hV⟩ : ∃ V, V = w.alloc (.cells #[.int .u32 x, .int .i64 n] 30) := ⟨_, rfl⟩
  rw [← hV] at ba
  have q0 : V.cell? ⟨w.heap.size, 0, none⟩ = some (.int .u32 x) := by rw [hV]; exact aid.new2a _ _ _ _
  have q1 : V.cell? ⟨w.heap.size, 1, none⟩ = some (.int .i64 n) := by rw [hV]; exact aid.new2b _ _ _ _
  have nw : ¬ C w.heap.size := fun h => Nat.lt_irrefl _ (hCw _ h)
  have HP0 := Lib.hid (show ∀ W, Kept C V W → W.cell? ⟨w.heap.size, 0, none⟩ = some (.int .u32 x) from fun W h => Kept.cell h q0 nw)
  have HP1 := Lib.hid (show ∀ W, Kept C V W → W.cell? ⟨w.heap.size, 0 + 1, none⟩ = some (.int .i64 n) from fun W h => Kept.cell h q1 nw)
  have TV := hT.below ba
  have ku := fun W (hb : Below V.heap.size V W) => under_any t T m c x n W (TV.below hb) h0 h1 hn hr
  have kw := fun W (hb : Below V.heap.size V W) => walk_any F caps eg Inv C step OK HINV KF (T.sub (path x n)) x n W s (in_sub (TV.below hb).tin _) (fun q hq => hC q (.inr (Tr.sub_blocks hq))) (fun q hq => Nat.lt_of_lt_of_le (hCw q hq) (Nat.le_trans ba.size hb.size)) (HINV _ _ _ (HINV _ _ _ hI ba) hb) hr h0 h1 hht hOK
  obtain ⟨pl, hpl⟩ : ∃ p, (T.sub (path x n)).ptr = .pointer p := by cases T.sub (path x n) <;> exact ⟨_, rfl⟩
  rw [hpl] at ku kw
  obtain ⟨sr, hsr⟩ : ∃ sr, sr = run step s (entries (T.sub (path x n)) x n) := ⟨_, rfl⟩
  rw [← hsr] at kw ⊢
  have KU := Lib.hid ku
  have KW := Lib.hid kw
  have HV := Lib.hid hV
  have HB := Lib.hid ba
  have Q := neq_nilC F caps
  clear ba hV TV ku kw hpl hT hsr q0 q1 nw hOK hht hI hC hCw hd KF HINV hr h0 h1 hn eg
  go_enter Try.func18, Try.ntmps18
  go_wp2_with fail
  rw [← HV.out]
  refine wp_region_noPanic ?_
  refine wp_region_held_drew (S := fun W => Kept C V W) (by kernel_rfl) ((Kept.refl _ _).drew) (fun hSx => ?_)
  change wpAnyH _ _ _ _ _ 6 _ _ _
  have hS0 : Kept C V V.drew := hSx
  clear hSx
  refine wpAnyH_take (i := 0) (v := .pointer (some ⟨t, 0, none⟩)) rfl (by kernel_rfl) (by kernel_rfl) (by kernel_rfl) (fun _ _ _ h => h) (.inl ⟨rfl, fun _ _ => rfl⟩) hS0 ?_
  try simp only [Act.put, List.setIfInBounds_toArray, List.set_cons_zero, List.set_cons_succ, List.getElem_toArray, List.getElem_cons_zero, List.getElem_cons_succ]
  refine wpAnyH_take (i := 1) (v := .agg #[.int .u32 x, .int .i64 n]) rfl (by kernel_rfl) (by kernel_rfl) (by kernel_rfl) (fun _ _ _ h => h) (yields_pfx rfl (.tmp 4) rfl w.heap.size 0 rfl _ _ HP0.out HP1.out) hS0 ?_
  try simp only [Act.put, List.setIfInBounds_toArray, List.set_cons_zero, List.set_cons_succ, List.getElem_toArray, List.getElem_cons_zero, List.getElem_cons_succ]
  refine wpAnyH_take (i := 3) (v := .agg #[.int .u32 x, .int .i64 n]) rfl (by kernel_rfl) (by kernel_rfl) (by kernel_rfl) (fun _ _ _ h => h) (yields_pfx rfl (.tmp 4) rfl w.heap.size 0 rfl _ _ HP0.out HP1.out) hS0 ?_
  try simp only [Act.put, List.setIfInBounds_toArray, List.set_cons_zero, List.set_cons_succ, List.getElem_toArray, List.getElem_cons_zero, List.getElem_cons_succ]
  refine wpAnyH_take (i := 4) (v := .func (.func F) #[] caps) rfl (by kernel_rfl) (by kernel_rfl) (by kernel_rfl) (fun _ _ _ h => h) (.inl ⟨rfl, fun _ _ => rfl⟩) hS0 ?_
  try simp only [Act.put, List.setIfInBounds_toArray, List.set_cons_zero, List.set_cons_succ, List.getElem_toArray, List.getElem_cons_zero, List.getElem_cons_succ]
  refine wpAnyH_ready (rs := [2]) (by kernel_rfl) (by simp) ?_
  refine AllReadyH.cons rfl (fun K hK => ?_) AllReadyH.nil
  go_simp
  refine (KU.out _ (Below.refl _ _).drew).mono ?_
  rintro e0 w2 ⟨rfl, hb2⟩
  have hS1 : Kept C V w2 := Kept.then (show Kept C V V.drew from hS0) hb2
  have bV2 : Below V.heap.size V w2 := (show Below V.heap.size V V.drew from (Below.refl _ _).drew).trans hb2
  go_wp2_with fail
  refine hK.out _ _ hS1 (fun _ => ?_)
  clear hK K
  try simp only [Act.put, List.setIfInBounds_toArray, List.set_cons_zero, List.set_cons_succ, List.getElem_toArray, List.getElem_cons_zero, List.getElem_cons_succ]
  refine wpAnyH_ready (rs := [5]) (by kernel_rfl) (by simp) ?_
  refine AllReadyH.cons rfl (fun K hK => ?_) AllReadyH.nil
  go_simp
  refine (KW.out _ bV2).mono ?_
  rintro e0 w3 ⟨rfl, hi3, hk3⟩
  have hS2 : Kept C V w3 := Kept.trans hS1 hk3 (fun _ _ h => h)
  go_wp2_with fail
  refine hK.out _ _ hS2 (fun _ => ?_)
  clear hK K
  try simp only [Act.put, List.setIfInBounds_toArray, List.set_cons_zero, List.set_cons_succ, List.getElem_toArray, List.getElem_cons_zero, List.getElem_cons_succ]
  refine wpAnyH_done (by kernel_rfl) ?_ _
  refine NoPanic.normal ?_
  have KF2 := Lib.hid (show Kept C w w3 from (Kept.of_below (may := C) HB.out).trans hS2 (fun _ _ h => h))
  have I3 := Lib.hid hi3
  clear hS0 hS1 hS2 hk3 hi3 hb2 bV2
  go_wp2_with fail
  go_end0
  exact ⟨rfl, I3.out, KF2.out⟩
theorem all_any {S : Type} (F : FuncId) (caps : Array Value) (eg : ∀ args w, (callFunc F args).run Try.prog w = .ok (.enter F args) w) (Inv : S → World → Prop) (C : Nat → Prop) (step : S → ((Int × Int) × Value) → S × Bool) (OK : ((Int × Int) × Value) → Prop)
    (HINV : ∀ s W W', Inv s W → Below W.heap.size W W' → Inv s W')
    (KF : ∀ s e W, OK e → Inv s W → (∀ q, C q → q < W.heap.size) → Calls Try.prog F (#[.agg #[.int .u32 e.1.1, .int .i64 e.1.2], e.2] ++ caps) W fun e1 w' => e1 = .returned (.bool (step s e).2) ∧ Inv (step s e).1 w' ∧ Kept C W w')
    (t : Nat) (T : Tr) (m c : Int) (w : World) (s : S) (hT : Tri w t T m c) (hd : T.height ≤ 33) (hC : ∀ q, own t T q → ¬ C q) (hCw : ∀ q, C q → q < w.heap.size) (hI : Inv s w) (hOK : ∀ e, e ∈ entries T 0 0 → OK e) :
    Calls Try.prog 23 #[.pointer (some ⟨t, 0, none⟩), .func (.func F) #[] caps] w fun e w' => e = .returned (.tuple #[]) ∧ Inv (run step s (entries T 0 0)).1 w' ∧ Kept C w w' := by
  have K := Lib.hid (below_any F caps eg Inv C step OK HINV KF t T m c 0 0 w s hT hd hC hCw hI (by kernel_rfl) (by decide) (by decide) (show 0 + T.height ≤ 33 by omega) hOK)
  obtain ⟨sr, hsr⟩ : ∃ sr, sr = run step s (entries T 0 0) := ⟨_, rfl⟩
  have K2 := Lib.hid (show Calls Try.prog 18 #[.pointer (some ⟨t, 0, none⟩), .agg #[.int .u32 0, .int .i64 0], .func (.func F) #[] caps] w fun e w' => e = .returned (.tuple #[]) ∧ Inv sr.1 w' ∧ Kept C w w' by rw [hsr]; exact K.out)
  rw [← hsr]
  clear hT hd hC hCw hI hOK K hsr KF HINV eg
  go_enter Try.func23, Try.ntmps23
  go_wp2_with fail
  refine (K2.out).mono ?_
  rintro e w1 ⟨rfl, hi, hk⟩
  have I := Lib.hid hi
  have KK := Lib.hid hk
  clear hi hk
  go_wp2_with fail
  go_end0
  exact ⟨rfl, I.out, KK.out⟩

/-- a trie is at most so deep -/
theorem height_le {T : Tr} : ∀ k : Nat, (∀ π, T.sub π ≠ .nil → π.length ≤ k) → T.height ≤ k + 1 := by
  induction T with
  | nil => intro k _; exact Nat.zero_le _
  | node b l r v hh ihl ihr =>
    intro k hk
    cases k with
    | zero =>
      have nl : l = .nil := by
        cases l with
        | nil => rfl
        | node => have := hk [false] (fun h => by cases h); simp at this
      have nr : r = .nil := by
        cases r with
        | nil => rfl
        | node => have := hk [true] (fun h => by cases h); simp at this
      subst nl nr
      simp [Tr.height]
    | succ k =>
      have h1 := ihl k (fun π h => by have := hk (false :: π) h; simp at this; omega)
      have h2 := ihr k (fun π h => by have := hk (true :: π) h; simp at this; omega)
      simp only [Tr.height]; omega
theorem dep_height {T : Tr} (h : T.Dep) : T.height ≤ 33 := height_le 32 h

/-- the paths at which something stands, in order -/
def keysT : Tr → List (List Bool)
  | .nil => []
  | .node _ l r _ h => (if h then [[]] else []) ++ ((keysT l).map (false :: ·) ++ (keysT r).map (true :: ·))
theorem keys_len : ∀ (U : Tr) (x n : Int), (entries U x n).length = (keysT U).length
  | .nil, _, _ => rfl
  | .node b l r v h, x, n => by
    rw [entries, keysT, List.length_append, List.length_append, List.length_append, List.length_append, List.length_map, List.length_map, keys_len l, keys_len r]
    cases h <;> rfl
theorem keys_mem : ∀ (U : Tr) (σ : List Bool), σ ∈ keysT U ↔ (U.get σ).isSome = true
  | .nil, σ => by rw [Tr.get_nil]; simp [keysT]
  | .node b l r v h, σ => by
    rw [keysT, List.mem_append, List.mem_append]
    match σ with
    | [] => cases h <;> simp [Tr.get, Tr.sub, Tr.val]
    | false :: σ =>
      have := keys_mem l σ
      rw [show (Tr.node b l r v h).get (false :: σ) = l.get σ from rfl, ← this]
      cases h <;> simp
    | true :: σ =>
      have := keys_mem r σ
      rw [show (Tr.node b l r v h).get (true :: σ) = r.get σ from rfl, ← this]
      cases h <;> simp
theorem keys_nodup : ∀ U : Tr, (keysT U).Nodup
  | .nil => List.nodup_nil
  | .node b l r v h => by
    rw [keysT, List.nodup_append]
    refine ⟨by cases h <;> simp, ?_, ?_⟩
    · rw [List.nodup_append]
      refine ⟨List.Pairwise.map _ (fun a b h e => h (List.cons.inj e).2) (keys_nodup l), List.Pairwise.map _ (fun a b h e => h (List.cons.inj e).2) (keys_nodup r), ?_⟩
      intro a ha b hb e
      obtain ⟨_, _, rfl⟩ := List.mem_map.1 ha
      obtain ⟨_, _, h2⟩ := List.mem_map.1 hb
      rw [← e] at h2; cases h2
    · intro a ha b hb e
      have h0 : a = [] := by cases h <;> simp at ha; exact ha
      rcases List.mem_append.1 hb with hb | hb
      · obtain ⟨_, _, h2⟩ := List.mem_map.1 hb
        rw [← e, h0] at h2; cases h2
      · obtain ⟨_, _, h2⟩ := List.mem_map.1 hb
        rw [← e, h0] at h2; cases h2
theorem cnt_len {T : Tr} {c : Int} (h : trmap.Cnt T c) (x n : Int) : ((entries T x n).length : Int) = c := by
  rw [keys_len]
  obtain ⟨K, n1, m1, l1⟩ := h
  have : K.Perm (keysT T) := (List.perm_ext_iff_of_nodup n1 (keys_nodup T)).2 (fun σ => by rw [m1, keys_mem])
  rw [← l1, this.length_eq]
end Go.Proofs.Ytfealajbibofiaa.trwalk
