import Derived.Test.YtfealajbibofiaaTrEnt
import Derived.Test.YtfealajbibofiaaTrMap
import Derived.Test.YtfealajbibofiaaTrRow
import Derived.Test.YtfealajbibofiaaTail
import Derived.IntWalk
/- TrieBelow's two closures. -/
set_option linter.unusedVariables false
set_option linter.unusedSimpArgs false
namespace Go.Proofs.Ytfealajbibofiaa.trbel
open Go.RowKit Go.Lib Go.Proofs.Ytfealajbibofiaa.math1 Go.Proofs.Ytfealajbibofiaa.psof Go.Proofs.Ytfealajbibofiaa.trmath Go.Proofs.Ytfealajbibofiaa.trmem Go.Proofs.Ytfealajbibofiaa.trhead Go.Proofs.Ytfealajbibofiaa.trwalk Go.Proofs.Ytfealajbibofiaa.trent

def wrp (s : Int) : Int := IntKind.i64.wrap s
theorem wr_next (s : Int) : IntKind.i64.wrap (wrp s + 1) = wrp (s + 1) := by
  unfold wrp
  rw [IntKind.wrap_i64, IntKind.wrap_i64, IntKind.wrap_i64]
  omega
theorem wr_small {s : Int} (h0 : 0 ≤ s) (h1 : s < 1000) : wrp s = s := IntWalk.i64_in _ (by omega)

/-- the first: how many, and that all is right -/
def InvA (V : World) (nb rb : Nat) (s : Int) (W : World) : Prop := W.cell? ⟨nb, 0, none⟩ = some (.int .i64 (wrp s)) ∧ W.frozen? ⟨nb, 0, none⟩ = false ∧ W.cell? ⟨rb, 0, none⟩ = some (.bool true) ∧ W.frozen? ⟨rb, 0, none⟩ = false ∧ Below V.heap.size V W
theorem invA_below (V : World) (nb rb : Nat) (s : Int) (W W' : World) (h : InvA V nb rb s W) (k : Below W.heap.size W W') : InvA V nb rb s W' :=
  ⟨aid.kc k h.1, (k.frozen (p := ⟨nb, 0, none⟩) (World.block_lt_of_cell? _ _ h.1)).trans h.2.1, aid.kc k h.2.2.1, (k.frozen (p := ⟨rb, 0, none⟩) (World.block_lt_of_cell? _ _ h.2.2.1)).trans h.2.2.2.1, aid.kb k h.2.2.2.2⟩
def stepA (s : Int) (_ : (Int × Int) × Value) : Int × Bool := (s + 1, true)
theorem run_A : ∀ (es : List ((Int × Int) × Value)) (s : Int), run stepA s es = (s + es.length, true)
  | [], s => by simp [run]
  | e :: es, s => by
    rw [run, if_pos (show (stepA s e).2 = true from rfl), show (stepA s e).1 = s + 1 from rfl, run_A es (s + 1), List.length_cons]
    exact Prod.ext (by push_cast; omega) rfl
def OkA (px pn : Int) (N : Nat) (d : Array P2) (e : (Int × Int) × Value) : Prop := ∃ (y k : Int) (z : Nat), e = ((y, k), .int .i64 z) ∧ (0 ≤ y ∧ y < 4294967296) ∧ coversB px pn y k = true ∧ z < N ∧ d[z]! = (y, k)

set_option maxRecDepth 100000 in
set_option maxHeartbeats 1000000 in
theorem call_A (V : World) (nb rb pb sb : Nat) (px pn : Int) (a1 : Option Addr) (N c1 : Nat) (d : Array P2) (s : Int) (e : (Int × Int) × Value) (W : World) (hne : nb ≠ rb) (hnV : V.heap.size ≤ nb) (hrV : V.heap.size ≤ rb)
    (hp0 : V.cell? ⟨pb, 0, none⟩ = some (.int .u32 px)) (hp1 : V.cell? ⟨pb, 1, none⟩ = some (.int .i64 pn)) (hps : V.cell? ⟨sb, 0, none⟩ = some (.slice a1 N c1)) (hR : IsRow V (.slice a1 N c1) d) (hN : N = d.size) (hNm : N ≤ 40) (hpx : 0 ≤ px ∧ px < 4294967296) (hOK : OkA px pn N d e) (hI : InvA V nb rb s W) :
    Calls Try.prog 29 (#[.agg #[.int .u32 e.1.1, .int .i64 e.1.2], e.2] ++ #[.pointer (some ⟨nb, 0, none⟩), .pointer (some ⟨rb, 0, none⟩), .pointer (some ⟨pb, 0, none⟩), .pointer (some ⟨sb, 0, none⟩)]) W fun e1 w' => e1 = .returned (.bool true) ∧ InvA V nb rb (s + 1) w' ∧ Kept (fun q => q = nb ∨ q = rb) W w' := by
  obtain ⟨y, k, z, rfl, hy, hc, hz, hdz⟩ := hOK
  obtain ⟨c0, f0, c1', f1, hB⟩ := hI
  show Calls Try.prog 29 #[.agg #[.int .u32 y, .int .i64 k], .int .i64 z, .pointer (some ⟨nb, 0, none⟩), .pointer (some ⟨rb, 0, none⟩), .pointer (some ⟨pb, 0, none⟩), .pointer (some ⟨sb, 0, none⟩)] W _
  have hzd : z < d.size := by omega
  obtain ⟨b, o, rfl, r0, r1⟩ := (hR.below hB).at hzd
  rw [hdz] at r0 r1
  dsimp only at r0 r1
  have hzw := wr_next s
  unfold InvA
  obtain ⟨u, hu⟩ : ∃ u, u = wrp s := ⟨_, rfl⟩
  obtain ⟨u', hu'⟩ : ∃ u, u = wrp (s + 1) := ⟨_, rfl⟩
  rw [← hu] at c0 hzw
  rw [← hu'] at hzw ⊢
  have hz2 : wrap64 (u + 1) = u' := by rw [← IntWalk.i64_left]; exact hzw
  have nlt : nb < W.heap.size := World.block_lt_of_cell? _ _ c0
  have rlt : rb < W.heap.size := World.block_lt_of_cell? _ _ c1'
  have hsz := hB.size
  have far : ∀ (p : Addr) (x : Value), V.cell? p = some x → p.block ≠ nb ∧ p.block ≠ rb := fun p x hx => by
    have := World.block_lt_of_cell? _ _ hx
    omega
  have blt : b < V.heap.size := by
    rcases hR with ⟨e, _⟩ | ⟨b', o', cp, e, r, l⟩
    · cases e
    · simp only [Value.slice.injEq, Option.some.injEq, Addr.mk.injEq] at e
      omega
  obtain ⟨V1, hV1⟩ : ∃ V1, V1 = (W.alloc (.cells #[.int .u32 y, .int .i64 k] 30)).setCell ⟨nb, 0, none⟩ (.int .i64 u') := ⟨_, rfl⟩
  have a0 := aid.ca (.cells #[.int .u32 y, .int .i64 k] 30) c0
  have g0 : (W.alloc (.cells #[.int .u32 y, .int .i64 k] 30)).frozen? ⟨nb, 0, none⟩ = false := (World.frozen?_of_block (w := W) (Below.heap_alloc _ _ _ nlt)).trans f0
  have k1 : Kept (fun q => q = nb) W V1 := by rw [hV1]; exact (Kept.of_below (may := fun q => q = nb) ((Below.refl _ _).alloc (Nat.le_refl _) _)).setCell (p := ⟨nb, 0, none⟩) (.inl rfl) _
  have d0 : V1.cell? ⟨nb, 0, none⟩ = some (.int .i64 u') := by rw [hV1]; exact World.cell?_setCell_same _ _ _ a0
  have q0 : V1.cell? ⟨W.heap.size, 0, none⟩ = some (.int .u32 y) := by
    rw [hV1]; exact (World.cell?_setCell_other _ _ _ _ (fun e => by have := congrArg Addr.block e; dsimp only at this; omega)).trans (aid.new2a _ _ _ _)
  have q1 : V1.cell? ⟨W.heap.size, 1, none⟩ = some (.int .i64 k) := by
    rw [hV1]; exact (World.cell?_setCell_other _ _ _ _ (fun e => by have := congrArg Addr.block e; dsimp only at this; omega)).trans (aid.new2b _ _ _ _)
  have e0 : V1.cell? ⟨rb, 0, none⟩ = some (.bool true) := k1.cell c1' (fun h => hne h.symm)
  have e1 : V1.frozen? ⟨rb, 0, none⟩ = false := (World.frozen?_of_block (w := W) (k1.block rb rlt (fun h => hne h.symm))).trans f1
  have e2 : V1.frozen? ⟨nb, 0, none⟩ = false := by rw [hV1, World.frozen?_setCell]; exact g0
  have m0 := k1.cell (aid.kc hB hp0) (far _ _ hp0).1
  have m1 := k1.cell (aid.kc hB hp1) (far _ _ hp1).1
  have m2 := k1.cell (aid.kc hB hps) (far _ _ hps).1
  have m3 := k1.cell r0 (fun h => by dsimp only at h; omega)
  have m4 := k1.cell r1 (fun h => by dsimp only at h; omega)
  have kR := fun t : aid.Keep V1 => aid.keep_cell e0 t
  have k0 := fun t : aid.Keep V1 => aid.keep_cell m0 t
  have k1' := fun t : aid.Keep V1 => aid.keep_cell m1 t
  have k2 := fun t : aid.Keep V1 => aid.keep_cell m2 t
  have k3 := fun t : aid.Keep V1 => aid.keep_cell m3 t
  have k4 := fun t : aid.Keep V1 => aid.keep_cell m4 t
  have k5 := fun t : aid.Keep V1 => aid.keep_cell q0 t
  have k6 := fun t : aid.Keep V1 => aid.keep_cell q1 t
  have KC := Lib.hid (fun t : aid.Keep V1 => ip1.covers_any px pn y k t.world hpx.1 hpx.2 hy.1 hy.2)
  rw [hc] at KC
  have Q : ∀ W, (binOp .eql 30 (.agg #[.int .u32 y, .int .i64 k]) (.agg #[.int .u32 y, .int .i64 k])).run Try.prog W = .ok (.bool true) W := fun W => by have := ip1.eql_pfx y k y k W; simpa using this
  have HV1 := Lib.hid hV1
  have D0 := Lib.hid d0
  have E0 := Lib.hid e0
  have E1 := Lib.hid e1
  have E2 := Lib.hid e2
  have K1 := Lib.hid k1
  have HBB := Lib.hid hB
  have NV := Lib.hid (And.intro hnV hrV)
  have NLT := Lib.hid (And.intro nlt rlt)
  have HNE := Lib.hid hne
  clear hV1 d0 e0 e1 e2 k1 hB hu hu' r0 r1 m0 m1 m2 m3 m4 q0 q1 hp0 hp1 hps hR hc hdz hy hpx c1' f1 far blt hsz nlt rlt hnV hrV hne
  go_enter Try.func29, Try.ntmps29
  go_wp2_with fail
  rw [← HV1.out]
  refine tail.wp_region_keep_tail 24 (by kernel_rfl) (by kernel_rfl) ?_
  simp only [List.take_succ_cons, List.take_zero, List.drop_succ_cons, List.drop_zero]
  repeat (go_big_quiet_step ((go_at_call 30; (with_reducible exact aid.keep_call (KC.out _)))))
  refine wpQuiet_nil ?_
  rintro _ ⟨t, rfl⟩
  have x0 := aid.keep_cell E0.out t
  have x1 := (t.below.frozen (p := ⟨rb, 0, none⟩) (World.block_lt_of_cell? _ _ E0.out)).trans E1.out
  have x2 := aid.keep_cell D0.out t
  have x3 := (t.below.frozen (p := ⟨nb, 0, none⟩) (World.block_lt_of_cell? _ _ D0.out)).trans E2.out
  have BT := Lib.hid (show Below V.heap.size V t.world from HBB.out.trans ((K1.out.then t.below).below HBB.out.size (fun q hq e => by have := NV.out.1; omega)))
  have KT := Lib.hid (K1.out.then t.below)
  have y0 : (t.world.setCell ⟨rb, 0, none⟩ (.bool true)).cell? ⟨nb, 0, none⟩ = some (.int .i64 u') := (World.cell?_setCell_other _ _ _ _ (fun e => HNE.out (congrArg Addr.block e).symm)).trans x2
  have y1 : (t.world.setCell ⟨rb, 0, none⟩ (.bool true)).cell? ⟨rb, 0, none⟩ = some (.bool true) := World.cell?_setCell_same _ _ _ x0
  clear kR k0 k1' k2 k3 k4 k5 k6 c0 f0 a0 g0
  go_wp2_with fail
  go_ret
  exact ⟨rfl, ⟨y0, by rw [World.frozen?_setCell]; exact x3, y1, by rw [World.frozen?_setCell]; exact x1, BT.out.setCell (p := ⟨rb, 0, none⟩) NV.out.2 _⟩, (KT.out.imp (fun q h => .inl h)).setCell (p := ⟨rb, 0, none⟩) (.inl (.inr rfl)) _⟩

/-- the second: how many a prefix covers, and the longest that has an address -/
def InvB (V : World) (mb bb : Nat) (s : Int × Int) (W : World) : Prop := W.cell? ⟨mb, 0, none⟩ = some (.int .i64 (wrp s.1)) ∧ W.frozen? ⟨mb, 0, none⟩ = false ∧ W.cell? ⟨bb, 0, none⟩ = some (.int .i64 s.2) ∧ W.frozen? ⟨bb, 0, none⟩ = false ∧ Below V.heap.size V W
theorem invB_below (V : World) (mb bb : Nat) (s : Int × Int) (W W' : World) (h : InvB V mb bb s W) (k : Below W.heap.size W W') : InvB V mb bb s W' :=
  ⟨aid.kc k h.1, (k.frozen (p := ⟨mb, 0, none⟩) (World.block_lt_of_cell? _ _ h.1)).trans h.2.1, aid.kc k h.2.2.1, (k.frozen (p := ⟨bb, 0, none⟩) (World.block_lt_of_cell? _ _ h.2.2.1)).trans h.2.2.2.1, aid.kb k h.2.2.2.2⟩
def stepB (px pn a : Int) (s : Int × Int) (e : (Int × Int) × Value) : (Int × Int) × Bool := ((if coversB px pn e.1.1 e.1.2 = true then s.1 + 1 else s.1, if hasB e.1.1 e.1.2 a = true then (if e.1.2 ≤ s.2 then s.2 else e.1.2) else s.2), true)
def OkB (e : (Int × Int) × Value) : Prop := 0 ≤ e.1.1 ∧ e.1.1 < 4294967296

set_option maxRecDepth 100000 in
set_option maxHeartbeats 1000000 in
theorem call_B (V : World) (mb bb pb ab : Nat) (px pn a : Int) (s : Int × Int) (e : (Int × Int) × Value) (W : World) (hne : mb ≠ bb) (hnV : V.heap.size ≤ mb) (hrV : V.heap.size ≤ bb)
    (hp0 : V.cell? ⟨pb, 0, none⟩ = some (.int .u32 px)) (hp1 : V.cell? ⟨pb, 1, none⟩ = some (.int .i64 pn)) (hpa : V.cell? ⟨ab, 0, none⟩ = some (.int .u32 a)) (hpx : 0 ≤ px ∧ px < 4294967296) (ha : 0 ≤ a ∧ a < 4294967296) (hOK : OkB e) (hI : InvB V mb bb s W) :
    Calls Try.prog 31 (#[.agg #[.int .u32 e.1.1, .int .i64 e.1.2], e.2] ++ #[.pointer (some ⟨pb, 0, none⟩), .pointer (some ⟨mb, 0, none⟩), .pointer (some ⟨ab, 0, none⟩), .pointer (some ⟨bb, 0, none⟩)]) W fun e1 w' => e1 = .returned (.bool true) ∧ InvB V mb bb (stepB px pn a s e).1 w' ∧ Kept (fun q => q = mb ∨ q = bb) W w' := by
  obtain ⟨⟨y, k⟩, v⟩ := e
  obtain ⟨sm, sb⟩ := s
  obtain ⟨hy0, hy1⟩ := hOK
  obtain ⟨c0, f0, c1', f1, hB⟩ := hI
  dsimp only at hy0 hy1 c0 c1'
  show Calls Try.prog 31 #[.agg #[.int .u32 y, .int .i64 k], v, .pointer (some ⟨pb, 0, none⟩), .pointer (some ⟨mb, 0, none⟩), .pointer (some ⟨ab, 0, none⟩), .pointer (some ⟨bb, 0, none⟩)] W _
  have KC := Lib.hid (fun W => ip1.covers_any px pn y k W hpx.1 hpx.2 hy0 hy1)
  have KH := Lib.hid (fun W => ip1.has_any y k a W hy0 hy1 ha.1 ha.2)
  have hzw := wr_next sm
  obtain ⟨u, hu⟩ : ∃ u, u = wrp sm := ⟨_, rfl⟩
  obtain ⟨u', hu'⟩ : ∃ u, u = wrp (sm + 1) := ⟨_, rfl⟩
  rw [← hu] at c0 hzw
  rw [← hu'] at hzw
  have hz2 : wrap64 (u + 1) = u' := by rw [← IntWalk.i64_left]; exact hzw
  have mlt : mb < W.heap.size := World.block_lt_of_cell? _ _ c0
  have blt : bb < W.heap.size := World.block_lt_of_cell? _ _ c1'
  have hsz := hB.size
  have far : ∀ (p : Addr) (x : Value), V.cell? p = some x → p.block ≠ mb ∧ p.block ≠ bb := fun p x hx => by
    have := World.block_lt_of_cell? _ _ hx
    omega
  have KP := Lib.hid (show ∀ W', Kept (fun q => q = mb ∨ q = bb) W W' → W'.cell? ⟨pb, 0, none⟩ = some (.int .u32 px) ∧ W'.cell? ⟨pb, 1, none⟩ = some (.int .i64 pn) ∧ W'.cell? ⟨ab, 0, none⟩ = some (.int .u32 a) from fun W' hk =>
    ⟨hk.cell (aid.kc hB hp0) (fun h => h.elim (far _ _ hp0).1 (far _ _ hp0).2), hk.cell (aid.kc hB hp1) (fun h => h.elim (far _ _ hp1).1 (far _ _ hp1).2), hk.cell (aid.kc hB hpa) (fun h => h.elim (far _ _ hpa).1 (far _ _ hpa).2)⟩)
  have KV := Lib.hid (show ∀ W', Kept (fun q => q = mb ∨ q = bb) W W' → Below V.heap.size V W' from fun W' hk => hB.trans (hk.below hB.size (fun q hq e => by omega)))
  obtain ⟨V1, hV1⟩ : ∃ V1, V1 = W.alloc (.cells #[.int .u32 y, .int .i64 k] 30) := ⟨_, rfl⟩
  have b1 : Below W.heap.size W V1 := by rw [hV1]; exact (Below.refl _ _).alloc (Nat.le_refl _) _
  have q0 : V1.cell? ⟨W.heap.size, 0, none⟩ = some (.int .u32 y) := by rw [hV1]; exact aid.new2a _ _ _ _
  have q1 : V1.cell? ⟨W.heap.size, 1, none⟩ = some (.int .i64 k) := by rw [hV1]; exact aid.new2b _ _ _ _
  have HV1 := Lib.hid hV1
  have K1 := Lib.hid (Kept.of_below (may := fun q => q = mb ∨ q = bb) b1)
  have M0 := Lib.hid (aid.kc b1 c0)
  have M1 := Lib.hid ((b1.frozen (p := ⟨mb, 0, none⟩) mlt).trans f0)
  have N0 := Lib.hid (aid.kc b1 c1')
  have N1 := Lib.hid ((b1.frozen (p := ⟨bb, 0, none⟩) blt).trans f1)
  have Q0 := Lib.hid q0
  have Q1 := Lib.hid q1
  have HNE := Lib.hid hne
  have HLT := Lib.hid (And.intro mlt blt)
  -- the walk's own cell of the prefix is neither
  have WNE : Hid (¬ (W.heap.size = mb ∨ W.heap.size = bb)) := Lib.hid (fun h => by omega)
  obtain ⟨p0, p1, -⟩ := KP.out V1 K1.out
  have ep0 : (W.alloc (.cells #[.int .u32 y, .int .i64 k] 30)).cell? ⟨pb, 0, none⟩ = some (.int .u32 px) := hV1 ▸ p0
  have ep1 : (W.alloc (.cells #[.int .u32 y, .int .i64 k] 30)).cell? ⟨pb, 1, none⟩ = some (.int .i64 pn) := hV1 ▸ p1
  have eq0 : (W.alloc (.cells #[.int .u32 y, .int .i64 k] 30)).cell? ⟨W.heap.size, 0, none⟩ = some (.int .u32 y) := hV1 ▸ q0
  have eq1 : (W.alloc (.cells #[.int .u32 y, .int .i64 k] 30)).cell? ⟨W.heap.size, 1, none⟩ = some (.int .i64 k) := hV1 ▸ q1
  have hst : (stepB px pn a (sm, sb) ((y, k), v)).1 = (if coversB px pn y k = true then sm + 1 else sm, if hasB y k a = true then (if k ≤ sb then sb else k) else sb) := rfl
  rw [hst]
  unfold InvB
  dsimp only
  obtain ⟨bc, hbc⟩ : ∃ b, b = coversB px pn y k := ⟨_, rfl⟩
  obtain ⟨bh, hbh⟩ : ∃ b, b = hasB y k a := ⟨_, rfl⟩
  rw [← hbc] at KC ⊢
  rw [← hbh] at KH ⊢
  obtain ⟨bf, hbf⟩ : ∃ z, z = (if bh = true then (if k ≤ sb then sb else k) else sb) := ⟨_, rfl⟩
  rw [← hbf]
  have HBF := Lib.hid hbf
  clear hbf
  have HU := Lib.hid hu
  have HU' := Lib.hid hu'
  clear hV1 b1 q0 q1 c0 f0 c1' f1 hB hp0 hp1 hpa hpx ha hy0 hy1 hnV hrV hne mlt blt hsz far hst hbc hbh hu hu' p0 p1
  -- where the count stands behind the first part
  cases bc
  · simp only [Bool.false_eq_true, if_false] at KC ⊢
    go_enter Try.func31, Try.ntmps31
    go_wp2_with fail
    rw [← HV1.out]
    refine (KC.out _).mono ?_
    rintro e w2 ⟨rfl, hb2⟩
    have K2 := Lib.hid (K1.out.then hb2)
    have m0 := Lib.hid (aid.kc hb2 M0.out)
    have m1 := Lib.hid ((hb2.frozen (p := ⟨mb, 0, none⟩) (World.block_lt_of_cell? _ _ M0.out)).trans M1.out)
    have n0 := aid.kc hb2 N0.out
    have n1 := (hb2.frozen (p := ⟨bb, 0, none⟩) (World.block_lt_of_cell? _ _ N0.out)).trans N1.out
    have r0 := aid.kc hb2 Q0.out
    have r1 := aid.kc hb2 Q1.out
    obtain ⟨-, -, pa⟩ := KP.out w2 K2.out
    have R1 := Lib.hid r1
    have NN0 := Lib.hid n0
    have NN1 := Lib.hid n1
    clear hb2 ep0 ep1 eq0 eq1 M0 M1 N0 N1
    go_wp2_with fail
    refine (KH.out _).mono ?_
    rintro e w3 ⟨rfl, hb3⟩
    have K3 := Lib.hid (K2.out.then hb3)
    have mm0 := aid.kc hb3 m0.out
    have mm1 := (hb3.frozen (p := ⟨mb, 0, none⟩) (World.block_lt_of_cell? _ _ m0.out)).trans m1.out
    have nn0 := aid.kc hb3 NN0.out
    have nn1 := (hb3.frozen (p := ⟨bb, 0, none⟩) (World.block_lt_of_cell? _ _ NN0.out)).trans NN1.out
    have rr1 := aid.kc hb3 R1.out
    clear hb3 n0 n1 r0 r1 pa
    cases bh
    · have ebf : bf = sb := by rw [HBF.out]; simp
      go_wp2_with fail
      go_ret
      exact ⟨rfl, ⟨by rw [← HU.out]; exact mm0, mm1, by first | exact nn0 | (rw [ebf]; exact nn0), nn1, KV.out _ K3.out⟩, K3.out⟩
    · by_cases hle : ¬ k ≤ sb
      · have ebf : bf = k := by rw [HBF.out]; simp [hle]
        have z0 : (w3.setCell ⟨bb, 0, none⟩ (.int .i64 k)).cell? ⟨bb, 0, none⟩ = some (.int .i64 k) := World.cell?_setCell_same _ _ _ nn0
        have z1 : (w3.setCell ⟨bb, 0, none⟩ (.int .i64 k)).cell? ⟨mb, 0, none⟩ = some (.int .i64 u) := (World.cell?_setCell_other _ _ _ _ (fun e => HNE.out (congrArg Addr.block e).symm)).trans mm0
        have K4 := Lib.hid (K3.out.setCell (p := ⟨bb, 0, none⟩) (.inl (.inr rfl)) (.int .i64 k))
        go_wp2_with fail
        go_ret
        exact ⟨rfl, ⟨by rw [← HU.out]; exact z1, by rw [World.frozen?_setCell]; exact mm1, by first | exact z0 | (rw [ebf]; exact z0), by rw [World.frozen?_setCell]; exact nn1, KV.out _ K4.out⟩, K4.out⟩
      · have ebf : bf = sb := by rw [HBF.out]; simp [hle]
        have z0 : (w3.setCell ⟨bb, 0, none⟩ (.int .i64 sb)).cell? ⟨bb, 0, none⟩ = some (.int .i64 sb) := World.cell?_setCell_same _ _ _ nn0
        have z1 : (w3.setCell ⟨bb, 0, none⟩ (.int .i64 sb)).cell? ⟨mb, 0, none⟩ = some (.int .i64 u) := (World.cell?_setCell_other _ _ _ _ (fun e => HNE.out (congrArg Addr.block e).symm)).trans mm0
        have K4 := Lib.hid (K3.out.setCell (p := ⟨bb, 0, none⟩) (.inl (.inr rfl)) (.int .i64 sb))
        go_wp2_with fail
        go_ret
        exact ⟨rfl, ⟨by rw [← HU.out]; exact z1, by rw [World.frozen?_setCell]; exact mm1, by first | exact z0 | (rw [ebf]; exact z0), by rw [World.frozen?_setCell]; exact nn1, KV.out _ K4.out⟩, K4.out⟩
  · simp only [if_true] at KC ⊢
    go_enter Try.func31, Try.ntmps31
    go_wp2_with fail
    rw [← HV1.out]
    refine (KC.out _).mono ?_
    rintro e w2' ⟨rfl, hb2⟩
    have cm := aid.kc hb2 M0.out
    have fm := (hb2.frozen (p := ⟨mb, 0, none⟩) (World.block_lt_of_cell? _ _ M0.out)).trans M1.out
    have K2' := K1.out.then hb2
    obtain ⟨w2, hw2⟩ : ∃ W2, W2 = w2'.setCell ⟨mb, 0, none⟩ (.int .i64 u') := ⟨_, rfl⟩
    have K2 := Lib.hid (show Kept (fun q => q = mb ∨ q = bb) W w2 by rw [hw2]; exact K2'.setCell (p := ⟨mb, 0, none⟩) (.inl (.inl rfl)) _)
    have KS : Kept (fun q => q = mb) w2' w2 := by rw [hw2]; exact (Kept.refl (fun q => q = mb) w2').setCell (p := ⟨mb, 0, none⟩) (.inl rfl) _
    have m0 := Lib.hid (show w2.cell? ⟨mb, 0, none⟩ = some (.int .i64 u') by rw [hw2]; exact World.cell?_setCell_same _ _ _ cm)
    have m1 := Lib.hid (show w2.frozen? ⟨mb, 0, none⟩ = false by rw [hw2, World.frozen?_setCell]; exact fm)
    have n0 := KS.cell (aid.kc hb2 N0.out) (fun h => HNE.out h.symm)
    have n1 : w2.frozen? ⟨bb, 0, none⟩ = false := by rw [hw2, World.frozen?_setCell]; exact (hb2.frozen (p := ⟨bb, 0, none⟩) (World.block_lt_of_cell? _ _ N0.out)).trans N1.out
    have r0 := KS.cell (aid.kc hb2 Q0.out) (fun h => WNE.out (.inl h))
    have r1 := KS.cell (aid.kc hb2 Q1.out) (fun h => WNE.out (.inl h))
    obtain ⟨-, -, pa⟩ := KP.out w2 K2.out
    have R1 := Lib.hid r1
    have NN0 := Lib.hid n0
    have NN1 := Lib.hid n1
    have er0 : (w2'.setCell ⟨mb, 0, none⟩ (.int .i64 u')).cell? ⟨W.heap.size, 0, none⟩ = some (.int .u32 y) := hw2 ▸ r0
    have er1 : (w2'.setCell ⟨mb, 0, none⟩ (.int .i64 u')).cell? ⟨W.heap.size, 1, none⟩ = some (.int .i64 k) := hw2 ▸ r1
    have epa : (w2'.setCell ⟨mb, 0, none⟩ (.int .i64 u')).cell? ⟨ab, 0, none⟩ = some (.int .u32 a) := hw2 ▸ pa
    have HW2 := Lib.hid hw2
    clear hb2 ep0 ep1 eq0 eq1 M0 M1 N0 N1 K2' KS r0 r1 n0 n1 pa hw2
    go_wp2_with fail
    rw [← HW2.out]
    refine (KH.out _).mono ?_
    rintro e w3 ⟨rfl, hb3⟩
    have K3 := Lib.hid (K2.out.then hb3)
    have mm0 := aid.kc hb3 m0.out
    have mm1 := (hb3.frozen (p := ⟨mb, 0, none⟩) (World.block_lt_of_cell? _ _ m0.out)).trans m1.out
    have nn0 := aid.kc hb3 NN0.out
    have nn1 := (hb3.frozen (p := ⟨bb, 0, none⟩) (World.block_lt_of_cell? _ _ NN0.out)).trans NN1.out
    have rr1 := aid.kc hb3 R1.out
    clear hb3 er0 er1 epa cm fm
    cases bh
    · have ebf : bf = sb := by rw [HBF.out]; simp
      go_wp2_with fail
      go_ret
      exact ⟨rfl, ⟨by rw [← HU'.out]; exact mm0, mm1, by first | exact nn0 | (rw [ebf]; exact nn0), nn1, KV.out _ K3.out⟩, K3.out⟩
    · by_cases hle : ¬ k ≤ sb
      · have ebf : bf = k := by rw [HBF.out]; simp [hle]
        have z0 : (w3.setCell ⟨bb, 0, none⟩ (.int .i64 k)).cell? ⟨bb, 0, none⟩ = some (.int .i64 k) := World.cell?_setCell_same _ _ _ nn0
        have z1 : (w3.setCell ⟨bb, 0, none⟩ (.int .i64 k)).cell? ⟨mb, 0, none⟩ = some (.int .i64 u') := (World.cell?_setCell_other _ _ _ _ (fun e => HNE.out (congrArg Addr.block e).symm)).trans mm0
        have K4 := Lib.hid (K3.out.setCell (p := ⟨bb, 0, none⟩) (.inl (.inr rfl)) (.int .i64 k))
        go_wp2_with fail
        go_ret
        exact ⟨rfl, ⟨by rw [← HU'.out]; exact z1, by rw [World.frozen?_setCell]; exact mm1, by first | exact z0 | (rw [ebf]; exact z0), by rw [World.frozen?_setCell]; exact nn1, KV.out _ K4.out⟩, K4.out⟩
      · have ebf : bf = sb := by rw [HBF.out]; simp [hle]
        have z0 : (w3.setCell ⟨bb, 0, none⟩ (.int .i64 sb)).cell? ⟨bb, 0, none⟩ = some (.int .i64 sb) := World.cell?_setCell_same _ _ _ nn0
        have z1 : (w3.setCell ⟨bb, 0, none⟩ (.int .i64 sb)).cell? ⟨mb, 0, none⟩ = some (.int .i64 u') := (World.cell?_setCell_other _ _ _ _ (fun e => HNE.out (congrArg Addr.block e).symm)).trans mm0
        have K4 := Lib.hid (K3.out.setCell (p := ⟨bb, 0, none⟩) (.inl (.inr rfl)) (.int .i64 sb))
        go_wp2_with fail
        go_ret
        exact ⟨rfl, ⟨by rw [← HU'.out]; exact z1, by rw [World.frozen?_setCell]; exact mm1, by first | exact z0 | (rw [ebf]; exact z0), by rw [World.frozen?_setCell]; exact nn1, KV.out _ K4.out⟩, K4.out⟩
end Go.Proofs.Ytfealajbibofiaa.trbel
