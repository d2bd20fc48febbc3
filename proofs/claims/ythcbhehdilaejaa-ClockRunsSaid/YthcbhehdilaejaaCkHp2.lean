import Derived.Test.YthcbhehdilaejaaCkHp
import Derived.Deep.RegionLaw
import Derived.Deep.MidRow
import Derived.IntWalk
/- A clock's entries: Len, Push, Pop; what a call leaves. -/
set_option linter.unusedVariables false
set_option linter.unusedSimpArgs false
namespace Go.Proofs.Ythcbhehdilaejaa.ck
open Go.RowKit Go.Lib Go.Proofs.Ythcbhehdilaejaa.ckmath

/-- but for some blocks, all that was there is as it was -/
structure Kept (may : Nat → Prop) (w w' : World) : Prop where
  os : w'.os = w.os
  tape : w'.tape = w.tape
  output : w'.output = w.output
  size : w.heap.size ≤ w'.heap.size
  block : ∀ k, k < w.heap.size → ¬ may k → w'.heap[k]? = w.heap[k]?
theorem Kept.of_below {may : Nat → Prop} {w w' : World} (h : Below w.heap.size w w') : Kept may w w' := ⟨h.os, h.tape, h.output, h.size, fun k hk _ => h.block k hk⟩
theorem Kept.refl (may : Nat → Prop) (w : World) : Kept may w w := ⟨rfl, rfl, rfl, Nat.le_refl _, fun _ _ _ => rfl⟩
theorem Kept.trans {m m' : Nat → Prop} {a b c : World} (h : Kept m a b) (k : Kept m' b c) (hm : ∀ x, x < a.heap.size → m' x → m x) : Kept m a c :=
  ⟨k.os.trans h.os, k.tape.trans h.tape, k.output.trans h.output, Nat.le_trans h.size k.size, fun i hi hn => (k.block i (Nat.lt_of_lt_of_le hi h.size) (fun hx => hn (hm i hi hx))).trans (h.block i hi hn)⟩
theorem Kept.then {m : Nat → Prop} {a b c : World} (h : Kept m a b) (k : Below b.heap.size b c) : Kept m a c := h.trans (Kept.of_below (may := fun _ => False) k) (fun _ _ h => h.elim)
theorem Kept.drew {m : Nat → Prop} {a b : World} (h : Kept m a b) : Kept m a b.drew := ⟨h.os, h.tape, h.output, h.size, h.block⟩
theorem Kept.setCell {m : Nat → Prop} {a b : World} (h : Kept m a b) {p : Addr} (hp : m p.block ∨ a.heap.size ≤ p.block) (v : Value) : Kept m a (b.setCell p v) :=
  ⟨h.os, h.tape, h.output, by have := h.size; simp [World.setCell]; exact this, fun k hk hn => (Below.heap_setCell _ _ _ _ (fun e => by
    rcases hp with hp | hp
    · exact hn (e ▸ hp)
    · omega)).trans (h.block k hk hn)⟩
theorem Kept.below {m : Nat → Prop} {B : Nat} {a b : World} (h : Kept m a b) (hB : B ≤ a.heap.size) (hm : ∀ x, x < B → ¬ m x) : Below B a b := ⟨h.os, h.tape, h.output, h.size, fun k hk => h.block k (by omega) (hm k hk)⟩
theorem Kept.cell {m : Nat → Prop} {a b : World} (h : Kept m a b) {p : Addr} {v : Value} (hc : a.cell? p = some v) (hp : ¬ m p.block) : b.cell? p = some v :=
  (World.cell?_of_block (h.block p.block (World.block_lt_of_cell? a p hc) hp)).trans hc
theorem Kept.of_grown {m : Nat → Prop} {w w' : World} {r : Option Nat} (h : w.grownBy w' r) (hr : ∀ x, r = some x → m x) : Kept m w w' := ⟨h.os, h.tape, h.output, h.size, fun k hk hn => h.block k hk (fun e => hn (hr k e.symm))⟩

def mine (c : Nat) (v : Value) (x : Nat) : Prop := x = c ∨ v.ownBlock = some x
/-- what a call on a clock's entries leaves: all but the clock's own blocks is as it was; its blocks are the old ones, or new ones -/
structure Tr (w : World) (c : Nat) (v : Value) (w' : World) (v' : Value) : Prop where
  kept : Kept (mine c v) w w'
  fresh : ∀ x, mine c v' x → mine c v x ∨ w.heap.size ≤ x
theorem Tr.refl (w : World) (c : Nat) (v : Value) : Tr w c v w v := ⟨Kept.refl _ _, fun x h => .inl h⟩
theorem Tr.of_below {w w' : World} {c : Nat} {v : Value} (h : Below w.heap.size w w') : Tr w c v w' v := ⟨Kept.of_below h, fun x h => .inl h⟩
theorem Tr.trans {w w1 w2 : World} {c : Nat} {v v1 v2 : Value} (h : Tr w c v w1 v1) (k : Tr w1 c v1 w2 v2) : Tr w c v w2 v2 :=
  ⟨h.kept.trans k.kept (fun x hx hm => (h.fresh x hm).resolve_right (by omega)), fun x hx => by
    rcases k.fresh x hx with h1 | h1
    · exact h.fresh x h1
    · exact .inr (Nat.le_trans h.kept.size h1)⟩
theorem Tr.then {w w1 w2 : World} {c : Nat} {v v1 : Value} (h : Tr w c v w1 v1) (k : Below w1.heap.size w1 w2) : Tr w c v w2 v1 := h.trans (Tr.of_below k)
theorem Hp.same {w w' : World} {B c : Nat} {v : Value} {now : Int} {l : Array E} (h : Hp w B c v now l) (hb : ∀ k, k < w.heap.size → mine c v k → w'.heap[k]? = w.heap[k]?) : Hp w' B c v now l := by
  have hc := hb c h.lt (.inl rfl)
  refine ⟨(World.cell?_of_block (a := ⟨c, 0, none⟩) hc).trans h.c0, (World.cell?_of_block (a := ⟨c, 1, none⟩) hc).trans h.c1, (World.frozen?_of_block (a := ⟨c, 0, none⟩) hc).trans h.f0, (World.frozen?_of_block (a := ⟨c, 1, none⟩) hc).trans h.f1, ⟨h.own.1, ?_⟩, h.nb, h.hB⟩
  rcases h.own.2 with hn | ⟨g, cap, cur, hv, hb1, hgg, rest⟩
  · exact .inl hn
  · refine .inr ⟨g, cap, cur, hv, hb1, ?_, rest⟩
    rw [hb g (Array.getElem?_eq_some_iff.1 hgg).1 (.inr (by rw [hv]; rfl))]
    exact hgg
theorem Hp.below {w w' : World} {B c : Nat} {v : Value} {now : Int} {l : Array E} (h : Hp w B c v now l) (hb : Below w.heap.size w w') : Hp w' B c v now l := h.same fun k hk _ => hb.block k hk
theorem Hp.kept {m : Nat → Prop} {w w' : World} {B c : Nat} {v : Value} {now : Int} {l : Array E} (h : Hp w B c v now l) (hb : Kept m w w') (hm : ∀ x, mine c v x → ¬ m x) : Hp w' B c v now l := h.same fun k hk ho => hb.block k hk (hm k ho)
theorem Hp.shape {w : World} {B c : Nat} {v : Value} {now : Int} {l : Array E} (h : Hp w B c v now l) : ∃ a cap, v = .slice a l.size cap := by
  rcases h.own.2 with ⟨hv, h0⟩ | ⟨g, cap, cur, hv, _⟩
  · exact ⟨none, 0, by rw [hv, h0]⟩
  · exact ⟨_, _, hv⟩
theorem Hp.form {w : World} {B c : Nat} {v : Value} {now : Int} {l : Array E} (h : Hp w B c v now l) (hl : 0 < l.size) : ∃ g cap, v = .slice (some ⟨g, 0, none⟩) l.size cap ∧ l.size ≤ cap := by
  rcases h.own.2 with ⟨hv, h0⟩ | ⟨g, cap, cur, hv, _, _, hc, _⟩
  · omega
  · exact ⟨_, _, hv, hc⟩
theorem Hp.ownLt {w : World} {B c : Nat} {v : Value} {now : Int} {l : Array E} (h : Hp w B c v now l) {x : Nat} (hx : mine c v x) : B ≤ x ∧ x < w.heap.size := by
  rcases hx with rfl | hx
  · exact ⟨h.hB, h.lt⟩
  · exact h.own.lt x hx
theorem Tr.below {w w' : World} {B c : Nat} {v v' : Value} {now : Int} {l : Array E} (h : Tr w c v w' v') (hp : Hp w B c v now l) (hB : B ≤ w.heap.size) : Below B w w' := h.kept.below hB fun x hx hm => by have := (hp.ownLt hm).1; omega

theorem own_less {w : World} {B g n cap : Nat} {e : TypeId} {s : Nat} {xs : List Value} (h : w.ownsRow B e s (.slice (some ⟨g, 0, none⟩) n cap) n xs) (m : Nat) (hm : m ≤ n) : w.ownsRow B e s (.slice (some ⟨g, 0, none⟩) m cap) m (xs.take (m * s)) := by
  have hms : m * s ≤ n * s := Nat.mul_le_mul_right _ hm
  refine ⟨by rw [List.length_take, h.1]; omega, ?_⟩
  rcases h.2 with ⟨hv, _⟩ | ⟨g', cap', cur, hv, hb, hg, hc, hm', hs, ht⟩
  · cases hv
  · simp only [Value.slice.injEq, Option.some.injEq, Addr.mk.injEq, and_true, true_and] at hv
    obtain ⟨rfl, rfl⟩ := hv
    exact .inr ⟨g, cap, cur, rfl, hb, hg, by omega, hm', hs, by rw [← ht, List.take_take, Nat.min_eq_left hms]⟩
theorem fl2_pop (l : Array E) : (fl2 l).take ((l.size - 1) * 2) = fl2 l.pop := by
  apply fl2_ext
  · rw [List.length_take, fl2_len, Array.size_pop]; omega
  · intro k hk
    have hk' : k < l.size - 1 := by simpa using hk
    have g0 := fl2_get l k 0 (by omega) (by omega)
    have g1 := fl2_get l k 1 (by omega) (by omega)
    rw [Nat.add_zero] at g0
    have e : l.pop[k]! = l[k]! := by
      rw [getElem!_pos _ k hk, getElem!_pos l k (by omega), Array.getElem_pop]
    rw [e]
    exact ⟨by rw [List.getElem?_take_of_lt (by omega), g0]; rfl, by rw [List.getElem?_take_of_lt (by omega), g1]; rfl⟩

set_option maxRecDepth 100000 in
theorem len_any (a : Option Addr) (n cap : Nat) (w : World) : Calls Try.prog 40 #[.slice a n cap] w fun e w' => e = .returned (.int .i64 n) ∧ w = w' := by
  go_enter Try.func40, Try.ntmps40
  go_wp2_with fail
  go_ret
  exact ⟨rfl, rfl⟩

theorem infoDue : ∃ i, Try.prog.info? 48 = some i ∧ i.zero = some (.agg #[.int .i64 0, .int .i64 0]) ∧ i.size = 2 ∧ i.bytes = 16 := by
  have h : (Try.prog.info? 48).map (fun i => (i.zero, i.size, i.bytes)) = some (some (.agg #[.int .i64 0, .int .i64 0]), 2, 16) := by kernel_rfl
  cases e : Try.prog.info? 48 with
  | none => rw [e] at h; cases h
  | some i =>
    rw [e, Option.map_some] at h
    simp only [Option.some.injEq, Prod.mk.injEq] at h
    exact ⟨i, rfl, h.1, h.2.1, h.2.2⟩

theorem grown_set (W : World) (p : Addr) (u : Value) : W.grownBy (W.setCell p u) (some p.block) := ⟨rfl, rfl, rfl, by simp, fun k _ hk => heap_setCell_other W p k u (fun e => hk (by rw [e]))⟩
theorem hp_set1 {W : World} {B c : Nat} {v s : Value} {now : Int} {l : Array E} (h0 : W.cell? ⟨c, 0, none⟩ = some (.int .i64 now)) (h1 : W.cell? ⟨c, 1, none⟩ = some v) (f0 : W.frozen? ⟨c, 0, none⟩ = false) (f1 : W.frozen? ⟨c, 1, none⟩ = false)
    (o : W.ownsRow B 48 2 s l.size (fl2 l)) (nb : s.ownBlock ≠ some c) (hB : B ≤ c) : Hp (W.setCell ⟨c, 1, none⟩ s) B c s now l :=
  ⟨(World.cell?_setCell_other _ _ _ _ (fun e => by have := congrArg Addr.off e; dsimp only at this; omega)).trans h0, World.cell?_setCell_same _ _ _ h1, by rw [World.frozen?_setCell]; exact f0, by rw [World.frozen?_setCell]; exact f1, o.kept (grown_set _ _ _) (.inr nb), nb, hB⟩
theorem hp_set0 {W : World} {B c : Nat} {v : Value} {now t : Int} {l : Array E} (h : Hp W B c v now l) : Hp (W.setCell ⟨c, 0, none⟩ (.int .i64 t)) B c v t l :=
  ⟨World.cell?_setCell_same _ _ _ h.c0, (World.cell?_setCell_other _ _ _ _ (fun e => by have := congrArg Addr.off e; dsimp only at this; omega)).trans h.c1, by rw [World.frozen?_setCell]; exact h.f0, by rw [World.frozen?_setCell]; exact h.f1, h.own.kept (grown_set _ _ _) (.inr h.nb), h.nb, h.hB⟩
theorem push_end {W w3 : World} {B c g cap : Nat} {v : Value} {now : Int} {l : Array E} {x : E} {ob : Obj} (hp : Hp W B c v now l) (o3 : w3.ownsRow B 48 2 (.slice (some ⟨g, 0, none⟩) (l.size + 1) cap) (l.size + 1) (fl2 l ++ enc2 x))
    (g3 : (W.alloc ob).drew.grownBy w3 v.ownBlock) (a3 : v.ownBlock = some g ∨ g = (W.alloc ob).drew.heap.size) :
    Hp (w3.setCell ⟨c, 1, none⟩ (.slice (some ⟨g, 0, none⟩) (l.size + 1) cap)) B c (.slice (some ⟨g, 0, none⟩) (l.size + 1) cap) now (l.push x) ∧ Tr W c v (w3.setCell ⟨c, 1, none⟩ (.slice (some ⟨g, 0, none⟩) (l.size + 1) cap)) (.slice (some ⟨g, 0, none⟩) (l.size + 1) cap) := by
  have hlt := hp.lt
  have hsz : (W.alloc ob).drew.heap.size = W.heap.size + 1 := by simp
  have gc : g ≠ c := fun e => by
    rcases a3 with a3 | a3
    · exact hp.nb (by rw [a3, e])
    · rw [hsz] at a3; omega
  have blk : ∀ k, k < W.heap.size → some k ≠ v.ownBlock → w3.heap[k]? = W.heap[k]? := fun k hk hn => (g3.block k (by omega) hn).trans ((((Below.refl W.heap.size W).alloc (Nat.le_refl _) ob).drew).block k hk)
  have hc := blk c hlt (fun e => hp.nb e.symm)
  refine ⟨hp_set1 ((World.cell?_of_block (a := ⟨c, 0, none⟩) hc).trans hp.c0) ((World.cell?_of_block (a := ⟨c, 1, none⟩) hc).trans hp.c1) ((World.frozen?_of_block (a := ⟨c, 0, none⟩) hc).trans hp.f0) ((World.frozen?_of_block (a := ⟨c, 1, none⟩) hc).trans hp.f1) ?_ (fun e => gc (by simpa [Value.ownBlock] using e)) hp.hB, ?_, ?_⟩
  · rw [Array.size_push, fl2_push]; exact o3
  · have k1 : Kept (mine c v) W w3 := ⟨g3.os, g3.tape, g3.output, by have := g3.size; omega, fun k hk hn => blk k hk (fun e => hn (.inr e.symm))⟩
    exact k1.setCell (.inl (.inl rfl)) _
  · intro y hy
    rcases hy with rfl | hy
    · exact .inl (.inl rfl)
    · have hy : g = y := by simpa [Value.ownBlock] using hy
      subst hy
      rcases a3 with a3 | a3
      · exact .inl (.inr a3)
      · right; omega
theorem assert_due (x : Value) (W : World) : Sem.run Try.prog (Instr.typeAssert (.iface 48 x) 20 48 false) W = .ok x W := by kernel_rfl
set_option maxRecDepth 100000 in
set_option maxHeartbeats 2000000 in
theorem push_any (B c : Nat) (v : Value) (now : Int) (l : Array E) (x1 x2 : Int) (w : World) (hp : Hp w B c v now l) (hB : B ≤ w.heap.size) (hm : l.size ≤ 1000) :
    Calls Try.prog 47 #[.pointer (some ⟨c, 1, none⟩), .iface 48 (.agg #[.int .i64 x1, .int .i64 x2])] w fun e w' => e = .returned (.tuple #[]) ∧ ∃ v', Hp w' B c v' now (l.push (x1, x2)) ∧ Tr w c v w' v' := by
  have HP := Lib.hid hp
  have c1 := hp.c1
  have f1 := hp.f1
  have hlt := hp.lt
  have OWN := Lib.hid ((hp.own.alloc (.cells #[.int .i64 x1, .int .i64 x2] 48)).drew)
  have NB := Lib.hid hp.nb
  obtain ⟨it, i1, i2, i3, i4⟩ := infoDue
  have J1 := Lib.hid i1
  have J2 := Lib.hid i2
  have J3 := Lib.hid i3
  have J4 := Lib.hid i4
  have E1 : ∀ u ∈ enc2 (x1, x2), u.oneCell' = true := fun u hu => by simp [enc2] at hu; rcases hu with rfl | rfl <;> rfl
  have NW := Lib.hid (show ∀ (j : Nat) u, (enc2 (x1, x2))[j]? = some u → (w.alloc (.cells #[.int .i64 x1, .int .i64 x2] 48)).drew.cell? ((⟨w.heap.size, 0, none⟩ : Addr).add j) = some u from fun j u hu => by
    rw [Addr.add_mid]
    match j, hu with
    | 0, hu => simp [enc2] at hu; rw [← hu]; exact aid.new2a w _ _ _
    | 1, hu => simp [enc2] at hu; rw [← hu]; exact aid.new2b w _ _ _
    | j + 2, hu => simp [enc2] at hu)
  have CA : (w.alloc (.cells #[.int .i64 x1, .int .i64 x2] 48)).drew.cell? ⟨c, 1, none⟩ = some v := aid.ca _ c1
  have FA : (w.alloc (.cells #[.int .i64 x1, .int .i64 x2] 48)).drew.frozen? ⟨c, 1, none⟩ = false := (((Below.refl w.heap.size w).alloc (Nat.le_refl _) _).frozen (p := ⟨c, 1, none⟩) hlt).trans f1
  have LA : c < (w.alloc (.cells #[.int .i64 x1, .int .i64 x2] 48)).drew.heap.size := by simp; omega
  have NE : some c ≠ v.ownBlock := fun e => NB.out e.symm
  have TA := assert_due (.agg #[.int .i64 x1, .int .i64 x2])
  clear hp i1 i2 i3 i4
  go_enter Try.func47, Try.ntmps47
  go_region_law
    (refine step_append_lies _ (by rfl) (.tmp 7) (.tmp 10) 43 (by rfl) B 48 it (.agg #[.int .i64 0, .int .i64 0]) 2 16 und43 J1.out J2.out J3.out J4.out rfl (by decide) _ l.size (fl2 l) rfl OWN.out ⟨w.heap.size, 0, none⟩ 1 1 (enc2 (x1, x2)) rfl rfl NW.out E1 (by decide) (by unfold maxLen; omega) (by omega) (by simp; omega) _ rfl ?_; intro g cap' w3 hown3 hgrow3 hat3 hlt3; have cw3 := (hgrow3.cell_far ⟨c, 1, none⟩ LA NE).trans CA; have fw3 := (hgrow3.frozen_far ⟨c, 1, none⟩ LA NE).trans FA)
  all_goals
    have O3 := Lib.hid hown3
    have G3 := Lib.hid hgrow3
    have A3 := Lib.hid hat3
    clear hown3 hgrow3 hat3
    go_wp2_with fail
    go_end0
    obtain ⟨r1, r2⟩ := push_end HP.out O3.out G3.out A3.out
    exact ⟨rfl, _, r1, r2⟩

theorem pop_end {W : World} {B c g m cap : Nat} {now : Int} {l : Array E} {ob : Obj} (hp : Hp W B c (.slice (some ⟨g, 0, none⟩) (m + 1) cap) now l) (hl : l.size = m + 1) :
    Hp ((W.setCell ⟨c, 1, none⟩ (.slice (some ⟨g, 0, none⟩) m cap)).alloc ob) B c (.slice (some ⟨g, 0, none⟩) m cap) now l.pop ∧ Tr W c (.slice (some ⟨g, 0, none⟩) (m + 1) cap) ((W.setCell ⟨c, 1, none⟩ (.slice (some ⟨g, 0, none⟩) m cap)).alloc ob) (.slice (some ⟨g, 0, none⟩) m cap) := by
  have ow := hp.own
  rw [hl] at ow
  have o2 := own_less ow m (by omega)
  have e := fl2_pop l
  rw [hl, Nat.add_sub_cancel] at e
  rw [e] at o2
  have r1 : Hp (W.setCell ⟨c, 1, none⟩ (.slice (some ⟨g, 0, none⟩) m cap)) B c (.slice (some ⟨g, 0, none⟩) m cap) now l.pop :=
    hp_set1 hp.c0 hp.c1 hp.f0 hp.f1 (by rw [Array.size_pop, hl, Nat.add_sub_cancel]; exact o2) (fun x => hp.nb (by simpa [Value.ownBlock] using x)) hp.hB
  refine ⟨r1.below ((Below.refl _ _).alloc (Nat.le_refl _) ob), ?_, ?_⟩
  · exact ((Kept.refl (mine c (.slice (some ⟨g, 0, none⟩) (m + 1) cap)) W).setCell (p := ⟨c, 1, none⟩) (.inl (.inl rfl)) _).then ((Below.refl _ _).alloc (Nat.le_refl _) ob)
  · exact fun x hx => .inl hx
set_option maxRecDepth 100000 in
set_option maxHeartbeats 2000000 in
theorem pop_any (B c g m cap : Nat) (now : Int) (l : Array E) (w : World) (hp : Hp w B c (.slice (some ⟨g, 0, none⟩) (m + 1) cap) now l) (hl : l.size = m + 1) (hcap : m + 1 ≤ cap) (hm : m ≤ 1000) :
    Calls Try.prog 46 #[.pointer (some ⟨c, 1, none⟩)] w fun e w' => e = .returned (.iface 48 (.agg #[.int .i64 l[m]!.1, .int .i64 l[m]!.2])) ∧ Hp w' B c (.slice (some ⟨g, 0, none⟩) m cap) now l.pop ∧ Tr w c (.slice (some ⟨g, 0, none⟩) (m + 1) cap) w' (.slice (some ⟨g, 0, none⟩) m cap) := by
  have HP := Lib.hid hp
  have c1 := hp.c1
  have f1 := hp.f1
  have hlt := hp.lt
  have ow := hp.own
  rw [hl] at ow
  obtain ⟨_, R⟩ := own2_row ow
  obtain ⟨a0, a1⟩ := R m (by omega)
  have OW := Lib.hid ow
  obtain ⟨⟨x1, x2⟩, hx⟩ : ∃ x, x = l[m]! := ⟨_, rfl⟩
  rw [← hx] at a0 a1 ⊢
  dsimp only at a0 a1 ⊢
  have m0 : (0 : Int) ≤ (m : Int) := by omega
  have m1 : (m : Int) < ((m + 1 : Nat) : Int) := by omega
  have m2 : (m : Int) ≤ (cap : Int) := by omega
  have m3 : (m : Int) < (m : Int) + 1 := by omega
  have hw : IntKind.i64.wrap (m : Int) = m := IntWalk.i64_in _ (by omega)
  have HL := Lib.hid hl
  clear hp ow R hx hl
  go_enter Try.func46, Try.ntmps46
  go_wp2_with fail
  go_ret
  obtain ⟨r1, r2⟩ := pop_end (ob := .cells #[.int .i64 x1, .int .i64 x2] 48) HP.out HL.out
  exact ⟨rfl, r1, r2⟩
end Go.Proofs.Ythcbhehdilaejaa.ck
