import Derived.Test.YtbfejmehbbieeaaAid
import Derived.Test.YtbfejmehbbieeaaMath1
import Derived.Deep.LoopGhost
import Derived.Deep.RegionHeld3
import Derived.Deep.AppendLies
import Derived.WalkLawsBesides
import Derived.OwnWalk
import Derived.Deep.Upon
import Derived.IntWalk
import Derived.Deep.RegionHeldLaw
import Derived.Deep.MidRow
/- Items of the reference of layer 2 in memory; less, Find; own rows of three cells an item; an append of whatever many. (Picked out of tpl-trie, for seats that have no trie.) -/
set_option linter.unusedVariables false
set_option linter.unusedSimpArgs false
namespace Go.Proofs.Ytbfejmehbbieeaa.tritem
open Go.RowKit Go.Lib Go.Proofs.Ytbfejmehbbieeaa.math1


/-- an item: its address, its length, its number -/
abbrev I3 := Int × Int × Int
def Row3 (W : World) (b o : Nat) (d : Array I3) : Prop := ∀ k, k < d.size → W.cell? ⟨b, o + k * 3, none⟩ = some (.int .u32 d[k]!.1) ∧ W.cell? ⟨b, o + k * 3 + 1, none⟩ = some (.int .i64 d[k]!.2.1) ∧ W.cell? ⟨b, o + k * 3 + 2, none⟩ = some (.int .i64 d[k]!.2.2)
theorem Row3.below {W W' : World} {b o : Nat} {d : Array I3} (h : Row3 W b o d) (hb : Below W.heap.size W W') : Row3 W' b o d := fun k hk => ⟨aid.kc hb (h k hk).1, aid.kc hb (h k hk).2.1, aid.kc hb (h k hk).2.2⟩
def IsItems (w : World) (s : Value) (d : Array I3) : Prop := (s = .slice none 0 0 ∧ d = #[]) ∨ ∃ b o cap, s = .slice (some ⟨b, o, none⟩) d.size cap ∧ Row3 w b o d
theorem IsItems.below {w w' : World} {s : Value} {d : Array I3} (h : IsItems w s d) (hb : Below w.heap.size w w') : IsItems w' s d := by
  rcases h with h | ⟨b, o, cap, e, r⟩
  · exact .inl h
  · exact .inr ⟨b, o, cap, e, r.below hb⟩
theorem IsItems.shape {w : World} {s : Value} {d : Array I3} (h : IsItems w s d) : ∃ a c, s = .slice a d.size c := by
  rcases h with ⟨rfl, rfl⟩ | ⟨b, o, cap, rfl, _⟩ <;> exact ⟨_, _, rfl⟩
theorem IsItems.at {w : World} {a : Option Addr} {n c : Nat} {d : Array I3} (h : IsItems w (.slice a n c) d) {k : Nat} (hk : k < d.size) : ∃ b o, a = some ⟨b, o, none⟩ ∧ w.cell? ⟨b, o + k * 3, none⟩ = some (.int .u32 d[k]!.1) ∧ w.cell? ⟨b, o + k * 3 + 1, none⟩ = some (.int .i64 d[k]!.2.1) ∧ w.cell? ⟨b, o + k * 3 + 2, none⟩ = some (.int .i64 d[k]!.2.2) := by
  rcases h with ⟨_, e⟩ | ⟨b, o, cp, e, r⟩
  · rw [e] at hk; exact absurd hk (Nat.not_lt_zero _)
  · simp only [Value.slice.injEq] at e
    exact ⟨b, o, e.1, r k hk⟩

def lessB (x y : I3) : Bool := decide (x.1 < y.1) || (decide (x.1 = y.1) && decide (x.2.1 < y.2.1))
set_option maxRecDepth 100000 in
theorem less_any (x y : I3) (w : World) : Calls Try.prog 37 #[.agg #[.int .u32 x.1, .int .i64 x.2.1, .int .i64 x.2.2], .agg #[.int .u32 y.1, .int .i64 y.2.1, .int .i64 y.2.2]] w fun e w' => e = .returned (.bool (lessB x y)) ∧ Below w.heap.size w w' := by
  obtain ⟨x1, x2, x3⟩ := x
  obtain ⟨y1, y2, y3⟩ := y
  unfold lessB
  dsimp only
  have BA := Lib.hid (((Below.refl w.heap.size w).alloc (Nat.le_refl _) (.cells #[.int .u32 x1, .int .i64 x2, .int .i64 x3] 38)).alloc (by simp) (.cells #[.int .u32 y1, .int .i64 y2, .int .i64 y3] 38))
  by_cases h1 : x1 < y1
  · rw [decide_eq_true h1, Bool.true_or]
    go_enter Try.func37, Try.ntmps37
    go_wp2_with fail
    go_ret
    exact ⟨rfl, BA.out⟩
  · by_cases h2 : x1 = y1
    · subst h2
      have h3 : (x1 == x1) = true := by simp
      by_cases h4 : x2 < y2
      · rw [decide_eq_false h1, decide_eq_true rfl, decide_eq_true h4]
        go_enter Try.func37, Try.ntmps37
        go_wp2_with fail
        go_ret
        exact ⟨rfl, BA.out⟩
      · rw [decide_eq_false h1, decide_eq_true rfl, decide_eq_false h4]
        go_enter Try.func37, Try.ntmps37
        go_wp2_with fail
        go_ret
        exact ⟨rfl, BA.out⟩
    · have h3 : (x1 == y1) = false := by simpa using h2
      rw [decide_eq_false h1, decide_eq_false h2]
      go_enter Try.func37, Try.ntmps37
      go_wp2_with fail
      go_ret
      exact ⟨rfl, BA.out⟩

/-- the place of the first that is this prefix -/
def findF (d : Array I3) (a n : Int) : Nat → Nat → Int
  | 0, _ => -1
  | m + 1, k => if (d[k]!.1 == a && d[k]!.2.1 == n) = true then k else findF d a n m (k + 1)
def findI (d : Array I3) (a n : Int) : Int := findF d a n d.size 0
set_option maxRecDepth 100000 in
set_option maxHeartbeats 1000000 in
theorem find_any (s : Value) (d : Array I3) (a n : Int) (w : World) (hR : IsItems w s d) (hm : d.size ≤ 1000000) : Calls Try.prog 13 #[s, .int .u32 a, .int .i64 n] w fun e w' => e = .returned (.int .i64 (findI d a n)) ∧ Below w.heap.size w w' := by
  obtain ⟨a1, c1, e1⟩ := hR.shape
  have F0 := Lib.hid (show findF d a n (d.size - 0) 0 = findI d a n from rfl)
  obtain ⟨N, hN⟩ : ∃ N, N = d.size := ⟨_, rfl⟩
  obtain ⟨R, hRR⟩ : ∃ R, R = findI d a n := ⟨_, rfl⟩
  rw [← hN] at e1 F0 hm
  rw [← hRR] at F0 ⊢
  subst e1
  have HN := Lib.hid hN
  have HR := Lib.hid hR
  clear hN hR hRR
  go_enter Try.func13, Try.ntmps13
  go_wp2_with fail
  go_loopw [11] (fun iv wr => ∃ k : Nat, k ≤ N ∧ iv = .int .i64 k ∧ Hid (findF d a n (N - k) k = R) ∧ Hid (Below w.heap.size w wr)) (fun iv _ => N - (intOf iv).toNat)
  case atStart => exact ⟨0, by omega, rfl, F0, Lib.hid (Below.refl _ _)⟩
  case round =>
    obtain ⟨k, hk, rfl, hf, Bl⟩ := hrel
    by_cases hlt : k < N
    · have hkd : k < d.size := by rw [← HN.out]; exact hlt
      obtain ⟨b, o, rfl, k0, k1, k2⟩ := (HR.out.below Bl.out).at hkd
      have hf2 := hf.out
      rw [show N - k = (N - (k + 1)) + 1 by omega, findF] at hf2
      obtain ⟨⟨x1, x2, x3⟩, hx⟩ : ∃ x, x = d[k]! := ⟨_, rfl⟩
      rw [← hx] at k0 k1 k2 hf2
      dsimp only at k0 k1 k2 hf2
      have BA := Lib.hid (Bl.out.trans ((Below.refl wr.heap.size wr).alloc (Nat.le_refl _) (.cells #[.int .u32 x1, .int .i64 x2, .int .i64 x3] 38) |>.mono Bl.out.size))
      clear hx hf
      by_cases h1 : x1 = a
      · subst h1
        have h1' : (x1 == x1) = true := by simp
        by_cases h2 : x2 = n
        · subst h2
          have h2' : (x2 == x2) = true := by simp
          rw [if_pos (by simp)] at hf2
          have HF := Lib.hid hf2
          clear hf2
          go_wp2_with fail
          go_ret
          exact ⟨by rw [← HF.out]; rfl, BA.out⟩
        · have h2' : (x2 == n) = false := by simpa using h2
          rw [h2', Bool.and_false, if_neg (by simp)] at hf2
          have HF := Lib.hid hf2
          clear hf2
          go_wp2_with fail
          go_roundw
          case rel => exact ⟨k + 1, by omega, by go_num, HF, BA⟩
          case measure => simp [intOf]; omega
      · have h1' : (x1 == a) = false := by simpa using h1
        rw [h1', Bool.false_and, if_neg (by simp)] at hf2
        have HF := Lib.hid hf2
        clear hf2
        go_wp2_with fail
        go_roundw
        case rel => exact ⟨k + 1, by omega, by go_num, HF, BA⟩
        case measure => simp [intOf]; omega
    · have hk' : k = N := by omega
      subst hk'
      have hf2 := hf.out
      rw [Nat.sub_self, findF] at hf2
      have HF := Lib.hid hf2
      clear hf2 hf
      go_wp2_with fail
      go_ret
      exact ⟨by rw [← HF.out]; rfl, Bl.out⟩

def enc3 (x : I3) : List Value := [.int .u32 x.1, .int .i64 x.2.1, .int .i64 x.2.2]
def fl3 (d : Array I3) : List Value := d.toList.flatMap enc3
theorem fl3_nil : fl3 #[] = [] := rfl
theorem fl3_push (d : Array I3) (x : I3) : fl3 (d.push x) = fl3 d ++ enc3 x := by simp [fl3]
theorem flat_len : ∀ l : List I3, (l.flatMap enc3).length = l.length * 3
  | [] => rfl
  | x :: l => by rw [List.flatMap_cons, List.length_append, flat_len l, List.length_cons]; simp [enc3]; omega
theorem fl3_len (d : Array I3) : (fl3 d).length = d.size * 3 := by rw [fl3, flat_len, Array.length_toList]
theorem flat_get : ∀ (l : List I3) (k c : Nat), k < l.length → c < 3 → (l.flatMap enc3)[k * 3 + c]? = (enc3 (l[k]!))[c]?
  | x :: l, 0, c, _, hc => by
    rw [List.flatMap_cons, Nat.zero_mul, Nat.zero_add, List.getElem?_append_left (by simp [enc3]; omega)]; rfl
  | x :: l, k + 1, c, hk, hc => by
    rw [List.flatMap_cons, List.getElem?_append_right (by simp [enc3]; omega)]
    have : (k + 1) * 3 + c - (enc3 x).length = k * 3 + c := by simp [enc3]; omega
    rw [this, flat_get l k c (by simpa using hk) hc]
    simp
theorem fl3_get (d : Array I3) (k c : Nat) (hk : k < d.size) (hc : c < 3) : (fl3 d)[k * 3 + c]? = (enc3 d[k]!)[c]? := by
  rw [fl3, flat_get _ _ _ (by simpa using hk) hc]
  rw [getElem!_pos d k hk, getElem!_pos d.toList k (by simpa using hk)]
  simp
theorem own3_row {w : World} {base g n cap : Nat} {e : TypeId} {d : Array I3} (h : w.ownsRow base e 3 (.slice (some ⟨g, 0, none⟩) n cap) n (fl3 d)) : d.size = n ∧ Row3 w g 0 d := by
  have hl : d.size = n := by
    have := h.1
    rw [fl3_len] at this
    omega
  refine ⟨hl, fun k hk => ?_⟩
  have c := fun (c : Nat) (u : Value) (hc : c < 3) (hu : (enc3 d[k]!)[c]? = some u) => h.cells rfl (k * 3 + c) u (by rw [fl3_get d k c hk hc]; exact hu)
  have z : ∀ j, (⟨g, 0, none⟩ : Addr).add j = ⟨g, 0 + j, none⟩ := fun j => Addr.add_mid g 0 j
  have c0 := c 0 _ (by decide) rfl
  have c1 := c 1 _ (by decide) rfl
  have c2 := c 2 _ (by decide) rfl
  rw [z] at c0 c1 c2
  exact ⟨c0, c1, c2⟩
theorem infoItem : (Try.prog.info? 38).map (fun i => (i.zero, i.size, i.bytes)) = some (some (.agg #[.int .u32 0, .int .i64 0, .int .i64 0]), 3, 24) := by kernel_rfl
theorem own3_empty (w : World) (base : Nat) (hb : base ≤ w.heap.size) : (w.alloc (.cells #[] 38)).ownsRow base 38 3 (.slice (some ⟨w.heap.size, 0, none⟩) 0 0) 0 [] :=
  World.ownsRow_made w #[] 0 hb (by unfold maxLen; omega) rfl
theorem enc3_one (x : I3) : ∀ u ∈ enc3 x, u.oneCell' = true := fun u hu => by
  simp [enc3] at hu
  rcases hu with rfl | rfl | rfl <;> rfl
theorem new3 (w : World) (x : I3) (t : TypeId) : ∀ (j : Nat) u, (enc3 x)[j]? = some u → (w.alloc (.cells #[.int .u32 x.1, .int .i64 x.2.1, .int .i64 x.2.2] t)).cell? ((⟨w.heap.size, 0, none⟩ : Addr).add j) = some u := fun j u hu => by
  rw [Addr.add_mid]
  match j, hu with
  | 0, hu => simp [enc3] at hu; rw [← hu]; exact World.cell?_alloc_at _ _ _ _ rfl
  | 1, hu => simp [enc3] at hu; rw [← hu]; exact World.cell?_alloc_at _ _ _ _ rfl
  | 2, hu => simp [enc3] at hu; rw [← hu]; exact World.cell?_alloc_at _ _ _ _ rfl
  | j + 3, hu => simp [enc3] at hu

/-- all but the one at a place -/
def keepTo (d : Array I3) (i : Int) : Nat → Array I3
  | 0 => #[]
  | k + 1 => if ((k : Int) == i) = true then keepTo d i k else (keepTo d i k).push d[k]!
theorem keepTo_size (d : Array I3) (i : Int) : ∀ k, (keepTo d i k).size ≤ k
  | 0 => Nat.le_refl _
  | k + 1 => by
    have := keepTo_size d i k
    rw [keepTo]; split
    · omega
    · rw [Array.size_push]; omega

theorem own3_below {w w' : World} {base : Nat} {e : TypeId} {size n : Nat} {v : Value} {xs : List Value} (h : w.ownsRow base e size v n xs) (hb : Below w.heap.size w w') : w'.ownsRow base e size v n xs := by
  have hlt := h.lt
  obtain ⟨h1, h2⟩ := h
  refine ⟨h1, ?_⟩
  rcases h2 with h2 | ⟨g, cap, cur, hv, hg, hh, r⟩
  · exact .inl h2
  · exact .inr ⟨g, cap, cur, hv, hg, (hb.block g (Array.getElem?_eq_some_iff.1 hh).1).trans hh, r⟩
theorem items_of_own {w : World} {base g n cap : Nat} {d : Array I3} (h : w.ownsRow base 38 3 (.slice (some ⟨g, 0, none⟩) n cap) n (fl3 d)) : IsItems w (.slice (some ⟨g, 0, none⟩) n cap) d := by
  obtain ⟨hl, r⟩ := own3_row h
  exact .inr ⟨g, 0, cap, by rw [hl], r⟩
theorem infoItem3 : ∃ i, Try.prog.info? 38 = some i ∧ i.zero = some (.agg #[.int .u32 0, .int .i64 0, .int .i64 0]) ∧ i.size = 3 ∧ i.bytes = 24 := by
  have h := infoItem
  cases h2 : Try.prog.info? 38 with
  | none => rw [h2] at h; cases h
  | some i => rw [h2] at h; simp at h; exact ⟨i, rfl, h.1, h.2.1, h.2.2⟩

section
variable {P : Program} {w : World}
/-- an append to an own row with a block, of whatever many, none too -/
theorem wp_append_any {o : Oper} {a : Act} {K : Act → World → Prop} {Q : Exit → Act → World → Prop} (s x : Operand) (t : TypeId)
    (ho : o.op = .call { callee := .builtin .append, args := #[s, x], argTypes := #[t, t] })
    (base : Nat) (e : TypeId) (i : TypeInfo) (z : Value) (size bytes : Nat) (ht : P.underlying t = some (.slice e)) (hi : P.info? e = some i) (hz : i.zero = some z)
    (hsize : i.size = size) (hby : i.bytes = bytes) (hzs : z.cells.size = size) (hsz : 0 < size)
    (g0 c0 : Nat) (n : Nat) (xs : List Value) (hs : a.eval s = .slice (some ⟨g0, 0, none⟩) n c0) (hown : w.ownsRow base e size (.slice (some ⟨g0, 0, none⟩) n c0) n xs)
    (ad : Addr) (m c : Nat) (news : List Value) (hx : a.eval x = .slice (some ad) m c) (hl : news.length = m * size) (hnews : ∀ j u, news[j]? = some u → w.cell? (ad.add j) = some u) (h1 : ∀ u ∈ news, u.oneCell' = true)
    (h63 : n + m ≤ maxLen) (hbytes : (n + m) * bytes ≤ 140737488355328) (hbase : base ≤ w.heap.size)
    (h : ∀ g cap w', w'.ownsRow base e size (.slice (some ⟨g, 0, none⟩) (n + m) cap) (n + m) (xs ++ news) → w.grownBy w' (some g0) → K (a.put o.dst (.slice (some ⟨g, 0, none⟩) (n + m) cap)) w') : o.wp P a w K Q := by
  by_cases hm : 0 < m
  · exact wp_append_lies w s x t ho base e i z size bytes ht hi hz hsize hby hzs hsz _ n xs hs hown ad m c news hx hl hnews h1 hm h63 hbytes hbase _ rfl fun g cap w' h2 h3 h4 h5 => h g cap w' h2 h3
  · obtain rfl : m = 0 := by omega
    obtain rfl : news = [] := List.length_eq_zero_iff.1 (by rw [hl]; simp)
    have hcap : n ≤ c0 := by
      rcases hown.2 with ⟨hv, _⟩ | ⟨g', cap', cur, hv, hg, hh, r, _⟩
      · cases hv
      · simp only [Value.slice.injEq] at hv
        omega
    have hr := run_append_nothing (P := P) w t t o.type e i ht hi (some ⟨g0, 0, none⟩) n c0 hcap (.slice (some ad) 0 c) (Src.ofSlice w ht ad 0 c [] (by simp) (fun j u hu => by simp at hu) (fun u hu => by cases hu))
    unfold Oper.wp execOp
    simp only [ho, resolve, invoke, builtin, Sem.run_bind, Sem.run_pure, Result.andThen_ok, List.map_toArray, List.map_cons, List.map_nil, hs, hx, hr]
    exact h g0 c0 w (by rw [List.append_nil]; exact hown) (World.grownBy.refl w _)
theorem step_append_any {ops : Array Oper} {o : Oper} {a : Act} {K : Act → World → Prop} {Q : Exit → Act → World → Prop} {E : Prop} (hgd : o.guard = none) (s x : Operand) (t : TypeId)
    (ho : o.op = .call { callee := .builtin .append, args := #[s, x], argTypes := #[t, t] })
    (base : Nat) (e : TypeId) (i : TypeInfo) (z : Value) (size bytes : Nat) (ht : P.underlying t = some (.slice e)) (hi : P.info? e = some i) (hz : i.zero = some z)
    (hsize : i.size = size) (hby : i.bytes = bytes) (hzs : z.cells.size = size) (hsz : 0 < size)
    (g0 c0 : Nat) (n : Nat) (xs : List Value) (hs : a.eval s = .slice (some ⟨g0, 0, none⟩) n c0) (hown : w.ownsRow base e size (.slice (some ⟨g0, 0, none⟩) n c0) n xs)
    (ad : Addr) (m c : Nat) (news : List Value) (hx : a.eval x = .slice (some ad) m c) (hl : news.length = m * size) (hnews : ∀ j u, news[j]? = some u → w.cell? (ad.add j) = some u) (h1 : ∀ u ∈ news, u.oneCell' = true)
    (h63 : n + m ≤ maxLen) (hbytes : (n + m) * bytes ≤ 140737488355328) (hbase : base ≤ w.heap.size)
    (h : ∀ g cap w', w'.ownsRow base e size (.slice (some ⟨g, 0, none⟩) (n + m) cap) (n + m) (xs ++ news) → w.grownBy w' (some g0) → K (a.put o.dst (.slice (some ⟨g, 0, none⟩) (n + m) cap)) w') :
    if Region.wanted o (yielded ops a.tmps) = true then Oper.wp P o a w K Q else E := by
  have hw : Region.wanted o (yielded ops a.tmps) = true := by simp [Region.wanted, hgd]
  rw [if_pos hw]
  exact wp_append_any s x t ho base e i z size bytes ht hi hz hsize hby hzs hsz g0 c0 n xs hs hown ad m c news hx hl hnews h1 h63 hbytes hbase h
end

theorem flat_cells {W : World} {b o : Nat} (l : List I3) (h : ∀ k, k < l.length → W.cell? ⟨b, o + k * 3, none⟩ = some (.int .u32 l[k]!.1) ∧ W.cell? ⟨b, o + k * 3 + 1, none⟩ = some (.int .i64 l[k]!.2.1) ∧ W.cell? ⟨b, o + k * 3 + 2, none⟩ = some (.int .i64 l[k]!.2.2)) : ∀ (j : Nat) u, (l.flatMap enc3)[j]? = some u → W.cell? ((⟨b, o, none⟩ : Addr).add j) = some u := fun j u hu => by
  have hj : j < (l.flatMap enc3).length := (List.getElem?_eq_some_iff.1 hu).1
  rw [flat_len] at hj
  have hk : j / 3 < l.length := by omega
  have e : j = j / 3 * 3 + j % 3 := by omega
  rw [e, flat_get l (j / 3) (j % 3) hk (by omega)] at hu
  have z : (⟨b, o, none⟩ : Addr).add j = ⟨b, o + j, none⟩ := Addr.add_mid b o j
  rw [z]
  obtain ⟨h0, h1, h2⟩ := h _ hk
  have hm : j % 3 = 0 ∨ j % 3 = 1 ∨ j % 3 = 2 := by omega
  rcases hm with hm | hm | hm
  · rw [hm] at hu e
    rw [show o + j = o + j / 3 * 3 by omega, h0]
    simpa [enc3] using hu
  · rw [hm] at hu e
    rw [show o + j = o + j / 3 * 3 + 1 by omega, h1]
    simpa [enc3] using hu
  · rw [hm] at hu e
    rw [show o + j = o + j / 3 * 3 + 2 by omega, h2]
    simpa [enc3] using hu
theorem flat_one (l : List I3) : ∀ u ∈ l.flatMap enc3, u.oneCell' = true := fun u hu => by
  obtain ⟨x, _, h⟩ := List.mem_flatMap.1 hu
  exact enc3_one x u h
theorem row_take {W : World} {b o : Nat} {d : Array I3} (h : Row3 W b o d) (z : Nat) (hz : z ≤ d.size) : ∀ (j : Nat) u, ((d.toList.take z).flatMap enc3)[j]? = some u → W.cell? ((⟨b, o, none⟩ : Addr).add j) = some u :=
  flat_cells _ fun k hk => by
    have hk' : k < z := by rw [List.length_take] at hk; omega
    have := h k (by omega)
    have e : (d.toList.take z)[k]! = d[k]! := by
      rw [getElem!_pos _ k hk, getElem!_pos d k (by omega)]
      simp
    rw [e]; exact this
theorem row_drop {W : World} {b o : Nat} {d : Array I3} (h : Row3 W b o d) (z : Nat) : ∀ (j : Nat) u, ((d.toList.drop z).flatMap enc3)[j]? = some u → W.cell? ((⟨b, o + z * 3, none⟩ : Addr).add j) = some u :=
  flat_cells _ fun k hk => by
    have hk' : z + k < d.size := by rw [List.length_drop, Array.length_toList] at hk; omega
    have h2 := h (z + k) hk'
    have e : (d.toList.drop z)[k]! = d[z + k]! := by
      rw [getElem!_pos _ k hk, getElem!_pos d (z + k) hk']
      simp
    rw [e]
    rw [show o + z * 3 + k * 3 = o + (z + k) * 3 by omega]
    exact h2
theorem keepTo_pre (d : Array I3) (z : Nat) : ∀ k, k ≤ z → (keepTo d z k).toList = d.toList.take k ∨ d.size < k
  | 0, _ => .inl (by simp [keepTo])
  | k + 1, h => by
    by_cases hs : d.size < k + 1
    · exact .inr hs
    · rcases keepTo_pre d z k (by omega) with e | e
      · left
        rw [keepTo, if_neg (by simp; omega), Array.toList_push, e, getElem!_pos d k (by omega)]
        rw [List.take_add_one]
        simp [show k < d.size by omega]
      · omega
theorem keepTo_post (d : Array I3) (z : Nat) (hz : z < d.size) : ∀ k, z < k → k ≤ d.size → (keepTo d z k).toList = d.toList.take z ++ (d.toList.take k).drop (z + 1)
  | 0, h, _ => by omega
  | k + 1, h, hk => by
    by_cases e : k = z
    · subst e
      rw [keepTo, if_pos (by simp)]
      rcases keepTo_pre d k k (Nat.le_refl _) with e | e
      · rw [e]; simp
      · omega
    · have ih := keepTo_post d z hz k (by omega) (by omega)
      rw [keepTo, if_neg (by simp; omega), Array.toList_push, ih, getElem!_pos d k (by omega), List.take_add_one, List.append_assoc, List.drop_append_of_le_length (by rw [List.length_take, Array.length_toList]; omega)]
      simp [show k < d.size by omega]
theorem keepTo_all (d : Array I3) (z : Nat) (hz : z < d.size) : (keepTo d z d.size).toList = d.toList.take z ++ d.toList.drop (z + 1) := by
  rw [keepTo_post d z hz d.size hz (Nat.le_refl _), List.take_of_length_le (l := d.toList) (i := d.size) (by simp)]
theorem Row3.grown {W w' : World} {b o g : Nat} {d : Array I3} (h : Row3 W b o d) (hg : W.grownBy w' (some g)) (hb : b < W.heap.size) (hne : b ≠ g) : Row3 w' b o d := fun k hk => by
  obtain ⟨h0, h1, h2⟩ := h k hk
  have n : some b ≠ some g := fun e => hne (Option.some.inj e)
  exact ⟨(hg.cell_far _ hb n).trans h0, (hg.cell_far _ hb n).trans h1, (hg.cell_far _ hb n).trans h2⟩
end Go.Proofs.Ytbfejmehbbieeaa.tritem
