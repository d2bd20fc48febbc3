import Derived.Test.YthcbhehdilaejaaLawClockLate
import Derived.Test.YthcbhehdilaejaaCkOpen4
import Derived.Deep.Upon
import Derived.Deep.RegionHeldLaw
/- The list by which the law answers: names and times in an own row. -/
set_option linter.unusedVariables false
set_option linter.unusedSimpArgs false
namespace Go.Proofs.Ythcbhehdilaejaa.ckall
open Go.RowKit Go.Lib Go.Proofs.Ythcbhehdilaejaa.ckmath Go.Proofs.Ythcbhehdilaejaa.ck

section
variable {P : Program} {w : World}
/-- an append to an own row with a block, of whatever many, none too -/
theorem wp_append_any {o : Oper} {a : Act} {K : Act → World → Prop} {Q : Exit → Act → World → Prop} (s x : Operand) (t : TypeId)
    (ho : o.op = .call { callee := .builtin .append, args := #[s, x], argTypes := #[t, t] })
    (base : Nat) (e : TypeId) (i : TypeInfo) (z : Value) (size bytes : Nat) (ht : P.underlying t = some (.slice e)) (hi : P.info? e = some i) (hz : i.zero = some z)
    (hsize : i.size = size) (hby : i.bytes = bytes) (hzs : z.cells.size = size) (hsz : 0 < size)
    (g0 c0 : Nat) (n : Nat) (xs : List Value) (hs : a.eval s = .slice (some ⟨g0, 0, none⟩) n c0) (hown : w.ownsRow base e size (.slice (some ⟨g0, 0, none⟩) n c0) n xs)
    (ad : Addr) (m c : Nat) (news : List Value) (hx : a.eval x = .slice (some ad) m c) (hl : news.length = m * size) (hnews : ∀ j u, news[j]? = some u → w.cell? (ad.add j) = some u) (h1 : ∀ u ∈ news, u.oneCell' = true)
    (h63 : n + m ≤ maxLen) (hbytes : (n + m) * bytes ≤ 140737488355328) (hbase : base ≤ w.heap.size)
    (h : ∀ g cap w', w'.ownsRow base e size (.slice (some ⟨g, 0, none⟩) (n + m) cap) (n + m) (xs ++ news) → w.grownBy w' (some g0) → K (a.put o.dst (.slice (some ⟨g, 0, none⟩) (n + m) cap)) w') : o.wp P a w K Q := by
  by_cases hm : 0 < m
  · exact wp_append_lies w s x t ho base e i z size bytes ht hi hz hsize hby hzs hsz _ n xs hs hown ad m c news hx hl hnews h1 hm h63 hbytes hbase _ rfl fun g cap w' h2 h3 h4 h5 => h g cap w' h2 h3
  · obtain rfl : m = 0 := by omega
    obtain rfl : news = [] := List.length_eq_zero_iff.1 (by rw [hl]; simp)
    have hcap : n ≤ c0 := by
      rcases hown.2 with ⟨hv, _⟩ | ⟨g', cap', cur, hv, hg, hh, r, _⟩
      · cases hv
      · simp only [Value.slice.injEq] at hv
        omega
    have hr := run_append_nothing (P := P) w t t o.type e i ht hi (some ⟨g0, 0, none⟩) n c0 hcap (.slice (some ad) 0 c) (Src.ofSlice w ht ad 0 c [] (by simp) (fun j u hu => by simp at hu) (fun u hu => by cases hu))
    unfold Oper.wp execOp
    simp only [ho, resolve, invoke, builtin, Sem.run_bind, Sem.run_pure, Result.andThen_ok, List.map_toArray, List.map_cons, List.map_nil, hs, hx, hr]
    exact h g0 c0 w (by rw [List.append_nil]; exact hown) (World.grownBy.refl w _)
theorem step_append_any {ops : Array Oper} {o : Oper} {a : Act} {K : Act → World → Prop} {Q : Exit → Act → World → Prop} {E : Prop} (hgd : o.guard = none) (s x : Operand) (t : TypeId)
    (ho : o.op = .call { callee := .builtin .append, args := #[s, x], argTypes := #[t, t] })
    (base : Nat) (e : TypeId) (i : TypeInfo) (z : Value) (size bytes : Nat) (ht : P.underlying t = some (.slice e)) (hi : P.info? e = some i) (hz : i.zero = some z)
    (hsize : i.size = size) (hby : i.bytes = bytes) (hzs : z.cells.size = size) (hsz : 0 < size)
    (g0 c0 : Nat) (n : Nat) (xs : List Value) (hs : a.eval s = .slice (some ⟨g0, 0, none⟩) n c0) (hown : w.ownsRow base e size (.slice (some ⟨g0, 0, none⟩) n c0) n xs)
    (ad : Addr) (m c : Nat) (news : List Value) (hx : a.eval x = .slice (some ad) m c) (hl : news.length = m * size) (hnews : ∀ j u, news[j]? = some u → w.cell? (ad.add j) = some u) (h1 : ∀ u ∈ news, u.oneCell' = true)
    (h63 : n + m ≤ maxLen) (hbytes : (n + m) * bytes ≤ 140737488355328) (hbase : base ≤ w.heap.size)
    (h : ∀ g cap w', w'.ownsRow base e size (.slice (some ⟨g, 0, none⟩) (n + m) cap) (n + m) (xs ++ news) → w.grownBy w' (some g0) → K (a.put o.dst (.slice (some ⟨g, 0, none⟩) (n + m) cap)) w') :
    if Region.wanted o (yielded ops a.tmps) = true then Oper.wp P o a w K Q else E := by
  have hw : Region.wanted o (yielded ops a.tmps) = true := by simp [Region.wanted, hgd]
  rw [if_pos hw]
  exact wp_append_any s x t ho base e i z size bytes ht hi hz hsize hby hzs hsz g0 c0 n xs hs hown ad m c news hx hl hnews h1 h63 hbytes hbase h
end


def encS (x : E) : List Value := [.int .i64 x.2, .int .i64 x.1]
def flS (L : List E) : List Value := L.flatMap encS
theorem flS_len : ∀ l : List E, (flS l).length = l.length * 2
  | [] => rfl
  | x :: l => by
    have := flS_len l
    unfold flS at *
    rw [List.flatMap_cons, List.length_append, this, List.length_cons]; simp [encS]; omega
theorem flS_get : ∀ (l : List E) (k c : Nat), k < l.length → c < 2 → (flS l)[k * 2 + c]? = (encS (l[k]!))[c]?
  | x :: l, 0, c, _, hc => by
    unfold flS
    rw [List.flatMap_cons, Nat.zero_mul, Nat.zero_add, List.getElem?_append_left (by simp [encS]; omega)]; rfl
  | x :: l, k + 1, c, hk, hc => by
    have ih := flS_get l k c (by simpa using hk) hc
    unfold flS at *
    rw [List.flatMap_cons, List.getElem?_append_right (by simp [encS]; omega)]
    have : (k + 1) * 2 + c - (encS x).length = k * 2 + c := by simp [encS]; omega
    rw [this, ih]
    simp
theorem flS_push (l : List E) (x : E) : flS (l ++ [x]) = flS l ++ encS x := by simp [flS]
theorem flS_app (l m : List E) : flS (l ++ m) = flS l ++ flS m := by simp [flS]
theorem flS_one (l : List E) : ∀ u ∈ flS l, u.oneCell' = true := fun u hu => by
  obtain ⟨x, _, h⟩ := List.mem_flatMap.1 hu
  simp [encS] at h
  rcases h with rfl | rfl <;> rfl
theorem flS_set (l : List E) (j : Nat) (a t n : Int) (hj : j < l.length) (hx : l[j]! = (a, n)) : (flS l).set (j * 2 + 1) (.int .i64 t) = flS (l.set j (t, n)) := by
  apply List.ext_getElem?
  intro i
  have L := flS_len l
  have L2 := flS_len (l.set j (t, n))
  rw [List.length_set] at L2
  by_cases hi : i < l.length * 2
  · have hk : i / 2 < l.length := by omega
    have s0 := flS_get (l.set j (t, n)) (i / 2) (i % 2) (by simpa using hk) (by omega)
    have g0 := flS_get l (i / 2) (i % 2) hk (by omega)
    have e : i / 2 * 2 + i % 2 = i := by omega
    rw [e] at s0 g0
    have eg : (l.set j (t, n))[i / 2]! = if i / 2 = j then (t, n) else l[i / 2]! := by
      rw [getElem!_pos _ (i / 2) (by simpa using hk), List.getElem_set, getElem!_pos l (i / 2) hk]
      by_cases h : j = i / 2
      · rw [if_pos h, if_pos h.symm]
      · rw [if_neg h, if_neg (Ne.symm h)]
    rw [s0, eg]
    by_cases h : i / 2 = j
    · rw [if_pos h]
      rw [h, hx] at g0
      rcases (show i % 2 = 0 ∨ i % 2 = 1 by omega) with m | m
      · rw [List.getElem?_set_ne (by omega), g0, m]; rfl
      · rw [show i = j * 2 + 1 by omega, List.getElem?_set_self (by omega), show (j * 2 + 1) % 2 = 1 by omega]; rfl
    · rw [if_neg h, List.getElem?_set_ne (by omega), g0]
  · rw [List.getElem?_eq_none (by simp; omega), List.getElem?_eq_none (by omega)]
abbrev TD : TypeId := 30
def RowS (W : World) (g : Nat) (l : List E) : Prop := ∀ k, k < l.length → W.cell? ⟨g, k * 2, none⟩ = some (.int .i64 l[k]!.2) ∧ W.cell? ⟨g, k * 2 + 1, none⟩ = some (.int .i64 l[k]!.1)
theorem ownS_row {w : World} {B g n cap : Nat} {l : List E} (h : w.ownsRow B 30 2 (.slice (some ⟨g, 0, none⟩) n cap) n (flS l)) : l.length = n ∧ RowS w g l := by
  have hl : l.length = n := by
    have := h.1
    rw [flS_len] at this
    omega
  refine ⟨hl, fun k hk => ?_⟩
  have g0 := flS_get l k 0 hk (by omega)
  have g1 := flS_get l k 1 hk (by omega)
  rw [Nat.add_zero] at g0
  exact ⟨(h.cellAt (k * 2) (by omega)).trans g0, (h.cellAt (k * 2 + 1) (by omega)).trans g1⟩
theorem owns_cap {w : World} {B g n cap : Nat} {e : TypeId} {s : Nat} {xs : List Value} (h : w.ownsRow B e s (.slice (some ⟨g, 0, none⟩) n cap) n xs) : n ≤ cap ∧ g < w.heap.size ∧ B ≤ g := by
  have lt := h.lt g rfl
  rcases h.2 with ⟨hv, _⟩ | ⟨g', cap', cur, hv, hb, hg, hc, _⟩
  · cases hv
  · simp only [Value.slice.injEq, Option.some.injEq, Addr.mk.injEq, and_true, true_and] at hv
    obtain ⟨rfl, rfl⟩ := hv
    exact ⟨hc, lt.2, lt.1⟩
theorem ownS_same {w w' : World} {B : Nat} {e : TypeId} {s g n cap : Nat} {xs : List Value} (h : w.ownsRow B e s (.slice (some ⟨g, 0, none⟩) n cap) n xs) (hb : w'.heap[g]? = w.heap[g]?) : w'.ownsRow B e s (.slice (some ⟨g, 0, none⟩) n cap) n xs := by
  refine ⟨h.1, ?_⟩
  rcases h.2 with hn | ⟨g', cap', cur, hv, hb1, hgg, rest⟩
  · exact .inl hn
  · simp only [Value.slice.injEq, Option.some.injEq, Addr.mk.injEq, and_true, true_and] at hv
    obtain ⟨rfl, rfl⟩ := hv
    exact .inr ⟨g, cap, cur, rfl, hb1, hb.trans hgg, rest⟩
theorem rowS_part {W : World} {g : Nat} {l : List E} (h : RowS W g l) (z m : Nat) (hz : z + m ≤ l.length) : ∀ (j : Nat) u, (flS ((l.drop z).take m))[j]? = some u → W.cell? ((⟨g, z * 2, none⟩ : Addr).add j) = some u := fun j u hu => by
  have hj : j < (flS ((l.drop z).take m)).length := (List.getElem?_eq_some_iff.1 hu).1
  have hlen : ((l.drop z).take m).length = m := by rw [List.length_take, List.length_drop]; omega
  rw [flS_len, hlen] at hj
  have hk : j / 2 < m := by omega
  have e : j / 2 * 2 + j % 2 = j := by omega
  have g0 := flS_get ((l.drop z).take m) (j / 2) (j % 2) (by omega) (by omega)
  rw [e, hu] at g0
  have eg : ((l.drop z).take m)[j / 2]! = l[z + j / 2]! := by
    rw [getElem!_pos _ (j / 2) (by omega), getElem!_pos l (z + j / 2) (by omega)]
    simp
  rw [eg] at g0
  rw [Addr.add_mid]
  obtain ⟨h0, h1⟩ := h (z + j / 2) (by omega)
  rcases (show j % 2 = 0 ∨ j % 2 = 1 by omega) with m0 | m0
  · rw [m0] at g0
    rw [show z * 2 + j = (z + j / 2) * 2 by omega, h0]
    simpa [encS] using g0.symm
  · rw [m0] at g0
    rw [show z * 2 + j = (z + j / 2) * 2 + 1 by omega, h1]
    simpa [encS] using g0.symm
theorem infoDueS : ∃ i, Try.prog.info? 30 = some i ∧ i.zero = some (.agg #[.int .i64 0, .int .i64 0]) ∧ i.size = 2 ∧ i.bytes = 16 := by
  have h : (Try.prog.info? 30).map (fun i => (i.zero, i.size, i.bytes)) = some (some (.agg #[.int .i64 0, .int .i64 0]), 2, 16) := by kernel_rfl
  cases e : Try.prog.info? 30 with
  | none => rw [e] at h; cases h
  | some i =>
    rw [e, Option.map_some] at h
    simp only [Option.some.injEq, Prod.mk.injEq] at h
    exact ⟨i, rfl, h.1, h.2.1, h.2.2⟩
end Go.Proofs.Ythcbhehdilaejaa.ckall
