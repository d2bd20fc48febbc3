import Derived.Test.YtbfejmehbbieeaaMath1
import Derived.Outline
import Derived.Handy
import Derived.WalkLawsBesides
import Derived.Deep.RegionHeld3
import Derived.Deep.LoopGhost
import Derived.Lib.Hide
/- Contracts of the reference of layer 1: addresses as lists of bits. -/
set_option linter.unusedVariables false
namespace Go.Proofs.Ytbfejmehbbieeaa.ref1
open Go.RowKit Go.Proofs.Ytbfejmehbbieeaa.math1

theorem infoInt : (Try.prog.info? 3).map (fun i => (i.zero, i.size, i.bytes)) = some (some (.int .i64 0), 1, 8) := by kernel_rfl

/-- a slice literal of whatever values of one cell each is a row of the call's own -/
theorem own_lit (w : World) (base : Nat) (e : TypeId) (xs : List Value) (hb : base ≤ w.heap.size) (hm : xs.length ≤ maxLen) :
    (w.alloc (.cells xs.toArray e)).ownsRow base e 1 (.slice (some ⟨w.heap.size, 0, none⟩) xs.length xs.length) xs.length xs :=
  ⟨by simp, .inr ⟨w.heap.size, xs.length, xs.toArray, rfl, hb, heap_alloc_new w _, Nat.le_refl _, hm, by simp, by simp⟩⟩

/-- an owned row that is not nil starts a block of its own -/
theorem own_some {w : World} {base : Nat} {e : TypeId} {size : Nat} {v : Value} {n : Nat} {xs : List Value} (h : w.ownsRow base e size v n xs) (hne : ¬ v = .slice none 0 0) :
    ∃ g cap : Nat, v = .slice (some ⟨g, 0, none⟩) n cap ∧ base ≤ g ∧ n ≤ cap ∧ g < w.heap.size := by
  obtain ⟨_, h2⟩ := h
  rcases h2 with ⟨h3, _⟩ | ⟨g, cap, cur, hv, hg, hh, hc, _⟩
  · exact (hne h3).elim
  · refine ⟨g, cap, hv, hg, hc, ?_⟩
    exact (Array.getElem?_eq_some_iff.1 hh).1

/-- the last k bits of an address, as they are laid in front of one another -/
def bl (a : Int) (k : Nat) : List Value := (List.range k).map fun j => .int .i64 (a / 2 ^ (k - 1 - j) % 2)
theorem bl_len (a : Int) (k : Nat) : (bl a k).length = k := by simp [bl]
theorem bl_succ (a : Int) (k : Nat) : [Value.int .i64 (a / 2 ^ k % 2)] ++ bl a k = bl a (k + 1) := by
  unfold bl
  rw [List.range_succ_eq_map]
  simp only [List.map_cons, List.map_map, List.singleton_append]
  congr 1
  apply List.map_congr_left
  intro j hj
  have := List.mem_range.1 hj
  simp only [Function.comp]
  rw [show k + 1 - 1 - (j + 1) = k - 1 - j by omega]

theorem div_next (a : Int) (k : Nat) : a / 2 ^ k / 2 = a / 2 ^ (k + 1) := by
  rw [Int.ediv_ediv_of_nonneg (by have : (0 : Int) < 2 ^ k := Int.pow_pos (by decide); omega), Int.pow_succ]

set_option maxRecDepth 100000 in
set_option maxHeartbeats 1000000 in
theorem bits_any (a : Int) (w : World) (h0 : 0 ≤ a) (h1 : a < 4294967296) : Calls Try.prog 35 #[.int .u32 a] w fun e w' => (∃ g cap, e = .returned (.slice (some ⟨g, 0, none⟩) 32 cap) ∧ w'.ownsRow w.heap.size 3 1 (.slice (some ⟨g, 0, none⟩) 32 cap) 32 (bl a 32)) ∧ Below w.heap.size w w' := by
  obtain ⟨i0, hi, hz0, hz1, hz2⟩ := info_parts infoInt
  go_enter Try.func35, Try.ntmps35
  go_wp2_with fail
  go_loopw [0, 3, 4] (fun av out iv wr => ∃ k g cap : Nat, k ≤ 32 ∧ iv = .int .i64 k ∧ av = .int .u32 (a / 2 ^ k) ∧ out = .slice (some ⟨g, 0, none⟩) k cap ∧ wr.ownsRow w.heap.size 3 1 (.slice (some ⟨g, 0, none⟩) k cap) k (bl a k) ∧ Below w.heap.size w wr) (fun _ _ i _ => 32 - (intOf i).toNat)
  case atStart =>
    refine ⟨0, w.heap.size, 0, by omega, rfl, by simp, rfl, ?_, (Below.refl _ _).alloc (Nat.le_refl _) _⟩
    exact own_lit w w.heap.size 3 [] (Nat.le_refl _) (by simp)
  case round =>
    obtain ⟨k, g, cap, hk, rfl, rfl, rfl, hown, hb⟩ := hrel
    have hp : (0 : Int) < 2 ^ k := Int.pow_pos (by decide)
    have hd0 : 0 ≤ a / 2 ^ k := Int.ediv_nonneg h0 (by omega)
    have hd1 : a / 2 ^ k < 4294967296 := Int.lt_of_le_of_lt (Int.ediv_le_self _ h0) h1
    have hO := Lib.hid hown
    have hB := Lib.hid hb
    have hL := Lib.hid (bl_len a k)
    clear hown hb hp
    obtain ⟨q, hq⟩ : ∃ q, q = a / 2 ^ k := ⟨_, rfl⟩
    rw [← hq] at hd0 hd1 ⊢
    have hQ := Lib.hid hq
    clear hq
    by_cases hlt : k < 32
    · have hcell : ∀ j u, (bl a k)[j]? = some u → wr.cell? ((⟨g, 0, none⟩ : Addr).add j) = some u := hO.out.cells rfl
      have hC := Lib.hid hcell
      have hbs : w.heap.size ≤ wr.heap.size := hB.out.size
      have hlit := own_lit wr w.heap.size 3 [.int .i64 (q % 2)] hbs (by simp [maxLen])
      have hLit := Lib.hid hlit
      clear hcell hlit
      go_wp2_with (at_builtin; refine wpList_append_own _ rfl (.tmp 13) (.tmp 14) 68 rfl w.heap.size 3 i0 (.int .i64 0) 1 8 Try.underlying68 hi hz0 hz1 hz2 rfl (by decide) _ 1 [.int .i64 (q % 2)] rfl hLit.out ⟨g, 0, none⟩ k cap (bl a k) rfl ?c1 ?c2 ?c3 ?c4 ?c5 ?c6 ?_)
      case c1 => rw [hL.out, Nat.mul_one]
      case c2 => exact (hO.out.alloc _).cells rfl
      case c3 =>
        intro u hu
        obtain ⟨j, _, rfl⟩ := List.mem_map.1 hu
        rfl
      case c4 => unfold maxLen; omega
      case c5 => omega
      case c6 => simp; omega
      intro v' w1 hown' hgrow hne
      obtain ⟨g', cap', rfl, hg', hc', hlt'⟩ := own_some hown' hne
      have hO' := Lib.hid hown'
      have hbel := ((hB.out.alloc hbs _).grown hgrow (by simp; omega) (by intro k hk; simp [Value.ownBlock] at hk; omega))
      have hBel := Lib.hid hbel
      have hdn : q / 2 = a / 2 ^ (k + 1) := by rw [hQ.out]; exact div_next a k
      have hDn := Lib.hid hdn
      have hcons : (Value.int .i64 (q % 2) :: bl a k) = bl a (k + 1) := by rw [hQ.out]; exact bl_succ a k
      have hCons := Lib.hid hcons
      clear hown' hgrow hne hbel hdn hcons hg' hc' hlt'
      go_wp2_with fail
      go_roundw
      case rel => 
        refine ⟨k + 1, g', cap', by omega, by go_num, by rw [hDn.out], by rw [Nat.add_comm], ?_, hBel.out⟩
        rw [← hCons.out, Nat.add_comm k 1]
        exact hO'.out
      case measure => simp [intOf]; omega
    · have hk32 : k = 32 := by omega
      subst hk32
      go_wp2_with fail
      go_ret
      exact ⟨⟨g, cap, rfl, hO.out⟩, hB.out⟩
end Go.Proofs.Ytbfejmehbbieeaa.ref1
