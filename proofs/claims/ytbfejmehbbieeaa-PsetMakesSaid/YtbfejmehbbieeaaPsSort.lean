import Derived.Test.YtbfejmehbbieeaaPsCmp
import Derived.Test.YtbfejmehbbieeaaPsLay
/- slices.SortFunc over prefixes, by ip.Prefix.Cmp: the row sorted, nothing else turned. -/
set_option linter.unusedVariables false
set_option linter.unusedSimpArgs false
namespace Go.Proofs.Ytbfejmehbbieeaa.pssort
open Go.RowKit Go.Shelf Go.Lib Go.Sort Go.Proofs.Ytbfejmehbbieeaa.pscmp

/-- prefixes in order -/
def sorted (d : Array (Int × Int)) : Array (Int × Int) := (d.toList.mergeSort fun x y => !ltOf cf y x).toArray
theorem sorted_size (d : Array (Int × Int)) : (sorted d).size = d.size := by simp [sorted]

theorem below_mapBlock {B blk : Nat} {w : World} (f : Array Value → Array Value) (hB : B ≤ blk) : Below B w (mapBlock w blk f) := by
  unfold mapBlock
  refine ⟨rfl, rfl, rfl, by simp, fun k hk => ?_⟩
  simp only [Array.getElem?_modify]
  rw [if_neg (by omega)]
theorem below_grow {B : Nat} {a w : World} (h : Below B a w) (hB : B ≤ w.heap.size) (os : Array Obj) : Below B a (grow w os) :=
  ⟨h.os, h.tape, h.output, by have := h.size; simp [grow]; omega, fun k hk => by
    have := h.block k hk
    rw [← this]
    simp only [grow]
    exact Array.getElem?_append_left (by omega)⟩
theorem below_sort {B blk off n : Nat} {w : World} (dk : Array (Int × Int)) (os : Array Obj) (hB : B ≤ blk) (hblk : blk < w.heap.size) : Below B w (sortWorldK enc 2 w blk off n dk os) := by
  unfold sortWorldK putRowK putRow
  have h0 : Below B w (Sort.ahead w n) := ⟨rfl, rfl, rfl, Nat.le_refl _, fun _ _ => rfl⟩
  have h1 : Below B w (mapBlock (Sort.ahead w n) blk (putCells id off (flatK enc 2 dk))) := h0.trans (below_mapBlock _ hB)
  exact below_grow h1 (by have := h1.size; omega) os

theorem aggPfx : ∀ w : World, (isAgg 26).run Try.prog w = .ok true w := fun w => by kernel_rfl
theorem sizePfx : ∀ w : World, (sizeOf 26).run Try.prog w = .ok 2 w := fun w => by kernel_rfl

theorem sort_any (blk off cap : Nat) (d : Array (Int × Int)) (w : World) (hH : HoldsK enc 2 w blk off d) (hblk : blk < w.heap.size) (hsz : d.size < 4611686018427387904) :
    Calls Try.prog 32 #[.slice (some ⟨blk, off, none⟩) d.size cap, .func (.func 26) #[] #[]] w fun e w' => e = .returned (.tuple #[]) ∧ HoldsK enc 2 w' blk off (sorted d) ∧ Below blk w w' ∧ (∀ a : Addr, a.block ≠ blk → a.block < w.heap.size → w'.cell? a = w.cell? a) := by
  have eg : ∀ args w, (callFunc 26 args).run Try.prog w = .ok (.enter 26 args) w := enters_of Try.func26 (by kernel_rfl) rfl
  have hcon := AnyQ.slices_SortFunc_total Try.sortP 2 aggPfx sizePfx enc (fun _ => rfl) (fun x v hv => by simp [enc] at hv; rcases hv with rfl | rfl <;> rfl) cf swo 26 #[] blk off cap d w eg (cmpLays blk off d.size w) hH hblk hsz parts
  change Calls Try.prog 32 _ _ _ at hcon
  refine hcon.mono ?_
  rintro e w' ⟨rfl, n, os, rfl⟩
  refine ⟨rfl, ?_, below_sort _ _ (Nat.le_refl _) hblk, fun a h1 h2 => cell?_sortWorldK_other enc 2 w blk off n _ os a h1 h2⟩
  exact holdsK_sortWorldK enc 2 w blk off n d _ os hblk hH (sorted_size d)
end Go.Proofs.Ytbfejmehbbieeaa.pssort
