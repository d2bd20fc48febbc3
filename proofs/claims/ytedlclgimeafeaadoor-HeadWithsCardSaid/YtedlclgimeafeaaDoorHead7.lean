import Derived.Test.YtedlclgimeafeaaDoorHead6
/- Small things of the laws of layer 4: header literals, the law of an index. -/
set_option linter.unusedVariables false
set_option linter.unusedSimpArgs false
namespace Go.Proofs.YtedlclgimeafeaaDoor.head7
open Go.ChangeShapes Go.WideShapes Go.ChangeAt Go.RowKit Go.Proofs.YtedlclgimeafeaaDoor.frame Go.Proofs.YtedlclgimeafeaaDoor.hmath Go.Proofs.YtedlclgimeafeaaDoor.head1 Go.Proofs.YtedlclgimeafeaaDoor.hrow Go.Proofs.YtedlclgimeafeaaDoor.head3 Go.Proofs.YtedlclgimeafeaaDoor.head5 Go.Proofs.YtedlclgimeafeaaDoor.head6
def hd7 : Hd := { zeroHd with t := 7 }
def hd256 : Hd := { zeroHd with p := 256 }
theorem zero_ok : zeroHd.ok := by constructor <;> (first | (constructor <;> (constructor <;> decide)) | (constructor <;> decide))
theorem hd7_ok : hd7.ok := by constructor <;> (first | (constructor <;> (constructor <;> decide)) | (constructor <;> decide))
theorem hd256_ok : hd256.ok := by constructor <;> (first | (constructor <;> (constructor <;> decide)) | (constructor <;> decide))
section
variable {ops : Array Oper} {Q : Exit → Act → World → Prop} {a : Act} {w : World} {rest : List Oper} {op : Oper}
/-- a header literal with one part -/
theorem wp_build_one (hw : Region.wanted op (yielded ops a.tmps) = true) (j : Nat) (v : Value) (cs : Array Value) (ho : op.op = .build 33 #[(j, .const v)]) (hv : ∀ w, (Instr.build 33 #[(j, v)]).run Tryd.prog w = .ok (.agg cs) w)
    (h : wpList Tryd.prog ops Q rest (a.put op.dst (.agg cs)) w) : wpList Tryd.prog ops Q (op :: rest) a w :=
  wpList_step fun K hK => by
    have hv' : (Instr.build 33 #[(j, a.eval (.const v))]).run Tryd.prog w = .ok (.agg cs) w := hv w
    rw [if_pos hw]
    unfold Oper.wp execOp
    simp only [ho, Sem.run_bind, List.map_toArray, List.map_cons, List.map_nil, hv', Result.andThen_ok, Sem.run_pure]
    exact hK _ _ h
end
theorem build_7 (w : World) : (Instr.build 33 #[(3, .int .i64 7)]).run Tryd.prog w = .ok (.agg hd7.cells) w := by kernel_rfl
theorem build_256 (w : World) : (Instr.build 33 #[(0, .int .i64 256)]).run Tryd.prog w = .ok (.agg hd256.cells) w := by kernel_rfl
theorem index_nums (h : Hd) (f : Int) (h0 : 0 ≤ f) (h9 : f < 9) (w : World) : (Instr.index 36 (.agg (nums h)) (.int .i64 f)).run Tryd.prog w = .ok (.int .u64 (getI h f)) w := by
  unfold nums
  rcases cases9 h0 h9 with rfl | rfl | rfl | rfl | rfl | rfl | rfl | rfl | rfl <;> kernel_rfl
end Go.Proofs.YtedlclgimeafeaaDoor.head7
