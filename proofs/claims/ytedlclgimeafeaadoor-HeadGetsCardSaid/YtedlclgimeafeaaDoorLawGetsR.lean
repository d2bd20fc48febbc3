import Derived.Test.YtedlclgimeafeaaDoorHead7
/- A part of HeadGets. -/
set_option linter.unusedVariables false
set_option linter.unusedSimpArgs false
namespace Go.Proofs.YtedlclgimeafeaaDoor.lawGetsR
open Go.ChangeShapes Go.WideShapes Go.ChangeAt Go.RowKit Go.Proofs.YtedlclgimeafeaaDoor.frame Go.Proofs.YtedlclgimeafeaaDoor.hmath Go.Proofs.YtedlclgimeafeaaDoor.head1 Go.Proofs.YtedlclgimeafeaaDoor.head2 Go.Proofs.YtedlclgimeafeaaDoor.hrow Go.Proofs.YtedlclgimeafeaaDoor.head3 Go.Proofs.YtedlclgimeafeaaDoor.head5 Go.Proofs.YtedlclgimeafeaaDoor.head6 Go.Proofs.YtedlclgimeafeaaDoor.head7

def Right (p t pr sp dp : Int) : Prop := 0 ≤ p ∧ p < 256 ∧ 0 ≤ t ∧ t < 65536 ∧ 0 ≤ pr ∧ pr < 256 ∧ 0 ≤ sp ∧ sp < 65536 ∧ 0 ≤ dp ∧ dp < 65536
theorem check_right (h : Hd) : (Right h.p h.t h.pr h.sp h.dp → checkI h = 0) ∧ (¬ Right h.p h.t h.pr h.sp h.dp → checkI h = 1) := by
  unfold checkI
  by_cases hc : checkB h = true
  · rw [if_pos hc]
    refine ⟨fun _ => rfl, fun hn => absurd ?_ hn⟩
    simp [checkB, fitsB, fullI] at hc
    unfold Right
    omega
  · rw [if_neg hc]
    refine ⟨fun hr => absurd ?_ hc, fun _ => rfl⟩
    unfold Right at hr
    simp [checkB, fitsB, fullI]
    omega

end Go.Proofs.YtedlclgimeafeaaDoor.lawGetsR
