/- What the evaluator comes to, function by function: by the kernel. Nothing here is trusted. -/
import Derived.Test.YtochjfimogijjaaWP5
namespace Go.Proofs.Ytochjfimogijjaa
open Go.Ev
set_option linter.unusedVariables false
/- roadbook/expr.May -/
def t12_h : Hints := fun _ =>  none
theorem t12 (N : Nat) (x0 : D) : evFn Try.prog (envH U2 H3) t12_h N Try.f12 [dat 26 x0] =
  bif mayPre 7 1 0 then
    some (dat 4 (.lit (.bool ((mayAll 7 x0 1 0).1))))
  else none := by kernel_rfl

/- roadbook/expr.Cols -/
def t17_h : Hints := fun _ =>  none
theorem t17 (N : Nat) (x0 : D) : evFn Try.prog (envH U3 H4) t17_h N Try.f17 [dat 26 x0] =
  bif (!(mayE x0)) then
    some (dat 27 (.slice [] []))
  else bif colsPre 7 x0 1 [] then
      bif decide (([] ++ colsK 7 x0).length ≤ 1000000) then
        some (dat 27 (.slice (compD (sortD ([] ++ colsK 7 x0))) []))
      else none
    else none := by kernel_rfl

end Go.Proofs.Ytochjfimogijjaa
