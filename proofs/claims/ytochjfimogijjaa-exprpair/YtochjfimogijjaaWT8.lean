/- What the evaluator comes to, function by function: by the kernel. Nothing here is trusted. -/
import Derived.Test.YtochjfimogijjaaWP7
namespace Go.Proofs.Ytochjfimogijjaa
open Go.Ev
set_option linter.unusedVariables false
/- roadbook/expr.Eval -/
def t19_h : Hints := fun _ =>  none
theorem t19 (N : Nat) (x0 : D) (x1 : D) (x2 : D) : evFn Try.prog (envH U4 (H5 7)) t19_h N Try.f19 [dat 26 x0, dat 27 x1, dat 28 x2] =
  bif (!(mayE x0)) then
    some (dat 23 (.agg [.lit (.int .i64 2), .lit (.int .i64 0)]))
  else bif okK 7 x0 then
      some (dat 23 (evalK (elemsD x1) (elemsD x2) 7 x0))
    else none := by kernel_rfl

/- roadbook/expr.Keeps -/
def t21_h : Hints := fun _ =>  none
theorem t21 (N : Nat) (x0 : D) (x1 : D) (x2 : D) : evFn Try.prog (envH U5 []) t21_h N Try.f21 [dat 26 x0, dat 27 x1, dat 28 x2] =
  some (dat 4 (.lit (.bool (isTru (evalE x0 (elemsD x1) (elemsD x2)))))) := by kernel_rfl

end Go.Proofs.Ytochjfimogijjaa
