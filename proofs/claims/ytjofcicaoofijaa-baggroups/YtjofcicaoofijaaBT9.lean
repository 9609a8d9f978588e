/- What the evaluator comes to, function by function: by the kernel. Nothing here is trusted. -/
import Derived.Test.YtjofcicaoofijaaBD
namespace Go.Proofs.Ytjofcicaoofijaa
open Go.Ev
set_option linter.unusedVariables false
/- roadbook/roadbooklaw03.awake -/
def t4_h : Hints := fun _ =>  none
theorem t4 (N : Nat)  : evFn Try.prog (envR B6 H7 R3 []) t4_h N Try.f4 [] =
  bif ((mayBagB threeD) == true) then
    bif ((groupOK threeD 0 [.lit (.int .i64 1)]) == true) then
      bif ((likeB (groupBag threeD 0 [.lit (.int .i64 1)]) (.agg [.slice [.lit (.int .i64 0), .lit (.int .i64 16), .lit (.int .i64 17)] [], .slice [.slice [.agg [.lit (.int .i64 0), .lit (.int .i64 1)], .agg [.lit (.int .i64 0), .lit (.int .i64 2)], .agg [.lit (.int .i64 0), .lit (.int .i64 7)]] [], .slice [.agg [.lit (.int .i64 0), .lit (.int .i64 3)], .agg [.lit (.int .i64 0), .lit (.int .i64 1)], .agg [.lit (.int .i64 0), .lit (.int .i64 4)]] []] []])) == true) then
        bif ((!(sortedB threeD 0)) == true) then
          bif sortOK threeD then
            some (dat 4 (.lit (.bool (sortedB (sortBag threeD 0) 0))))
          else none
        else some (dat 4 (.lit (.bool false)))
      else some (dat 4 (.lit (.bool false)))
    else some (dat 4 (.lit (.bool false)))
  else some (dat 4 (.lit (.bool false))) := by kernel_rfl

end Go.Proofs.Ytjofcicaoofijaa
