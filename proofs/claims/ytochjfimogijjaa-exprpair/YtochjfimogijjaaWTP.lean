/- What the evaluator comes to, function by function: by the kernel. Nothing here is trusted. -/
import Derived.Test.YtochjfimogijjaaWP7
namespace Go.Proofs.Ytochjfimogijjaa
open Go.Ev
set_option linter.unusedVariables false
/- roadbook/expr.Pair -/
def t10_h : Hints := fun _ =>  none
theorem t10 (N : Nat) (x0 : D) : evFn Try.prog (envH U4 []) t10_h N Try.f10 [dat 26 x0] =
  bif ((!(mayE x0)) == false) then
    bif ((intD (fieldD x0 0)) != 6) then
      some (tupA [3, 3, 4] (.agg [.lit (.int .i64 0), .lit (.int .i64 0), .lit (.bool false)]))
    else bif (decide (0 ≤ (0 : Int)) && decide ((0 : Int) < ((elemsD (fieldD x0 3)).length : Int))) then
        bif (decide (0 ≤ (1 : Int)) && decide ((1 : Int) < ((elemsD (fieldD x0 3)).length : Int))) then
          bif (((intD (fieldD ((elemsD (fieldD x0 3)).getD 0 .nil) 0)) != 1) == false) then
            bif (((intD (fieldD ((elemsD (fieldD x0 3)).getD 1 .nil) 0)) != 1) == false) then
              bif ((intD (fieldD ((elemsD (fieldD x0 3)).getD 0 .nil) 1)) == (intD (fieldD ((elemsD (fieldD x0 3)).getD 1 .nil) 1))) then
                some (tupA [3, 3, 4] (.agg [.lit (.int .i64 0), .lit (.int .i64 0), .lit (.bool false)]))
              else some (tupA [3, 3, 4] (.agg [.lit (.int .i64 (intD (fieldD ((elemsD (fieldD x0 3)).getD 0 .nil) 1))), .lit (.int .i64 (intD (fieldD ((elemsD (fieldD x0 3)).getD 1 .nil) 1))), .lit (.bool true)]))
            else some (tupA [3, 3, 4] (.agg [.lit (.int .i64 0), .lit (.int .i64 0), .lit (.bool false)]))
          else some (tupA [3, 3, 4] (.agg [.lit (.int .i64 0), .lit (.int .i64 0), .lit (.bool false)]))
        else none
      else none
  else some (tupA [3, 3, 4] (.agg [.lit (.int .i64 0), .lit (.int .i64 0), .lit (.bool false)])) := by kernel_rfl

end Go.Proofs.Ytochjfimogijjaa
