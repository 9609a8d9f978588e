/- What the evaluator comes to, function by function: by the kernel. Nothing here is trusted. -/
import Derived.Test.YtochjfimogijjaaWP9
namespace Go.Proofs.Ytochjfimogijjaa
open Go.Ev
set_option linter.unusedVariables false
/- roadbook/roadbookref02.Few -/
def t9_h : Hints := fun _ =>  none
theorem t9 (N : Nat) (x0 : D) (x1 : Int) : evFn Try.prog (envH (U7 1001) []) t9_h N Try.f9 [dat 26 x0, dat 3 (.lit (.int .i64 x1))] =
  bif (decide (0 ≤ x1) && decide (x1 < (1001 : Int)) && decide (1001 ≤ 1001)) then
    some (dat 4 (.lit (.bool (decide ((sizeK 1001 x0 x1) ≤ x1)))))
  else none := by kernel_rfl

/- roadbook/roadbooklaw02.Small -/
def t25_h : Hints := fun _ =>  none
theorem t25 (N : Nat)  : evFn Try.prog (envH U6 []) t25_h N Try.f25 [] =
  some (dat 26 (.agg [.lit (.int .i64 7), .lit (.int .i64 0), .agg [.lit (.int .i64 0), .lit (.int .i64 0)], .slice [.agg [.lit (.int .i64 1), .lit (.int .i64 3), .agg [.lit (.int .i64 0), .lit (.int .i64 0)], .slice [] []], .agg [.lit (.int .i64 0), .lit (.int .i64 0), .agg [.lit (.int .i64 0), .lit (.int .i64 5)], .slice [] []]] []])) := by kernel_rfl

/- roadbook/roadbooklaw02.awake -/
def t8_h : Hints := fun _ =>  none
theorem t8 (N : Nat)  : evFn Try.prog (envH U8 []) t8_h N Try.f8 [] =
  bif ((mayE smallD) == true) then
    bif ((((intD (fieldD (evalE smallD [.lit (.int .i64 1), .lit (.int .i64 3)] [.agg [.lit (.int .i64 0), .lit (.int .i64 9)], .agg [.lit (.int .i64 0), .lit (.int .i64 4)]]) 0)) == 0) && (((intD (fieldD (evalE smallD [.lit (.int .i64 1), .lit (.int .i64 3)] [.agg [.lit (.int .i64 0), .lit (.int .i64 9)], .agg [.lit (.int .i64 0), .lit (.int .i64 4)]]) 1)) == 1) && true)) == true) then
      bif ((intsB (colsE smallD) [.lit (.int .i64 3)]) == true) then
        some (dat 4 (.lit (.bool (keepsE smallD [.lit (.int .i64 3)] [.agg [.lit (.int .i64 0), .lit (.int .i64 4)]]))))
      else some (dat 4 (.lit (.bool false)))
    else some (dat 4 (.lit (.bool false)))
  else some (dat 4 (.lit (.bool false))) := by kernel_rfl

end Go.Proofs.Ytochjfimogijjaa
