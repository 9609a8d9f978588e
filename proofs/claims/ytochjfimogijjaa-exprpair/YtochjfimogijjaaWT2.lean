/- What the evaluator comes to, function by function: by the kernel. Nothing here is trusted. -/
import Derived.Test.YtochjfimogijjaaWP1
namespace Go.Proofs.Ytochjfimogijjaa
open Go.Ev
set_option linter.unusedVariables false
/- roadbook/expr.at -/
def t38_h : Hints := fun _ =>  none
theorem t38 (N : Nat) (x0 : Int) (x1 : D) (x2 : D) : evFn Try.prog (envH U1 []) t38_h N Try.f38 [dat 3 (.lit (.int .i64 x0)), dat 27 x1, dat 28 x2] =
  bif ((decide ((Lib.idxOf ((elemsD x1).map intD) x0) < 0)) == false) then
    bif ((decide ((Lib.idxOf ((elemsD x1).map intD) x0) ≥ ((elemsD x2).length : Int))) == false) then
      bif (decide (0 ≤ (Lib.idxOf ((elemsD x1).map intD) x0)) && decide ((Lib.idxOf ((elemsD x1).map intD) x0) < ((elemsD x2).length : Int))) then
        bif (!(mayB ((elemsD x2).getD (Lib.idxOf ((elemsD x1).map intD) x0).toNat .nil))) then
          some (dat 23 (.agg [.lit (.int .i64 2), .lit (.int .i64 0)]))
        else bif (decide (0 ≤ (Lib.idxOf ((elemsD x1).map intD) x0)) && decide ((Lib.idxOf ((elemsD x1).map intD) x0) < ((elemsD x2).length : Int))) then
            some (dat 23 ((elemsD x2).getD (Lib.idxOf ((elemsD x1).map intD) x0).toNat .nil))
          else none
      else none
    else some (dat 23 (.agg [.lit (.int .i64 2), .lit (.int .i64 0)]))
  else some (dat 23 (.agg [.lit (.int .i64 2), .lit (.int .i64 0)])) := by kernel_rfl

/- roadbook/expr.fits -/
def t29_h : Hints := fun _ =>  none
theorem t29 (N : Nat) (x0 : D) : evFn Try.prog (envH U1 []) t29_h N Try.f29 [dat 26 x0] =
  bif ((decide ((intD (fieldD x0 0)) < 0)) == false) then
    bif ((decide ((intD (fieldD x0 0)) ≥ 11)) == false) then
      bif ((decide ((intD (fieldD x0 1)) < 0)) == false) then
        bif ((decide ((intD (fieldD x0 1)) > 15)) == false) then
          bif (!(mayB (fieldD x0 2))) then
            some (dat 4 (.lit (.bool false)))
          else bif (((intD (fieldD x0 1)) != 0) == true) then
              bif (((intD (fieldD x0 0)) != 1) == false) then
                bif ((!(((intD (fieldD (fieldD x0 2) 0)) == 0) && (((intD (fieldD (fieldD x0 2) 1)) == 0) && true))) == true) then
                  bif ((intD (fieldD x0 0)) != 0) then
                    some (dat 4 (.lit (.bool false)))
                  else bif (decide (0 ≤ (intD (fieldD x0 0))) && decide ((intD (fieldD x0 0)) < 11)) then
                      some (dat 4 (.lit (.bool (takesB (formT (intD (fieldD x0 0))) ((elemsD (fieldD x0 3)).length : Int)))))
                    else none
                else bif (decide (0 ≤ (intD (fieldD x0 0))) && decide ((intD (fieldD x0 0)) < 11)) then
                    some (dat 4 (.lit (.bool (takesB (formT (intD (fieldD x0 0))) ((elemsD (fieldD x0 3)).length : Int)))))
                  else none
              else some (dat 4 (.lit (.bool false)))
            else bif ((!(((intD (fieldD (fieldD x0 2) 0)) == 0) && (((intD (fieldD (fieldD x0 2) 1)) == 0) && true))) == true) then
                bif ((intD (fieldD x0 0)) != 0) then
                  some (dat 4 (.lit (.bool false)))
                else bif (decide (0 ≤ (intD (fieldD x0 0))) && decide ((intD (fieldD x0 0)) < 11)) then
                    some (dat 4 (.lit (.bool (takesB (formT (intD (fieldD x0 0))) ((elemsD (fieldD x0 3)).length : Int)))))
                  else none
              else bif (decide (0 ≤ (intD (fieldD x0 0))) && decide ((intD (fieldD x0 0)) < 11)) then
                  some (dat 4 (.lit (.bool (takesB (formT (intD (fieldD x0 0))) ((elemsD (fieldD x0 3)).length : Int)))))
                else none
        else some (dat 4 (.lit (.bool false)))
      else some (dat 4 (.lit (.bool false)))
    else some (dat 4 (.lit (.bool false)))
  else some (dat 4 (.lit (.bool false))) := by kernel_rfl

end Go.Proofs.Ytochjfimogijjaa
