/- What the evaluator comes to for laws: by the kernel. Nothing here is trusted. -/
import Derived.Test.YtjgpdleibkfadaaVQ4
namespace Go.Proofs.Ytjgpdleibkfadaa
open Go.Ev
set_option linter.unusedVariables false
/- roadbook/roadbooklaw01.ValReckons -/
def t3_h : Hints := fun _ =>  none
theorem t3 (N : Nat) (x0 : D) (x1 : D) : evFn Try.prog (envOf T8) t3_h N Try.f3 [dat 23 x0, dat 23 x1] =
  bif (((mayB x0) == (mayB x0)) == true) then
    bif ((((intD (fieldD (addD x0 x1) 0)) == (intD (fieldD (addD x0 x1) 0))) && (((intD (fieldD (addD x0 x1) 1)) == (intD (fieldD (addD x0 x1) 1))) && true)) == true) then
      bif ((((intD (fieldD (subD x0 x1) 0)) == (intD (fieldD (subD x0 x1) 0))) && (((intD (fieldD (subD x0 x1) 1)) == (intD (fieldD (subD x0 x1) 1))) && true)) == true) then
        bif ((((intD (fieldD (mulD x0 x1) 0)) == (intD (fieldD (mulD x0 x1) 0))) && (((intD (fieldD (mulD x0 x1) 1)) == (intD (fieldD (mulD x0 x1) 1))) && true)) == true) then
          bif (((lessB x0 x1) == (lessB x0 x1)) == true) then
            bif ((((intD (fieldD (divD x0 x1) 0)) == (intD (fieldD (divD x0 x1) 0))) && (((intD (fieldD (divD x0 x1) 1)) == (intD (fieldD (divD x0 x1) 1))) && true)) == true) then
              bif ((((intD (fieldD (eqV x0 x1) 0)) == (intD (fieldD (eqV x0 x1) 0))) && (((intD (fieldD (eqV x0 x1) 1)) == (intD (fieldD (eqV x0 x1) 1))) && true)) == true) then
                some (dat 4 (.lit (.bool (((intD (fieldD (ltV x0 x1) 0)) == (intD (fieldD (ltV x0 x1) 0))) && (((intD (fieldD (ltV x0 x1) 1)) == (intD (fieldD (ltV x0 x1) 1))) && true)))))
              else some (dat 4 (.lit (.bool false)))
            else some (dat 4 (.lit (.bool false)))
          else some (dat 4 (.lit (.bool false)))
        else bif (((lessB x0 x1) == (lessB x0 x1)) == true) then
            some (dat 4 (.lit (.bool false)))
          else some (dat 4 (.lit (.bool false)))
      else bif (((lessB x0 x1) == (lessB x0 x1)) == true) then
          some (dat 4 (.lit (.bool false)))
        else some (dat 4 (.lit (.bool false)))
    else bif (((lessB x0 x1) == (lessB x0 x1)) == true) then
        some (dat 4 (.lit (.bool false)))
      else some (dat 4 (.lit (.bool false)))
  else bif ((((intD (fieldD (addD x0 x1) 0)) == (intD (fieldD (addD x0 x1) 0))) && (((intD (fieldD (addD x0 x1) 1)) == (intD (fieldD (addD x0 x1) 1))) && true)) == true) then
      bif ((((intD (fieldD (subD x0 x1) 0)) == (intD (fieldD (subD x0 x1) 0))) && (((intD (fieldD (subD x0 x1) 1)) == (intD (fieldD (subD x0 x1) 1))) && true)) == true) then
        bif ((((intD (fieldD (mulD x0 x1) 0)) == (intD (fieldD (mulD x0 x1) 0))) && (((intD (fieldD (mulD x0 x1) 1)) == (intD (fieldD (mulD x0 x1) 1))) && true)) == true) then
          some (dat 4 (.lit (.bool false)))
        else some (dat 4 (.lit (.bool false)))
      else some (dat 4 (.lit (.bool false)))
    else some (dat 4 (.lit (.bool false))) := by kernel_rfl

/- roadbook/roadbooklaw01.ValThree -/
def t4_h : Hints := fun _ =>  none
theorem t4 (N : Nat) (x0 : D) (x1 : D) : evFn Try.prog (envOf T8) t4_h N Try.f4 [dat 28 x0, dat 23 x1] =
  bif decide (((elemsD x0).length : Int) > 1000) then
    some (dat 4 (.lit (.bool true)))
  else bif ((((intD (fieldD (andD (elemsD x0)) 0)) == (intD (fieldD (andD (elemsD x0)) 0))) && (((intD (fieldD (andD (elemsD x0)) 1)) == (intD (fieldD (andD (elemsD x0)) 1))) && true)) == true) then
      bif ((((intD (fieldD (orD (elemsD x0)) 0)) == (intD (fieldD (orD (elemsD x0)) 0))) && (((intD (fieldD (orD (elemsD x0)) 1)) == (intD (fieldD (orD (elemsD x0)) 1))) && true)) == true) then
        bif decide ((elemsD x0).length ≤ 1000) then
          bif ((((intD (fieldD (sumD (elemsD x0)) 0)) == (intD (fieldD (sumD (elemsD x0)) 0))) && (((intD (fieldD (sumD (elemsD x0)) 1)) == (intD (fieldD (sumD (elemsD x0)) 1))) && true)) == true) then
            bif ((((intD (fieldD (notD x1) 0)) == (intD (fieldD (notD x1) 0))) && (((intD (fieldD (notD x1) 1)) == (intD (fieldD (notD x1) 1))) && true)) == true) then
              some (dat 4 (.lit (.bool ((isTru x1) == (isTru x1)))))
            else some (dat 4 (.lit (.bool false)))
          else some (dat 4 (.lit (.bool false)))
        else none
      else some (dat 4 (.lit (.bool false)))
    else some (dat 4 (.lit (.bool false))) := by kernel_rfl

/- roadbook/roadbooklaw01.ValOrder -/
def t5_h : Hints := fun _ =>  none
theorem t5 (N : Nat) (x0 : D) (x1 : D) (x2 : D) : evFn Try.prog (envOf T8) t5_h N Try.f5 [dat 23 x0, dat 23 x1, dat 23 x2] =
  bif ((lessB x0 x1) == true) then
    bif lessB x1 x0 then
      some (dat 4 (.lit (.bool false)))
    else bif ((mayB x0) == true) then
        bif ((mayB x1) == true) then
          bif ((!(lessB x0 x1)) == true) then
            bif (!((!(lessB x1 x0)) == (((intD (fieldD x0 0)) == (intD (fieldD x1 0))) && (((intD (fieldD x0 1)) == (intD (fieldD x1 1))) && true)))) then
              some (dat 4 (.lit (.bool false)))
            else bif ((lessB x0 x1) == true) then
                bif ((lessB x1 x2) == true) then
                  bif (!(lessB x0 x2)) then
                    some (dat 4 (.lit (.bool false)))
                  else bif ((!(mayB x0)) == false) then
                      bif ((!(mayB x1)) == false) then
                        bif ((decide ((intD (fieldD x0 0)) ≥ (intD (fieldD x1 0)))) == false) then
                          some (dat 4 (.lit (.bool (lessB x0 x1))))
                        else some (dat 4 (.lit (.bool true)))
                      else some (dat 4 (.lit (.bool true)))
                    else some (dat 4 (.lit (.bool true)))
                else bif ((!(mayB x0)) == false) then
                    bif ((!(mayB x1)) == false) then
                      bif ((decide ((intD (fieldD x0 0)) ≥ (intD (fieldD x1 0)))) == false) then
                        some (dat 4 (.lit (.bool (lessB x0 x1))))
                      else some (dat 4 (.lit (.bool true)))
                    else some (dat 4 (.lit (.bool true)))
                  else some (dat 4 (.lit (.bool true)))
              else bif ((!(mayB x0)) == false) then
                  bif ((!(mayB x1)) == false) then
                    bif ((decide ((intD (fieldD x0 0)) ≥ (intD (fieldD x1 0)))) == false) then
                      some (dat 4 (.lit (.bool (lessB x0 x1))))
                    else some (dat 4 (.lit (.bool true)))
                  else some (dat 4 (.lit (.bool true)))
                else some (dat 4 (.lit (.bool true)))
          else bif ((lessB x0 x1) == true) then
              bif ((lessB x1 x2) == true) then
                bif (!(lessB x0 x2)) then
                  some (dat 4 (.lit (.bool false)))
                else bif ((!(mayB x0)) == false) then
                    bif ((!(mayB x1)) == false) then
                      bif ((decide ((intD (fieldD x0 0)) ≥ (intD (fieldD x1 0)))) == false) then
                        some (dat 4 (.lit (.bool (lessB x0 x1))))
                      else some (dat 4 (.lit (.bool true)))
                    else some (dat 4 (.lit (.bool true)))
                  else some (dat 4 (.lit (.bool true)))
              else bif ((!(mayB x0)) == false) then
                  bif ((!(mayB x1)) == false) then
                    bif ((decide ((intD (fieldD x0 0)) ≥ (intD (fieldD x1 0)))) == false) then
                      some (dat 4 (.lit (.bool (lessB x0 x1))))
                    else some (dat 4 (.lit (.bool true)))
                  else some (dat 4 (.lit (.bool true)))
                else some (dat 4 (.lit (.bool true)))
            else bif ((!(mayB x0)) == false) then
                bif ((!(mayB x1)) == false) then
                  bif ((decide ((intD (fieldD x0 0)) ≥ (intD (fieldD x1 0)))) == false) then
                    some (dat 4 (.lit (.bool (lessB x0 x1))))
                  else some (dat 4 (.lit (.bool true)))
                else some (dat 4 (.lit (.bool true)))
              else some (dat 4 (.lit (.bool true)))
        else bif ((lessB x0 x1) == true) then
            bif ((lessB x1 x2) == true) then
              bif (!(lessB x0 x2)) then
                some (dat 4 (.lit (.bool false)))
              else bif ((!(mayB x0)) == false) then
                  bif ((!(mayB x1)) == false) then
                    bif ((decide ((intD (fieldD x0 0)) ≥ (intD (fieldD x1 0)))) == false) then
                      some (dat 4 (.lit (.bool (lessB x0 x1))))
                    else some (dat 4 (.lit (.bool true)))
                  else some (dat 4 (.lit (.bool true)))
                else some (dat 4 (.lit (.bool true)))
            else bif ((!(mayB x0)) == false) then
                bif ((!(mayB x1)) == false) then
                  bif ((decide ((intD (fieldD x0 0)) ≥ (intD (fieldD x1 0)))) == false) then
                    some (dat 4 (.lit (.bool (lessB x0 x1))))
                  else some (dat 4 (.lit (.bool true)))
                else some (dat 4 (.lit (.bool true)))
              else some (dat 4 (.lit (.bool true)))
          else bif ((!(mayB x0)) == false) then
              bif ((!(mayB x1)) == false) then
                bif ((decide ((intD (fieldD x0 0)) ≥ (intD (fieldD x1 0)))) == false) then
                  some (dat 4 (.lit (.bool (lessB x0 x1))))
                else some (dat 4 (.lit (.bool true)))
              else some (dat 4 (.lit (.bool true)))
            else some (dat 4 (.lit (.bool true)))
      else bif ((lessB x0 x1) == true) then
          bif ((lessB x1 x2) == true) then
            bif (!(lessB x0 x2)) then
              some (dat 4 (.lit (.bool false)))
            else bif ((!(mayB x0)) == false) then
                bif ((!(mayB x1)) == false) then
                  bif ((decide ((intD (fieldD x0 0)) ≥ (intD (fieldD x1 0)))) == false) then
                    some (dat 4 (.lit (.bool (lessB x0 x1))))
                  else some (dat 4 (.lit (.bool true)))
                else some (dat 4 (.lit (.bool true)))
              else some (dat 4 (.lit (.bool true)))
          else bif ((!(mayB x0)) == false) then
              bif ((!(mayB x1)) == false) then
                bif ((decide ((intD (fieldD x0 0)) ≥ (intD (fieldD x1 0)))) == false) then
                  some (dat 4 (.lit (.bool (lessB x0 x1))))
                else some (dat 4 (.lit (.bool true)))
              else some (dat 4 (.lit (.bool true)))
            else some (dat 4 (.lit (.bool true)))
        else bif ((!(mayB x0)) == false) then
            bif ((!(mayB x1)) == false) then
              bif ((decide ((intD (fieldD x0 0)) ≥ (intD (fieldD x1 0)))) == false) then
                some (dat 4 (.lit (.bool (lessB x0 x1))))
              else some (dat 4 (.lit (.bool true)))
            else some (dat 4 (.lit (.bool true)))
          else some (dat 4 (.lit (.bool true)))
  else bif ((mayB x0) == true) then
      bif ((mayB x1) == true) then
        bif ((!(lessB x0 x1)) == true) then
          bif (!((!(lessB x1 x0)) == (((intD (fieldD x0 0)) == (intD (fieldD x1 0))) && (((intD (fieldD x0 1)) == (intD (fieldD x1 1))) && true)))) then
            some (dat 4 (.lit (.bool false)))
          else bif ((lessB x0 x1) == true) then
              bif ((lessB x1 x2) == true) then
                bif (!(lessB x0 x2)) then
                  some (dat 4 (.lit (.bool false)))
                else bif ((!(mayB x0)) == false) then
                    bif ((!(mayB x1)) == false) then
                      bif ((decide ((intD (fieldD x0 0)) ≥ (intD (fieldD x1 0)))) == false) then
                        some (dat 4 (.lit (.bool (lessB x0 x1))))
                      else some (dat 4 (.lit (.bool true)))
                    else some (dat 4 (.lit (.bool true)))
                  else some (dat 4 (.lit (.bool true)))
              else bif ((!(mayB x0)) == false) then
                  bif ((!(mayB x1)) == false) then
                    bif ((decide ((intD (fieldD x0 0)) ≥ (intD (fieldD x1 0)))) == false) then
                      some (dat 4 (.lit (.bool (lessB x0 x1))))
                    else some (dat 4 (.lit (.bool true)))
                  else some (dat 4 (.lit (.bool true)))
                else some (dat 4 (.lit (.bool true)))
            else bif ((!(mayB x0)) == false) then
                bif ((!(mayB x1)) == false) then
                  bif ((decide ((intD (fieldD x0 0)) ≥ (intD (fieldD x1 0)))) == false) then
                    some (dat 4 (.lit (.bool (lessB x0 x1))))
                  else some (dat 4 (.lit (.bool true)))
                else some (dat 4 (.lit (.bool true)))
              else some (dat 4 (.lit (.bool true)))
        else bif ((lessB x0 x1) == true) then
            bif ((lessB x1 x2) == true) then
              bif (!(lessB x0 x2)) then
                some (dat 4 (.lit (.bool false)))
              else bif ((!(mayB x0)) == false) then
                  bif ((!(mayB x1)) == false) then
                    bif ((decide ((intD (fieldD x0 0)) ≥ (intD (fieldD x1 0)))) == false) then
                      some (dat 4 (.lit (.bool (lessB x0 x1))))
                    else some (dat 4 (.lit (.bool true)))
                  else some (dat 4 (.lit (.bool true)))
                else some (dat 4 (.lit (.bool true)))
            else bif ((!(mayB x0)) == false) then
                bif ((!(mayB x1)) == false) then
                  bif ((decide ((intD (fieldD x0 0)) ≥ (intD (fieldD x1 0)))) == false) then
                    some (dat 4 (.lit (.bool (lessB x0 x1))))
                  else some (dat 4 (.lit (.bool true)))
                else some (dat 4 (.lit (.bool true)))
              else some (dat 4 (.lit (.bool true)))
          else bif ((!(mayB x0)) == false) then
              bif ((!(mayB x1)) == false) then
                bif ((decide ((intD (fieldD x0 0)) ≥ (intD (fieldD x1 0)))) == false) then
                  some (dat 4 (.lit (.bool (lessB x0 x1))))
                else some (dat 4 (.lit (.bool true)))
              else some (dat 4 (.lit (.bool true)))
            else some (dat 4 (.lit (.bool true)))
      else bif ((lessB x0 x1) == true) then
          bif ((lessB x1 x2) == true) then
            bif (!(lessB x0 x2)) then
              some (dat 4 (.lit (.bool false)))
            else bif ((!(mayB x0)) == false) then
                bif ((!(mayB x1)) == false) then
                  bif ((decide ((intD (fieldD x0 0)) ≥ (intD (fieldD x1 0)))) == false) then
                    some (dat 4 (.lit (.bool (lessB x0 x1))))
                  else some (dat 4 (.lit (.bool true)))
                else some (dat 4 (.lit (.bool true)))
              else some (dat 4 (.lit (.bool true)))
          else bif ((!(mayB x0)) == false) then
              bif ((!(mayB x1)) == false) then
                bif ((decide ((intD (fieldD x0 0)) ≥ (intD (fieldD x1 0)))) == false) then
                  some (dat 4 (.lit (.bool (lessB x0 x1))))
                else some (dat 4 (.lit (.bool true)))
              else some (dat 4 (.lit (.bool true)))
            else some (dat 4 (.lit (.bool true)))
        else bif ((!(mayB x0)) == false) then
            bif ((!(mayB x1)) == false) then
              bif ((decide ((intD (fieldD x0 0)) ≥ (intD (fieldD x1 0)))) == false) then
                some (dat 4 (.lit (.bool (lessB x0 x1))))
              else some (dat 4 (.lit (.bool true)))
            else some (dat 4 (.lit (.bool true)))
          else some (dat 4 (.lit (.bool true)))
    else bif ((lessB x0 x1) == true) then
        bif ((lessB x1 x2) == true) then
          bif (!(lessB x0 x2)) then
            some (dat 4 (.lit (.bool false)))
          else bif ((!(mayB x0)) == false) then
              bif ((!(mayB x1)) == false) then
                bif ((decide ((intD (fieldD x0 0)) ≥ (intD (fieldD x1 0)))) == false) then
                  some (dat 4 (.lit (.bool (lessB x0 x1))))
                else some (dat 4 (.lit (.bool true)))
              else some (dat 4 (.lit (.bool true)))
            else some (dat 4 (.lit (.bool true)))
        else bif ((!(mayB x0)) == false) then
            bif ((!(mayB x1)) == false) then
              bif ((decide ((intD (fieldD x0 0)) ≥ (intD (fieldD x1 0)))) == false) then
                some (dat 4 (.lit (.bool (lessB x0 x1))))
              else some (dat 4 (.lit (.bool true)))
            else some (dat 4 (.lit (.bool true)))
          else some (dat 4 (.lit (.bool true)))
      else bif ((!(mayB x0)) == false) then
          bif ((!(mayB x1)) == false) then
            bif ((decide ((intD (fieldD x0 0)) ≥ (intD (fieldD x1 0)))) == false) then
              some (dat 4 (.lit (.bool (lessB x0 x1))))
            else some (dat 4 (.lit (.bool true)))
          else some (dat 4 (.lit (.bool true)))
        else some (dat 4 (.lit (.bool true))) := by kernel_rfl

/- roadbook/roadbooklaw01.ValBack -/
def t6_h : Hints := fun _ =>  none
theorem t6 (N : Nat) (x0 : Int) (x1 : Int) : evFn Try.prog (envOf T8) t6_h N Try.f6 [dat 3 (.lit (.int .i64 x0)), dat 3 (.lit (.int .i64 x1))] =
  bif ((!(((intD (fieldD (addD (.agg [.lit (.int .i64 0), .lit (.int .i64 x0)]) (.agg [.lit (.int .i64 0), .lit (.int .i64 x1)])) 0)) == (intD (fieldD (addD (.agg [.lit (.int .i64 0), .lit (.int .i64 x1)]) (.agg [.lit (.int .i64 0), .lit (.int .i64 x0)])) 0))) && (((intD (fieldD (addD (.agg [.lit (.int .i64 0), .lit (.int .i64 x0)]) (.agg [.lit (.int .i64 0), .lit (.int .i64 x1)])) 1)) == (intD (fieldD (addD (.agg [.lit (.int .i64 0), .lit (.int .i64 x1)]) (.agg [.lit (.int .i64 0), .lit (.int .i64 x0)])) 1))) && true))) == false) then
    bif ((!(((intD (fieldD (mulD (.agg [.lit (.int .i64 0), .lit (.int .i64 x0)]) (.agg [.lit (.int .i64 0), .lit (.int .i64 x1)])) 0)) == (intD (fieldD (mulD (.agg [.lit (.int .i64 0), .lit (.int .i64 x1)]) (.agg [.lit (.int .i64 0), .lit (.int .i64 x0)])) 0))) && (((intD (fieldD (mulD (.agg [.lit (.int .i64 0), .lit (.int .i64 x0)]) (.agg [.lit (.int .i64 0), .lit (.int .i64 x1)])) 1)) == (intD (fieldD (mulD (.agg [.lit (.int .i64 0), .lit (.int .i64 x1)]) (.agg [.lit (.int .i64 0), .lit (.int .i64 x0)])) 1))) && true))) == false) then
      bif ((!(mayB (addD (.agg [.lit (.int .i64 0), .lit (.int .i64 x0)]) (.agg [.lit (.int .i64 0), .lit (.int .i64 x1)])))) == false) then
        bif (!(mayB (mulD (.agg [.lit (.int .i64 0), .lit (.int .i64 x0)]) (.agg [.lit (.int .i64 0), .lit (.int .i64 x1)])))) then
          some (dat 4 (.lit (.bool false)))
        else bif (((intD (fieldD (addD (.agg [.lit (.int .i64 0), .lit (.int .i64 x0)]) (.agg [.lit (.int .i64 0), .lit (.int .i64 x1)])) 0)) == 0) == true) then
            bif (!(((intD (fieldD (subD (addD (.agg [.lit (.int .i64 0), .lit (.int .i64 x0)]) (.agg [.lit (.int .i64 0), .lit (.int .i64 x1)])) (.agg [.lit (.int .i64 0), .lit (.int .i64 x1)])) 0)) == 0) && (((intD (fieldD (subD (addD (.agg [.lit (.int .i64 0), .lit (.int .i64 x0)]) (.agg [.lit (.int .i64 0), .lit (.int .i64 x1)])) (.agg [.lit (.int .i64 0), .lit (.int .i64 x1)])) 1)) == x0) && true))) then
              some (dat 4 (.lit (.bool false)))
            else bif (((intD (fieldD (mulD (.agg [.lit (.int .i64 0), .lit (.int .i64 x0)]) (.agg [.lit (.int .i64 0), .lit (.int .i64 x1)])) 0)) != 0) == false) then
                bif ((x1 == 0) == false) then
                  some (dat 4 (.lit (.bool (((intD (fieldD (divD (mulD (.agg [.lit (.int .i64 0), .lit (.int .i64 x0)]) (.agg [.lit (.int .i64 0), .lit (.int .i64 x1)])) (.agg [.lit (.int .i64 0), .lit (.int .i64 x1)])) 0)) == 0) && (((intD (fieldD (divD (mulD (.agg [.lit (.int .i64 0), .lit (.int .i64 x0)]) (.agg [.lit (.int .i64 0), .lit (.int .i64 x1)])) (.agg [.lit (.int .i64 0), .lit (.int .i64 x1)])) 1)) == x0) && true)))))
                else some (dat 4 (.lit (.bool true)))
              else some (dat 4 (.lit (.bool true)))
          else bif (((intD (fieldD (mulD (.agg [.lit (.int .i64 0), .lit (.int .i64 x0)]) (.agg [.lit (.int .i64 0), .lit (.int .i64 x1)])) 0)) != 0) == false) then
              bif ((x1 == 0) == false) then
                some (dat 4 (.lit (.bool (((intD (fieldD (divD (mulD (.agg [.lit (.int .i64 0), .lit (.int .i64 x0)]) (.agg [.lit (.int .i64 0), .lit (.int .i64 x1)])) (.agg [.lit (.int .i64 0), .lit (.int .i64 x1)])) 0)) == 0) && (((intD (fieldD (divD (mulD (.agg [.lit (.int .i64 0), .lit (.int .i64 x0)]) (.agg [.lit (.int .i64 0), .lit (.int .i64 x1)])) (.agg [.lit (.int .i64 0), .lit (.int .i64 x1)])) 1)) == x0) && true)))))
              else some (dat 4 (.lit (.bool true)))
            else some (dat 4 (.lit (.bool true)))
      else some (dat 4 (.lit (.bool false)))
    else some (dat 4 (.lit (.bool false)))
  else some (dat 4 (.lit (.bool false))) := by kernel_rfl

/- roadbook/roadbooklaw01.ValFew -/
def t10_h : Hints := fun i => if i = 6 then some ([0, 1, 4, 10, 11, 12, 13, 14, 15, 16, 17, 18, 19, 20, 21, 22, 23, 24, 25, 26, 27, 28, 29, 30, 31, 32, 33, 34, 35, 36, 37, 38, 39, 40, 41, 42, 43, 44, 45, 46, 47, 48, 49, 50, 51, 52, 53, 54, 55, 56, 57, 58, 59, 60, 61, 62, 63, 64, 65, 66, 67, 68, 69, 70, 71, 72, 73, 74, 75, 76, 77, 78, 79, 80, 81, 82, 83, 84, 85, 86, 87, 88, 89, 90, 91, 92, 93], [2, 3, 6, 7]) else none
def t10_lp6 (P : Program) (fn : Func) (N n : Nat) (x0 : D) (x1 : D) (v9 : Int) : Option AV := evLoop (preL t10_h (sub [1, 1, 1, 1, 1, 0, 1, 0, 0] (bodyOf fn))) (evCode P (envOf T8) t10_h N (sub [1, 1, 1, 1, 1, 0, 1, 0, 0] (bodyOf fn))) n ⟨[dead, dead, bxp 2 23, bxp 3 23, dead, dat 4 (.lit (.bool true)), bxp 6 23, bxp 7 23, dat 28 (.slice [addD x0 (.agg [.lit (.int .i64 2), .lit (.int .i64 0)]), subD (.agg [.lit (.int .i64 2), .lit (.int .i64 0)]) x0, mulD x0 (.agg [.lit (.int .i64 2), .lit (.int .i64 0)]), divD (.agg [.lit (.int .i64 2), .lit (.int .i64 0)]) x0, eqV x0 (.agg [.lit (.int .i64 2), .lit (.int .i64 0)]), ltV (.agg [.lit (.int .i64 2), .lit (.int .i64 0)]) x0] []), dat 3 (.lit (.int .i64 v9)), dead, dead, dead, dead, dead, dead, dead, dead, dead, dead, dead, dead, dead, dead, dead, dead, dead, dead, dead, dead, dead, dead, dead, dead, dead, dead, dead, dead, dead, dead, dead, dead, dead, dead, dead, dead, dead, dead, dead, dead, dead, dead, dead, dead, dead, dead, dead, dead, dead, dead, dead, dead, dead, dead, dead, dead, dead, dead, dead, dead, dead, dead, dead, dead, dead, dead, dead, dead, dead, dead, dead, dead, dead, dead, dead, dead, dead, dead, dead, dead, dead, dead, dead, dead], lookB [(2, some ⟨23, x0, 0⟩), (3, some ⟨23, x1, 0⟩), (6, some ⟨23, .agg [.lit (.int .i64 2), .lit (.int .i64 0)], 0⟩), (7, some ⟨23, .agg [.lit (.int .i64 1), .lit (.int .i64 0)], 0⟩)]⟩ (blockK 0 (seqC P (envOf T8) t10_h N (sub [1, 1, 1, 1, 1, 1] (bodyOf fn)) (finK P fn) ))
theorem t10_lp6_step (N n : Nat) (x0 : D) (x1 : D) (v9 : Int) : t10_lp6 Try.prog Try.f10 N (n + 1) x0 x1 v9 =
  bif decide (v9 < 6) then
    bif (decide (0 ≤ v9) && decide (v9 < 6)) then
      bif (!(((intD (fieldD ([addD x0 (.agg [.lit (.int .i64 2), .lit (.int .i64 0)]), subD (.agg [.lit (.int .i64 2), .lit (.int .i64 0)]) x0, mulD x0 (.agg [.lit (.int .i64 2), .lit (.int .i64 0)]), divD (.agg [.lit (.int .i64 2), .lit (.int .i64 0)]) x0, eqV x0 (.agg [.lit (.int .i64 2), .lit (.int .i64 0)]), ltV (.agg [.lit (.int .i64 2), .lit (.int .i64 0)]) x0].getD (v9).toNat .nil) 0)) == 2) && (((intD (fieldD ([addD x0 (.agg [.lit (.int .i64 2), .lit (.int .i64 0)]), subD (.agg [.lit (.int .i64 2), .lit (.int .i64 0)]) x0, mulD x0 (.agg [.lit (.int .i64 2), .lit (.int .i64 0)]), divD (.agg [.lit (.int .i64 2), .lit (.int .i64 0)]) x0, eqV x0 (.agg [.lit (.int .i64 2), .lit (.int .i64 0)]), ltV (.agg [.lit (.int .i64 2), .lit (.int .i64 0)]) x0].getD (v9).toNat .nil) 1)) == 0) && true))) then
        some (dat 4 (.lit (.bool false)))
      else t10_lp6 Try.prog Try.f10 N n x0 x1 (IntKind.wrap .i64 (v9 + 1))
    else none
  else bif (((intD (fieldD (addD x0 x1) 0)) != 0) == false) then
      bif (((intD (fieldD x0 0)) == 0) == true) then
        bif (((intD (fieldD x1 0)) == 0) == true) then
          bif ((((intD (fieldD (addD x0 (.agg [.lit (.int .i64 1), .lit (.int .i64 0)])) 0)) == 1) && (((intD (fieldD (addD x0 (.agg [.lit (.int .i64 1), .lit (.int .i64 0)])) 1)) == 0) && true)) == false) then
            bif ((((intD (fieldD (addD x0 (.agg [.lit (.int .i64 1), .lit (.int .i64 0)])) 0)) == 2) && (((intD (fieldD (addD x0 (.agg [.lit (.int .i64 1), .lit (.int .i64 0)])) 1)) == 0) && true)) == true) then
              bif ((((intD (fieldD (andD [.agg [.lit (.int .i64 2), .lit (.int .i64 0)], .agg [.lit (.int .i64 0), .lit (.int .i64 0)]]) 0)) == 0) && (((intD (fieldD (andD [.agg [.lit (.int .i64 2), .lit (.int .i64 0)], .agg [.lit (.int .i64 0), .lit (.int .i64 0)]]) 1)) == 0) && true)) == true) then
                some (dat 4 (.lit (.bool (((intD (fieldD (orD [.agg [.lit (.int .i64 2), .lit (.int .i64 0)], .agg [.lit (.int .i64 0), .lit (.int .i64 1)]]) 0)) == 0) && (((intD (fieldD (orD [.agg [.lit (.int .i64 2), .lit (.int .i64 0)], .agg [.lit (.int .i64 0), .lit (.int .i64 1)]]) 1)) == 1) && true)))))
              else some (dat 4 (.lit (.bool false)))
            else some (dat 4 (.lit (.bool false)))
          else bif ((((intD (fieldD (andD [.agg [.lit (.int .i64 2), .lit (.int .i64 0)], .agg [.lit (.int .i64 0), .lit (.int .i64 0)]]) 0)) == 0) && (((intD (fieldD (andD [.agg [.lit (.int .i64 2), .lit (.int .i64 0)], .agg [.lit (.int .i64 0), .lit (.int .i64 0)]]) 1)) == 0) && true)) == true) then
              some (dat 4 (.lit (.bool (((intD (fieldD (orD [.agg [.lit (.int .i64 2), .lit (.int .i64 0)], .agg [.lit (.int .i64 0), .lit (.int .i64 1)]]) 0)) == 0) && (((intD (fieldD (orD [.agg [.lit (.int .i64 2), .lit (.int .i64 0)], .agg [.lit (.int .i64 0), .lit (.int .i64 1)]]) 1)) == 1) && true)))))
            else some (dat 4 (.lit (.bool false)))
        else some (dat 4 (.lit (.bool false)))
      else some (dat 4 (.lit (.bool false)))
    else bif ((((intD (fieldD (addD x0 (.agg [.lit (.int .i64 1), .lit (.int .i64 0)])) 0)) == 1) && (((intD (fieldD (addD x0 (.agg [.lit (.int .i64 1), .lit (.int .i64 0)])) 1)) == 0) && true)) == false) then
        bif ((((intD (fieldD (addD x0 (.agg [.lit (.int .i64 1), .lit (.int .i64 0)])) 0)) == 2) && (((intD (fieldD (addD x0 (.agg [.lit (.int .i64 1), .lit (.int .i64 0)])) 1)) == 0) && true)) == true) then
          bif ((((intD (fieldD (andD [.agg [.lit (.int .i64 2), .lit (.int .i64 0)], .agg [.lit (.int .i64 0), .lit (.int .i64 0)]]) 0)) == 0) && (((intD (fieldD (andD [.agg [.lit (.int .i64 2), .lit (.int .i64 0)], .agg [.lit (.int .i64 0), .lit (.int .i64 0)]]) 1)) == 0) && true)) == true) then
            some (dat 4 (.lit (.bool (((intD (fieldD (orD [.agg [.lit (.int .i64 2), .lit (.int .i64 0)], .agg [.lit (.int .i64 0), .lit (.int .i64 1)]]) 0)) == 0) && (((intD (fieldD (orD [.agg [.lit (.int .i64 2), .lit (.int .i64 0)], .agg [.lit (.int .i64 0), .lit (.int .i64 1)]]) 1)) == 1) && true)))))
          else some (dat 4 (.lit (.bool false)))
        else some (dat 4 (.lit (.bool false)))
      else bif ((((intD (fieldD (andD [.agg [.lit (.int .i64 2), .lit (.int .i64 0)], .agg [.lit (.int .i64 0), .lit (.int .i64 0)]]) 0)) == 0) && (((intD (fieldD (andD [.agg [.lit (.int .i64 2), .lit (.int .i64 0)], .agg [.lit (.int .i64 0), .lit (.int .i64 0)]]) 1)) == 0) && true)) == true) then
          some (dat 4 (.lit (.bool (((intD (fieldD (orD [.agg [.lit (.int .i64 2), .lit (.int .i64 0)], .agg [.lit (.int .i64 0), .lit (.int .i64 1)]]) 0)) == 0) && (((intD (fieldD (orD [.agg [.lit (.int .i64 2), .lit (.int .i64 0)], .agg [.lit (.int .i64 0), .lit (.int .i64 1)]]) 1)) == 1) && true)))))
        else some (dat 4 (.lit (.bool false))) := by kernel_rfl
theorem t10 (N : Nat) (x0 : D) (x1 : D) : evFn Try.prog (envOf T8) t10_h N Try.f10 [dat 23 x0, dat 23 x1] =
  t10_lp6 Try.prog Try.f10 N N x0 x1 0 := by kernel_rfl

end Go.Proofs.Ytjgpdleibkfadaa
