/- What the evaluator comes to, function by function: by the kernel. Nothing here is trusted. -/
import Derived.Test.YtochjfimogijjaaWPP
namespace Go.Proofs.Ytochjfimogijjaa
open Go.Ev
set_option linter.unusedVariables false
/- roadbook/roadbooklaw02.ExprPair -/
def t6_h : Hints := fun i => if i = 10 then some ([0, 3, 4, 5, 6, 9, 12, 13, 14, 15, 16, 17, 18, 19, 20, 21, 22, 23, 24, 25, 26, 27, 28, 29, 30, 31, 32, 33, 34, 35, 36, 37, 38, 39, 40, 41, 42, 43, 44, 45, 46, 47, 48, 49, 50, 51, 52, 53, 54, 55, 56, 57, 58, 59, 60, 61, 62, 63, 64, 65, 66, 67, 68, 69, 70, 71, 72, 73, 74, 75, 76, 77, 78, 79, 80, 81, 82, 83, 84, 85, 86, 87, 88, 89, 90, 91, 92, 93, 94, 95, 96, 97, 98, 99, 100, 101, 102, 103, 104, 105, 106, 107, 108], [2, 10], []) else none
def t6_lp10 (P : Program) (fn : Func) (N n : Nat) (x0 : D) (x1 : D) (v11 : Int) (b10 : List D) : Option AV := evLoop (preL t6_h (sub [1, 1, 1, 1, 1, 1, 1, 0, 1, 0, 0] (bodyOf fn))) (evCode P (envH UP []) t6_h N (sub [1, 1, 1, 1, 1, 1, 1, 0, 1, 0, 0] (bodyOf fn))) n ⟨[dead, dat 28 x1, bxp 2 26, dead, dead, dead, dead, dat 3 (.lit (.int .i64 (pairA x0))), dat 3 (.lit (.int .i64 (pairB x0))), dead, bxp 10 27, dat 3 (.lit (.int .i64 v11)), dead, dead, dead, dead, dead, dead, dead, dead, dead, dead, dead, dead, dead, dead, dead, dead, dead, dead, dead, dead, dead, dead, dead, dead, dead, dead, dead, dead, dead, dead, dead, dead, dead, dead, dead, dead, dead, dead, dead, dead, dead, dead, dead, dead, dead, dead, dead, dead, dead, dead, dead, dead, dead, dead, dead, dead, dead, dead, dead, dead, dead, dead, dead, dead, dead, dead, dead, dead, dead, dead, dead, dead, dead, dead, dead, dead, dead, dead, dead, dead, dead, dead, dead, dead, dead, dead, dead, dead, dead, dead, dead, dead, dead, dead, dead, dead, dead], lookB [(2, some ⟨26, x0, 0, none⟩), (10, some ⟨27, .slice b10 [], 1, none⟩)]⟩ (blockK 0 (seqC P (envH UP []) t6_h N (sub [1, 1, 1, 1, 1, 1, 1, 1] (bodyOf fn)) (finK P fn) ))
theorem t6_lp10_step  (N n : Nat) (x0 : D) (x1 : D) (v11 : Int) (b10 : List D) : t6_lp10 Try.prog Try.f6 N (n + 1) x0 x1 v11 b10 =
  bif decide (v11 < 16) then
    bif decide ((b10).length + 1 ≤ 2147483648) then
      t6_lp10 Try.prog Try.f6 N n x0 x1 (IntKind.wrap .i64 (v11 + 1)) (b10 ++ [.lit (.int .i64 v11)])
    else none
  else bif (decide (0 ≤ (pairA x0)) && decide ((pairA x0) < ((elemsD x1).length : Int))) then
      bif (((intD (fieldD ((elemsD x1).getD (pairA x0).toNat .nil) 0)) == 0) == true) then
        bif (decide (0 ≤ (pairA x0)) && decide ((pairA x0) < ((elemsD x1).length : Int))) then
          bif (decide (0 ≤ (pairB x0)) && decide ((pairB x0) < ((elemsD x1).length : Int))) then
            bif ((((intD (fieldD ((elemsD x1).getD (pairA x0).toNat .nil) 0)) == (intD (fieldD ((elemsD x1).getD (pairB x0).toNat .nil) 0))) && (((intD (fieldD ((elemsD x1).getD (pairA x0).toNat .nil) 1)) == (intD (fieldD ((elemsD x1).getD (pairB x0).toNat .nil) 1))) && true)) == true) then
              bif (decide (0 ≤ (pairA x0)) && decide ((pairA x0) < ((elemsD x1).length : Int))) then
                bif (((keepsE x0 b10 (elemsD x1)) == (mayB ((elemsD x1).getD (pairA x0).toNat .nil))) == true) then
                  some (dat 4 (.lit (.bool (((colsE x0).length : Int) == 2))))
                else some (dat 4 (.lit (.bool false)))
              else none
            else bif (((keepsE x0 b10 (elemsD x1)) == false) == true) then
                some (dat 4 (.lit (.bool (((colsE x0).length : Int) == 2))))
              else some (dat 4 (.lit (.bool false)))
          else none
        else none
      else bif (((keepsE x0 b10 (elemsD x1)) == false) == true) then
          some (dat 4 (.lit (.bool (((colsE x0).length : Int) == 2))))
        else some (dat 4 (.lit (.bool false)))
    else none := by kernel_rfl
theorem t6 (N : Nat) (x0 : D) (x1 : D) : evFn Try.prog (envH UP []) t6_h N Try.f6 [dat 26 x0, dat 28 x1] =
  bif (decide (0 ≤ 200) && decide (200 ≤ 1000)) then
    bif ((!(fewB x0 200)) == false) then
      bif (((elemsD x1).length : Int) != 16) then
        some (dat 4 (.lit (.bool true)))
      else bif ((!(pairE x0)) == false) then
          bif ((decide ((pairA x0) < 0)) == false) then
            bif ((decide ((pairB x0) < 0)) == false) then
              bif ((decide ((pairA x0) > 15)) == false) then
                bif ((decide ((pairB x0) > 15)) == false) then
                  bif ((pairA x0) == (pairB x0)) then
                    bif ((!(pairE x0)) == true) then
                      bif (((pairA x0) == 0) == true) then
                        some (dat 4 (.lit (.bool ((pairB x0) == 0))))
                      else some (dat 4 (.lit (.bool false)))
                    else some (dat 4 (.lit (.bool false)))
                  else t6_lp10 Try.prog Try.f6 N N x0 x1 0 []
                else bif ((!(pairE x0)) == true) then
                    bif (((pairA x0) == 0) == true) then
                      some (dat 4 (.lit (.bool ((pairB x0) == 0))))
                    else some (dat 4 (.lit (.bool false)))
                  else some (dat 4 (.lit (.bool false)))
              else bif ((!(pairE x0)) == true) then
                  bif (((pairA x0) == 0) == true) then
                    some (dat 4 (.lit (.bool ((pairB x0) == 0))))
                  else some (dat 4 (.lit (.bool false)))
                else some (dat 4 (.lit (.bool false)))
            else bif ((!(pairE x0)) == true) then
                bif (((pairA x0) == 0) == true) then
                  some (dat 4 (.lit (.bool ((pairB x0) == 0))))
                else some (dat 4 (.lit (.bool false)))
              else some (dat 4 (.lit (.bool false)))
          else bif ((!(pairE x0)) == true) then
              bif (((pairA x0) == 0) == true) then
                some (dat 4 (.lit (.bool ((pairB x0) == 0))))
              else some (dat 4 (.lit (.bool false)))
            else some (dat 4 (.lit (.bool false)))
        else bif ((!(pairE x0)) == true) then
            bif (((pairA x0) == 0) == true) then
              some (dat 4 (.lit (.bool ((pairB x0) == 0))))
            else some (dat 4 (.lit (.bool false)))
          else some (dat 4 (.lit (.bool false)))
    else some (dat 4 (.lit (.bool true)))
  else none := by kernel_rfl

end Go.Proofs.Ytochjfimogijjaa
