/- What the evaluator comes to, function by function: by the kernel. Nothing here is trusted. -/
import Derived.Test.YtochjfimogijjaaWPA
namespace Go.Proofs.Ytochjfimogijjaa
open Go.Ev
set_option linter.unusedVariables false
/- roadbook/roadbooklaw02.ExprPart -/
def t7_h : Hints := fun i => if i = 6 then some ([0, 3, 4, 5, 6, 8, 9, 10, 11, 12, 13, 14, 15, 16, 17, 18, 19, 20, 21, 22, 23, 24, 25, 26, 27, 28, 29, 30, 31, 32, 33, 34, 35, 36, 37, 38, 39, 40, 41, 42, 43, 44, 45, 46, 47, 48, 49, 50, 51, 52, 53, 54, 55, 56, 57, 58, 59, 60, 61, 62, 63, 64, 65, 66, 67, 68, 69, 70, 71, 72, 73, 74, 75, 76, 77, 78, 79, 80, 81, 82, 83, 84, 85, 86, 87, 88, 89], [2], []) else if i = 12 then some ([0, 3, 4, 5, 6, 7, 10, 11, 12, 13, 14, 15, 16, 17, 18, 19, 20, 21, 22, 23, 24, 25, 26, 27, 28, 29, 30, 31, 32, 33, 34, 35, 36, 37, 38, 39, 40, 41, 42, 43, 44, 45, 46, 47, 48, 49, 50, 51, 52, 53, 54, 55, 56, 57, 58, 59, 60, 61, 62, 63, 64, 65, 66, 67, 68, 69, 70, 71, 72, 73, 74, 75, 76, 77, 78, 79, 80, 81, 82, 83, 84, 85, 86, 87, 88, 89], [2, 8], []) else none
def t7_lp6 (P : Program) (fn : Func) (N n : Nat) (x0 : D) (x1 : D) (v7 : Int) : Option AV := evLoop (preL t7_h (sub [1, 1, 1, 1, 0, 1, 0, 0] (bodyOf fn))) (evCode P (envH U9 []) t7_h N (sub [1, 1, 1, 1, 0, 1, 0, 0] (bodyOf fn))) n ⟨[dead, dat 28 x1, bxp 2 26, dead, dead, dead, dead, dat 3 (.lit (.int .i64 v7)), dead, dead, dead, dead, dead, dead, dead, dead, dead, dead, dead, dead, dead, dead, dead, dead, dead, dead, dead, dead, dead, dead, dead, dead, dead, dead, dead, dead, dead, dead, dead, dead, dead, dead, dead, dead, dead, dead, dead, dead, dead, dead, dead, dead, dead, dead, dead, dead, dead, dead, dead, dead, dead, dead, dead, dead, dead, dead, dead, dead, dead, dead, dead, dead, dead, dead, dead, dead, dead, dead, dead, dead, dead, dead, dead, dead, dead, dead, dead, dead, dead, dead], lookB [(2, some ⟨26, x0, 0, none⟩)]⟩ (blockK 0 (seqC P (envH U9 []) t7_h N (sub [1, 1, 1, 1, 1] (bodyOf fn)) (finK P fn) ))
def t7_lp12 (P : Program) (fn : Func) (N n : Nat) (x0 : D) (x1 : D) (v7 : Int) (m0 : Nat) (v9 : Int) (b8 : List D) : Option AV := evLoop (preL t7_h (sub [1, 1, 1, 1, 1, 1, 0, 1, 0, 0] (bodyOf fn))) (evCode P (envH U9 []) t7_h N (sub [1, 1, 1, 1, 1, 1, 0, 1, 0, 0] (bodyOf fn))) n ⟨[dead, dat 28 x1, bxp 2 26, dead, dead, dead, dead, dead, bxp 8 27, dat 3 (.lit (.int .i64 v9)), dead, dead, dead, dead, dead, dead, dead, dead, dead, dead, dead, dead, dead, dead, dead, dead, dead, dead, dead, dead, dead, dead, dead, dead, dead, dead, dead, dead, dead, dead, dead, dead, dead, dead, dead, dead, dead, dead, dead, dead, dead, dead, dead, dead, dead, dead, dead, dead, dead, dead, dead, dead, dead, dead, dead, dead, dead, dead, dead, dead, dead, dead, dead, dead, dead, dead, dead, dead, dead, dead, dead, dead, dead, dead, dead, dead, dead, dead, dead, dead], lookB [(2, some ⟨26, x0, 0, none⟩), (8, some ⟨27, .slice b8 [], 1, none⟩)]⟩ (blockK 2 (seqC P (envH U9 []) t7_h N (sub [1, 1, 1, 1, 1, 1, 1] (bodyOf fn)) (finK P fn) ))
theorem t7_lp12_step  (N n : Nat) (x0 : D) (x1 : D) (v7 : Int) (m0 : Nat) (v9 : Int) (b8 : List D) : t7_lp12 Try.prog Try.f7 N (n + 1) x0 x1 v7 m0 v9 b8 =
  bif decide (v9 < ((elemsD x1).length : Int)) then
    bif decide ((b8).length + 1 ≤ 2147483648) then
      t7_lp12 Try.prog Try.f7 N n x0 x1 v7 m0 (IntKind.wrap .i64 (v9 + 1)) (b8 ++ [.lit (.int .i64 v9)])
    else none
  else bif (!(mayE (.agg [.lit (.int .i64 10), .lit (.int .i64 0), .agg [.lit (.int .i64 0), .lit (.int .i64 0)], .slice [x0] []]))) then
      some (dat 4 (.lit (.bool true)))
    else bif ((mayB (evalE x0 b8 (elemsD x1))) == true) then
        bif (((intD (fieldD (evalE x0 b8 (elemsD x1)) 0)) == 0) == true) then
          bif (((keepsE (.agg [.lit (.int .i64 10), .lit (.int .i64 0), .agg [.lit (.int .i64 0), .lit (.int .i64 0)], .slice [x0] []]) b8 (elemsD x1)) == ((intD (fieldD (evalE x0 b8 (elemsD x1)) 1)) == 0)) == true) then
            some (dat 4 (.lit (.bool (intsB (colsE (.agg [.lit (.int .i64 10), .lit (.int .i64 0), .agg [.lit (.int .i64 0), .lit (.int .i64 0)], .slice [x0] []])) (colsE x0)))))
          else some (dat 4 (.lit (.bool false)))
        else bif (((keepsE (.agg [.lit (.int .i64 10), .lit (.int .i64 0), .agg [.lit (.int .i64 0), .lit (.int .i64 0)], .slice [x0] []]) b8 (elemsD x1)) == false) == true) then
            some (dat 4 (.lit (.bool (intsB (colsE (.agg [.lit (.int .i64 10), .lit (.int .i64 0), .agg [.lit (.int .i64 0), .lit (.int .i64 0)], .slice [x0] []])) (colsE x0)))))
          else some (dat 4 (.lit (.bool false)))
      else bif (((keepsE (.agg [.lit (.int .i64 10), .lit (.int .i64 0), .agg [.lit (.int .i64 0), .lit (.int .i64 0)], .slice [x0] []]) b8 (elemsD x1)) == false) == true) then
          some (dat 4 (.lit (.bool (intsB (colsE (.agg [.lit (.int .i64 10), .lit (.int .i64 0), .agg [.lit (.int .i64 0), .lit (.int .i64 0)], .slice [x0] []])) (colsE x0)))))
        else some (dat 4 (.lit (.bool false))) := by kernel_rfl
theorem t7_lp6_step  (N n : Nat) (x0 : D) (x1 : D) (v7 : Int) : t7_lp6 Try.prog Try.f7 N (n + 1) x0 x1 v7 =
  bif decide (v7 < ((elemsD (fieldD x0 3)).length : Int)) then
    bif (decide (0 ≤ v7) && decide (v7 < ((elemsD (fieldD x0 3)).length : Int))) then
      bif (!(mayE ((elemsD (fieldD x0 3)).getD (v7).toNat .nil))) then
        some (dat 4 (.lit (.bool false)))
      else t7_lp6 Try.prog Try.f7 N n x0 x1 (IntKind.wrap .i64 (v7 + 1))
    else none
  else t7_lp12 Try.prog Try.f7 N N x0 x1 v7 n 0 [] := by kernel_rfl
theorem t7 (N : Nat) (x0 : D) (x1 : D) : evFn Try.prog (envH U9 []) t7_h N Try.f7 [dat 26 x0, dat 28 x1] =
  bif (decide (0 ≤ 29) && decide (29 ≤ 1000)) then
    bif ((!(fewB x0 29)) == false) then
      bif ((decide (((elemsD x1).length : Int) > 16)) == false) then
        bif (!(mayE x0)) then
          some (dat 4 (.lit (.bool true)))
        else t7_lp6 Try.prog Try.f7 N N x0 x1 0
      else some (dat 4 (.lit (.bool true)))
    else some (dat 4 (.lit (.bool true)))
  else none := by kernel_rfl

end Go.Proofs.Ytochjfimogijjaa
