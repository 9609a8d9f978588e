/- What the evaluator comes to, function by function: by the kernel. Nothing here is trusted. -/
import Derived.Test.YtochjfimogijjaaWPA
namespace Go.Proofs.Ytochjfimogijjaa
open Go.Ev
set_option linter.unusedVariables false
/- roadbook/roadbooklaw02.ExprBoth -/
def t5_h : Hints := fun i => if i = 9 then some ([0, 1, 5, 6, 7, 8, 9, 13, 14, 15, 16, 17, 18, 19, 20, 21, 22, 23, 24, 25, 26, 27, 28, 29, 30, 31, 32, 33, 34, 35, 36, 37, 38, 39, 40, 41, 42, 43, 44, 45, 46, 47, 48, 49, 50, 51, 52, 53, 54, 55, 56, 57, 58, 59, 60, 61, 62, 63, 64, 65, 66, 67, 68, 69, 70, 71, 72, 73, 74, 75, 76, 77, 78, 79, 80, 81, 82, 83, 84, 85, 86, 87, 88, 89, 90, 91, 92, 93, 94, 95, 96, 97, 98, 99, 100, 101, 102, 103, 104, 105, 106, 107, 108, 109, 110, 111, 112, 113, 114, 115, 116, 117, 118, 119, 120, 121, 122, 123, 124, 125, 126, 127, 128, 129, 130, 131, 132, 133, 134, 135, 136, 137, 138, 139, 140, 141, 142], [3, 4, 10, 11], []) else if i = 17 then some ([0, 1, 5, 6, 7, 8, 9, 10, 12, 18, 19, 20, 21, 22, 23, 24, 25, 26, 27, 28, 29, 30, 31, 32, 33, 34, 35, 36, 37, 38, 39, 40, 41, 42, 43, 44, 45, 46, 47, 48, 49, 50, 51, 52, 53, 54, 55, 56, 57, 58, 59, 60, 61, 62, 63, 64, 65, 66, 67, 68, 69, 70, 71, 72, 73, 74, 75, 76, 77, 78, 79, 80, 81, 82, 83, 84, 85, 86, 87, 88, 89, 90, 91, 92, 93, 94, 95, 96, 97, 98, 99, 100, 101, 102, 103, 104, 105, 106, 107, 108, 109, 110, 111, 112, 113, 114, 115, 116, 117, 118, 119, 120, 121, 122, 123, 124, 125, 126, 127, 128, 129, 130, 131, 132, 133, 134, 135, 136, 137, 138, 139, 140, 141, 142], [3, 4], []) else none
def t5_lp9 (P : Program) (fn : Func) (N n : Nat) (x0 : D) (x1 : D) (x2 : D) (v12 : Int) (b11 : List D) : Option AV := evLoop (preL t5_h (sub [1, 1, 1, 1, 1, 1, 1, 0, 1, 0, 0] (bodyOf fn))) (evCode P (envH U9 []) t5_h N (sub [1, 1, 1, 1, 1, 1, 1, 0, 1, 0, 0] (bodyOf fn))) n ⟨[dead, dead, dat 28 x2, bxp 3 26, bxp 4 26, dead, dead, dead, dead, dead, bxp 10 26, bxp 11 27, dat 3 (.lit (.int .i64 v12)), dead, dead, dead, dead, dead, dead, dead, dead, dead, dead, dead, dead, dead, dead, dead, dead, dead, dead, dead, dead, dead, dead, dead, dead, dead, dead, dead, dead, dead, dead, dead, dead, dead, dead, dead, dead, dead, dead, dead, dead, dead, dead, dead, dead, dead, dead, dead, dead, dead, dead, dead, dead, dead, dead, dead, dead, dead, dead, dead, dead, dead, dead, dead, dead, dead, dead, dead, dead, dead, dead, dead, dead, dead, dead, dead, dead, dead, dead, dead, dead, dead, dead, dead, dead, dead, dead, dead, dead, dead, dead, dead, dead, dead, dead, dead, dead, dead, dead, dead, dead, dead, dead, dead, dead, dead, dead, dead, dead, dead, dead, dead, dead, dead, dead, dead, dead, dead, dead, dead, dead, dead, dead, dead, dead, dead, dead, dead, dead, dead, dead], lookB [(3, some ⟨26, x0, 0, none⟩), (4, some ⟨26, x1, 0, none⟩), (10, some ⟨26, .agg [.lit (.int .i64 8), .lit (.int .i64 0), .agg [.lit (.int .i64 0), .lit (.int .i64 0)], .slice [x0, x1] []], 0, none⟩), (11, some ⟨27, .slice b11 [], 1, none⟩)]⟩ (blockK 0 (seqC P (envH U9 []) t5_h N (sub [1, 1, 1, 1, 1, 1, 1, 1] (bodyOf fn)) (finK P fn) ))
def t5_lp17 (P : Program) (fn : Func) (N n : Nat) (x0 : D) (x1 : D) (x2 : D) (v12 : Int) (b11 : List D) (m0 : Nat) (v17 : Int) : Option AV := evLoop (preL t5_h (sub [1, 1, 1, 1, 1, 1, 1, 1, 1, 1, 1, 1, 0, 1, 0, 0] (bodyOf fn))) (evCode P (envH U9 []) t5_h N (sub [1, 1, 1, 1, 1, 1, 1, 1, 1, 1, 1, 1, 0, 1, 0, 0] (bodyOf fn))) n ⟨[dead, dead, dat 28 x2, bxp 3 26, bxp 4 26, dead, dead, dead, dead, dead, dead, dat 27 (.slice b11 []), dead, dat 4 (.lit (.bool (keepsE x1 b11 (elemsD x2)))), dat 4 (.lit (.bool (keepsE (.agg [.lit (.int .i64 8), .lit (.int .i64 0), .agg [.lit (.int .i64 0), .lit (.int .i64 0)], .slice [x0, x1] []]) b11 (elemsD x2)))), dat 4 (.lit (.bool (keepsE (.agg [.lit (.int .i64 9), .lit (.int .i64 0), .agg [.lit (.int .i64 0), .lit (.int .i64 0)], .slice [x0, x1] []]) b11 (elemsD x2)))), dat 27 (.slice (colsE (.agg [.lit (.int .i64 8), .lit (.int .i64 0), .agg [.lit (.int .i64 0), .lit (.int .i64 0)], .slice [x0, x1] []])) []), dat 3 (.lit (.int .i64 v17)), dead, dead, dead, dead, dead, dead, dead, dead, dead, dead, dead, dead, dead, dead, dead, dead, dead, dead, dead, dead, dead, dead, dead, dead, dead, dead, dead, dead, dead, dead, dead, dead, dead, dead, dead, dead, dead, dead, dead, dead, dead, dead, dead, dead, dead, dead, dead, dead, dead, dead, dead, dead, dead, dead, dead, dead, dead, dead, dead, dead, dead, dead, dead, dead, dead, dead, dead, dead, dead, dead, dead, dead, dead, dead, dead, dead, dead, dead, dead, dead, dead, dead, dead, dead, dead, dead, dead, dead, dead, dead, dead, dead, dead, dead, dead, dead, dead, dead, dead, dead, dead, dead, dead, dead, dead, dead, dead, dead, dead, dead, dead, dead, dead, dead, dead, dead, dead, dead, dead, dead, dead, dead, dead, dead, dead], lookB [(3, some ⟨26, x0, 0, none⟩), (4, some ⟨26, x1, 0, none⟩)]⟩ (blockK 2 (seqC P (envH U9 []) t5_h N (sub [1, 1, 1, 1, 1, 1, 1, 1, 1, 1, 1, 1, 1] (bodyOf fn)) (finK P fn) ))
theorem t5_lp17_step  (N n : Nat) (x0 : D) (x1 : D) (x2 : D) (v12 : Int) (b11 : List D) (m0 : Nat) (v17 : Int) : t5_lp17 Try.prog Try.f5 N (n + 1) x0 x1 x2 v12 b11 m0 v17 =
  bif decide (v17 < ((colsE (.agg [.lit (.int .i64 8), .lit (.int .i64 0), .agg [.lit (.int .i64 0), .lit (.int .i64 0)], .slice [x0, x1] []])).length : Int)) then
    bif (decide (0 ≤ v17) && decide (v17 < ((colsE (.agg [.lit (.int .i64 8), .lit (.int .i64 0), .agg [.lit (.int .i64 0), .lit (.int .i64 0)], .slice [x0, x1] []])).length : Int))) then
      bif okK 7 x0 then
        bif (decide (0 ≤ v17) && decide (v17 < ((colsE (.agg [.lit (.int .i64 8), .lit (.int .i64 0), .agg [.lit (.int .i64 0), .lit (.int .i64 0)], .slice [x0, x1] []])).length : Int))) then
          bif okK 7 x1 then
            bif ((!(hasK 7 x0 (intD ((colsE (.agg [.lit (.int .i64 8), .lit (.int .i64 0), .agg [.lit (.int .i64 0), .lit (.int .i64 0)], .slice [x0, x1] []])).getD (v17).toNat .nil)))) == true) then
              bif (!(hasK 7 x1 (intD ((colsE (.agg [.lit (.int .i64 8), .lit (.int .i64 0), .agg [.lit (.int .i64 0), .lit (.int .i64 0)], .slice [x0, x1] []])).getD (v17).toNat .nil)))) then
                some (dat 4 (.lit (.bool false)))
              else t5_lp17 Try.prog Try.f5 N n x0 x1 x2 v12 b11 m0 (IntKind.wrap .i64 (v17 + 1))
            else t5_lp17 Try.prog Try.f5 N n x0 x1 x2 v12 b11 m0 (IntKind.wrap .i64 (v17 + 1))
          else none
        else none
      else none
    else none
  else bif (((keepsE (.agg [.lit (.int .i64 8), .lit (.int .i64 0), .agg [.lit (.int .i64 0), .lit (.int .i64 0)], .slice [x0, x1] []]) b11 (elemsD x2)) == (keepsE x1 b11 (elemsD x2))) == true) then
      bif ((!(keepsE x1 b11 (elemsD x2))) == false) then
        bif ((keepsE (.agg [.lit (.int .i64 9), .lit (.int .i64 0), .agg [.lit (.int .i64 0), .lit (.int .i64 0)], .slice [x0, x1] []]) b11 (elemsD x2)) == true) then
          bif ((keepsE x0 b11 (elemsD x2)) == false) then
            bif (((keepsE (.agg [.lit (.int .i64 9), .lit (.int .i64 0), .agg [.lit (.int .i64 0), .lit (.int .i64 0)], .slice [x0, x1] []]) b11 (elemsD x2)) == (keepsE x1 b11 (elemsD x2))) == true) then
              some (dat 4 (.lit (.bool (decide (((colsE (.agg [.lit (.int .i64 8), .lit (.int .i64 0), .agg [.lit (.int .i64 0), .lit (.int .i64 0)], .slice [x0, x1] []])).length : Int) ≤ (IntKind.wrap .i64 (((colsE x0).length : Int) + ((colsE x1).length : Int))))))))
            else some (dat 4 (.lit (.bool false)))
          else bif (((keepsE (.agg [.lit (.int .i64 9), .lit (.int .i64 0), .agg [.lit (.int .i64 0), .lit (.int .i64 0)], .slice [x0, x1] []]) b11 (elemsD x2)) == true) == true) then
              some (dat 4 (.lit (.bool (decide (((colsE (.agg [.lit (.int .i64 8), .lit (.int .i64 0), .agg [.lit (.int .i64 0), .lit (.int .i64 0)], .slice [x0, x1] []])).length : Int) ≤ (IntKind.wrap .i64 (((colsE x0).length : Int) + ((colsE x1).length : Int))))))))
            else some (dat 4 (.lit (.bool false)))
        else some (dat 4 (.lit (.bool false)))
      else bif ((keepsE x0 b11 (elemsD x2)) == false) then
          bif (((keepsE (.agg [.lit (.int .i64 9), .lit (.int .i64 0), .agg [.lit (.int .i64 0), .lit (.int .i64 0)], .slice [x0, x1] []]) b11 (elemsD x2)) == (keepsE x1 b11 (elemsD x2))) == true) then
            some (dat 4 (.lit (.bool (decide (((colsE (.agg [.lit (.int .i64 8), .lit (.int .i64 0), .agg [.lit (.int .i64 0), .lit (.int .i64 0)], .slice [x0, x1] []])).length : Int) ≤ (IntKind.wrap .i64 (((colsE x0).length : Int) + ((colsE x1).length : Int))))))))
          else some (dat 4 (.lit (.bool false)))
        else bif (((keepsE (.agg [.lit (.int .i64 9), .lit (.int .i64 0), .agg [.lit (.int .i64 0), .lit (.int .i64 0)], .slice [x0, x1] []]) b11 (elemsD x2)) == true) == true) then
            some (dat 4 (.lit (.bool (decide (((colsE (.agg [.lit (.int .i64 8), .lit (.int .i64 0), .agg [.lit (.int .i64 0), .lit (.int .i64 0)], .slice [x0, x1] []])).length : Int) ≤ (IntKind.wrap .i64 (((colsE x0).length : Int) + ((colsE x1).length : Int))))))))
          else some (dat 4 (.lit (.bool false)))
    else some (dat 4 (.lit (.bool false))) := by kernel_rfl
def t5_lp17b (P : Program) (fn : Func) (N n : Nat) (x0 : D) (x1 : D) (x2 : D) (v12 : Int) (b11 : List D) (m0 : Nat) (v17 : Int) : Option AV := evLoop (preL t5_h (sub [1, 1, 1, 1, 1, 1, 1, 1, 1, 1, 1, 1, 0, 1, 0, 0] (bodyOf fn))) (evCode P (envH U9 []) t5_h N (sub [1, 1, 1, 1, 1, 1, 1, 1, 1, 1, 1, 1, 0, 1, 0, 0] (bodyOf fn))) n ⟨[dead, dead, dat 28 x2, bxp 3 26, bxp 4 26, dead, dead, dead, dead, dead, dead, dat 27 (.slice b11 []), dead, dat 4 (.lit (.bool false)), dat 4 (.lit (.bool (keepsE (.agg [.lit (.int .i64 8), .lit (.int .i64 0), .agg [.lit (.int .i64 0), .lit (.int .i64 0)], .slice [x0, x1] []]) b11 (elemsD x2)))), dat 4 (.lit (.bool (keepsE (.agg [.lit (.int .i64 9), .lit (.int .i64 0), .agg [.lit (.int .i64 0), .lit (.int .i64 0)], .slice [x0, x1] []]) b11 (elemsD x2)))), dat 27 (.slice (colsE (.agg [.lit (.int .i64 8), .lit (.int .i64 0), .agg [.lit (.int .i64 0), .lit (.int .i64 0)], .slice [x0, x1] []])) []), dat 3 (.lit (.int .i64 v17)), dead, dead, dead, dead, dead, dead, dead, dead, dead, dead, dead, dead, dead, dead, dead, dead, dead, dead, dead, dead, dead, dead, dead, dead, dead, dead, dead, dead, dead, dead, dead, dead, dead, dead, dead, dead, dead, dead, dead, dead, dead, dead, dead, dead, dead, dead, dead, dead, dead, dead, dead, dead, dead, dead, dead, dead, dead, dead, dead, dead, dead, dead, dead, dead, dead, dead, dead, dead, dead, dead, dead, dead, dead, dead, dead, dead, dead, dead, dead, dead, dead, dead, dead, dead, dead, dead, dead, dead, dead, dead, dead, dead, dead, dead, dead, dead, dead, dead, dead, dead, dead, dead, dead, dead, dead, dead, dead, dead, dead, dead, dead, dead, dead, dead, dead, dead, dead, dead, dead, dead, dead, dead, dead, dead, dead], lookB [(3, some ⟨26, x0, 0, none⟩), (4, some ⟨26, x1, 0, none⟩)]⟩ (blockK 2 (seqC P (envH U9 []) t5_h N (sub [1, 1, 1, 1, 1, 1, 1, 1, 1, 1, 1, 1, 1] (bodyOf fn)) (finK P fn) ))
theorem t5_lp17b_step  (N n : Nat) (x0 : D) (x1 : D) (x2 : D) (v12 : Int) (b11 : List D) (m0 : Nat) (v17 : Int) : t5_lp17b Try.prog Try.f5 N (n + 1) x0 x1 x2 v12 b11 m0 v17 =
  bif decide (v17 < ((colsE (.agg [.lit (.int .i64 8), .lit (.int .i64 0), .agg [.lit (.int .i64 0), .lit (.int .i64 0)], .slice [x0, x1] []])).length : Int)) then
    bif (decide (0 ≤ v17) && decide (v17 < ((colsE (.agg [.lit (.int .i64 8), .lit (.int .i64 0), .agg [.lit (.int .i64 0), .lit (.int .i64 0)], .slice [x0, x1] []])).length : Int))) then
      bif okK 7 x0 then
        bif (decide (0 ≤ v17) && decide (v17 < ((colsE (.agg [.lit (.int .i64 8), .lit (.int .i64 0), .agg [.lit (.int .i64 0), .lit (.int .i64 0)], .slice [x0, x1] []])).length : Int))) then
          bif okK 7 x1 then
            bif ((!(hasK 7 x0 (intD ((colsE (.agg [.lit (.int .i64 8), .lit (.int .i64 0), .agg [.lit (.int .i64 0), .lit (.int .i64 0)], .slice [x0, x1] []])).getD (v17).toNat .nil)))) == true) then
              bif (!(hasK 7 x1 (intD ((colsE (.agg [.lit (.int .i64 8), .lit (.int .i64 0), .agg [.lit (.int .i64 0), .lit (.int .i64 0)], .slice [x0, x1] []])).getD (v17).toNat .nil)))) then
                some (dat 4 (.lit (.bool false)))
              else t5_lp17b Try.prog Try.f5 N n x0 x1 x2 v12 b11 m0 (IntKind.wrap .i64 (v17 + 1))
            else t5_lp17b Try.prog Try.f5 N n x0 x1 x2 v12 b11 m0 (IntKind.wrap .i64 (v17 + 1))
          else none
        else none
      else none
    else none
  else bif (((keepsE (.agg [.lit (.int .i64 8), .lit (.int .i64 0), .agg [.lit (.int .i64 0), .lit (.int .i64 0)], .slice [x0, x1] []]) b11 (elemsD x2)) == false) == true) then
      bif ((keepsE x0 b11 (elemsD x2)) == false) then
        bif (((keepsE (.agg [.lit (.int .i64 9), .lit (.int .i64 0), .agg [.lit (.int .i64 0), .lit (.int .i64 0)], .slice [x0, x1] []]) b11 (elemsD x2)) == (keepsE x1 b11 (elemsD x2))) == true) then
          some (dat 4 (.lit (.bool (decide (((colsE (.agg [.lit (.int .i64 8), .lit (.int .i64 0), .agg [.lit (.int .i64 0), .lit (.int .i64 0)], .slice [x0, x1] []])).length : Int) ≤ (IntKind.wrap .i64 (((colsE x0).length : Int) + ((colsE x1).length : Int))))))))
        else some (dat 4 (.lit (.bool false)))
      else bif (((keepsE (.agg [.lit (.int .i64 9), .lit (.int .i64 0), .agg [.lit (.int .i64 0), .lit (.int .i64 0)], .slice [x0, x1] []]) b11 (elemsD x2)) == true) == true) then
          some (dat 4 (.lit (.bool (decide (((colsE (.agg [.lit (.int .i64 8), .lit (.int .i64 0), .agg [.lit (.int .i64 0), .lit (.int .i64 0)], .slice [x0, x1] []])).length : Int) ≤ (IntKind.wrap .i64 (((colsE x0).length : Int) + ((colsE x1).length : Int))))))))
        else some (dat 4 (.lit (.bool false)))
    else some (dat 4 (.lit (.bool false))) := by kernel_rfl
theorem t5_lp9_step  (N n : Nat) (x0 : D) (x1 : D) (x2 : D) (v12 : Int) (b11 : List D) : t5_lp9 Try.prog Try.f5 N (n + 1) x0 x1 x2 v12 b11 =
  bif decide (v12 < ((elemsD x2).length : Int)) then
    bif decide ((b11).length + 1 ≤ 2147483648) then
      t5_lp9 Try.prog Try.f5 N n x0 x1 x2 (IntKind.wrap .i64 (v12 + 1)) (b11 ++ [.lit (.int .i64 v12)])
    else none
  else bif ((keepsE x0 b11 (elemsD x2)) == true) then
      t5_lp17 Try.prog Try.f5 N N x0 x1 x2 v12 b11 n 0
    else t5_lp17b Try.prog Try.f5 N N x0 x1 x2 v12 b11 n 0 := by kernel_rfl
theorem t5 (N : Nat) (x0 : D) (x1 : D) (x2 : D) : evFn Try.prog (envH U9 []) t5_h N Try.f5 [dat 26 x0, dat 26 x1, dat 28 x2] =
  bif (decide (0 ≤ 12) && decide (12 ≤ 1000)) then
    bif (decide (0 ≤ 12) && decide (12 ≤ 1000)) then
      bif ((!(fewB x0 12)) == false) then
        bif ((!(fewB x1 12)) == false) then
          bif ((decide (((elemsD x2).length : Int) > 16)) == false) then
            bif (!(mayE (.agg [.lit (.int .i64 8), .lit (.int .i64 0), .agg [.lit (.int .i64 0), .lit (.int .i64 0)], .slice [x0, x1] []]))) then
              some (dat 4 (.lit (.bool true)))
            else t5_lp9 Try.prog Try.f5 N N x0 x1 x2 0 []
          else some (dat 4 (.lit (.bool true)))
        else some (dat 4 (.lit (.bool true)))
      else some (dat 4 (.lit (.bool true)))
    else none
  else none := by kernel_rfl

end Go.Proofs.Ytochjfimogijjaa
