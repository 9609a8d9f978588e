/- What the evaluator comes to, function by function: by the kernel. Nothing here is trusted. -/
import Derived.Test.YtochjfimogijjaaWPA
namespace Go.Proofs.Ytochjfimogijjaa
open Go.Ev
set_option linter.unusedVariables false
/- roadbook/roadbooklaw02.ExprOwn -/
def t4_h : Hints := fun i => if i = 11 then some ([0, 4, 5, 6, 7, 8, 15, 16, 17, 18, 19, 20, 21, 22, 23, 24, 25, 26, 27, 28, 29, 30, 31, 32, 33, 34, 35, 36, 37, 38, 39, 40, 41, 42, 43, 44, 45, 46, 47, 48, 49, 50, 51, 52, 53, 54, 55, 56, 57, 58, 59, 60, 61, 62, 63, 64, 65, 66, 67, 68, 69, 70, 71, 72, 73, 74, 75, 76, 77, 78, 79, 80, 81, 82, 83, 84, 85, 86, 87, 88, 89, 90, 91, 92, 93, 94, 95, 96, 97, 98, 99, 100], [3, 10, 12], [11, 13]) else if i = 15 then some ([0, 4, 5, 6, 7, 8, 17, 18, 19, 20, 21, 22, 23, 24, 25, 26, 27, 28, 29, 30, 31, 32, 33, 34, 35, 36, 37, 38, 39, 40, 41, 42, 43, 44, 45, 46, 47, 48, 49, 50, 51, 52, 53, 54, 55, 56, 57, 58, 59, 60, 61, 62, 63, 64, 65, 66, 67, 68, 69, 70, 71, 72, 73, 74, 75, 76, 77, 78, 79, 80, 81, 82, 83, 84, 85, 86, 87, 88, 89, 90, 91, 92, 93, 94, 95, 96, 97, 98, 99, 100], [3, 10, 12], []) else none
def t4_lp11 (P : Program) (fn : Func) (N n : Nat) (x0 : D) (x1 : D) (x2 : D) (v11 : List D) (v13 : List D) (v14 : Int) (b10 : List D) (b12 : List D) : Option AV := evLoop (preL t4_h (sub [1, 1, 1, 1, 1, 1, 1, 1, 1, 0, 1, 0, 0] (bodyOf fn))) (evCode P (envH U9 []) t4_h N (sub [1, 1, 1, 1, 1, 1, 1, 1, 1, 0, 1, 0, 0] (bodyOf fn))) n ⟨[dead, dat 28 x1, dat 28 x2, bxp 3 26, dead, dead, dead, dead, dead, dat 27 (.slice (colsE x0) []), bxp 10 27, dat 27 (.slice v11 []), bxp 12 28, dat 28 (.slice v13 []), dat 3 (.lit (.int .i64 v14)), dead, dead, dead, dead, dead, dead, dead, dead, dead, dead, dead, dead, dead, dead, dead, dead, dead, dead, dead, dead, dead, dead, dead, dead, dead, dead, dead, dead, dead, dead, dead, dead, dead, dead, dead, dead, dead, dead, dead, dead, dead, dead, dead, dead, dead, dead, dead, dead, dead, dead, dead, dead, dead, dead, dead, dead, dead, dead, dead, dead, dead, dead, dead, dead, dead, dead, dead, dead, dead, dead, dead, dead, dead, dead, dead, dead, dead, dead, dead, dead, dead, dead, dead, dead, dead, dead], lookB [(3, some ⟨26, x0, 0, none⟩), (10, some ⟨27, .slice b10 [], 1, none⟩), (12, some ⟨28, .slice b12 [], 1, none⟩)]⟩ (blockK 0 (seqC P (envH U9 []) t4_h N (sub [1, 1, 1, 1, 1, 1, 1, 1, 1, 1] (bodyOf fn)) (finK P fn) ))
def t4_lp15 (P : Program) (fn : Func) (N n : Nat) (x0 : D) (x1 : D) (x2 : D) (v11 : List D) (v13 : List D) (v14 : Int) (b10 : List D) (b12 : List D) (m0 : Nat) (v15 : Bool) (v16 : Int) : Option AV := evLoop (preL t4_h (sub [1, 1, 1, 1, 1, 1, 1, 1, 1, 0, 1, 0, 0, 1, 0, 0, 1, 0, 1, 0, 0] (bodyOf fn))) (evCode P (envH U9 []) t4_h N (sub [1, 1, 1, 1, 1, 1, 1, 1, 1, 0, 1, 0, 0, 1, 0, 0, 1, 0, 1, 0, 0] (bodyOf fn))) n ⟨[dead, dat 28 x1, dat 28 x2, bxp 3 26, dead, dead, dead, dead, dead, dat 27 (.slice (colsE x0) []), bxp 10 27, dat 27 (.slice v11 []), bxp 12 28, dat 28 (.slice v13 []), dat 3 (.lit (.int .i64 v14)), dat 4 (.lit (.bool v15)), dat 3 (.lit (.int .i64 v16)), dead, dead, dead, dead, dead, dead, dead, dead, dead, dead, dead, dead, dead, dead, dead, dead, dead, dead, dead, dead, dead, dead, dead, dead, dead, dead, dead, dead, dead, dead, dead, dead, dead, dead, dead, dead, dead, dead, dead, dead, dead, dead, dead, dead, dead, dead, dead, dead, dead, dead, dead, dead, dead, dead, dead, dead, dead, dead, dead, dead, dead, dead, dead, dead, dead, dead, dead, dead, dead, dead, dead, dead, dead, dead, dead, dead, dead, dead, dead, dead, dead, dead, dead, dead], lookB [(3, some ⟨26, x0, 0, none⟩), (10, some ⟨27, .slice b10 [], 1, none⟩), (12, some ⟨28, .slice b12 [], 1, none⟩)]⟩ (blockK 2 (seqC P (envH U9 []) t4_h N (sub [1, 1, 1, 1, 1, 1, 1, 1, 1, 0, 1, 0, 0, 1, 0, 0, 1, 1] (bodyOf fn)) (blockK 1 (seqC P (envH U9 []) t4_h N (sub [1, 1, 1, 1, 1, 1, 1, 1, 1, 0, 1, 0, 0, 1, 1] (bodyOf fn)) (seqK (fun s => evLoop (preL t4_h (sub [1, 1, 1, 1, 1, 1, 1, 1, 1, 0, 1, 0, 0] (bodyOf fn))) (evCode P (envH U9 []) t4_h N (sub [1, 1, 1, 1, 1, 1, 1, 1, 1, 0, 1, 0, 0] (bodyOf fn))) m0 ((preL t4_h (sub [1, 1, 1, 1, 1, 1, 1, 1, 1, 0, 1, 0, 0] (bodyOf fn))) s) (blockK 0 (seqC P (envH U9 []) t4_h N (sub [1, 1, 1, 1, 1, 1, 1, 1, 1, 1] (bodyOf fn)) (finK P fn) ))) (blockK 0 (seqC P (envH U9 []) t4_h N (sub [1, 1, 1, 1, 1, 1, 1, 1, 1, 1] (bodyOf fn)) (finK P fn) ))) )) ))
theorem t4_lp15_step  (N n : Nat) (x0 : D) (x1 : D) (x2 : D) (v11 : List D) (v13 : List D) (v14 : Int) (b10 : List D) (b12 : List D) (m0 : Nat) (v15 : Bool) (v16 : Int) : t4_lp15 Try.prog Try.f4 N (n + 1) x0 x1 x2 v11 v13 v14 b10 b12 m0 v15 v16 =
  bif decide (v16 < ((colsE x0).length : Int)) then
    bif (v15 == false) then
      bif (decide (0 ≤ v16) && decide (v16 < ((colsE x0).length : Int))) then
        t4_lp15 Try.prog Try.f4 N n x0 x1 x2 v11 v13 v14 b10 b12 m0 ((intD ((colsE x0).getD (v16).toNat .nil)) == v14) (IntKind.wrap .i64 (v16 + 1))
      else none
    else t4_lp15 Try.prog Try.f4 N n x0 x1 x2 v11 v13 v14 b10 b12 m0 true (IntKind.wrap .i64 (v16 + 1))
  else bif (decide (0 ≤ v14) && decide (v14 < ((elemsD x2).length : Int))) then
      bif v15 then
        bif (decide (0 ≤ v14) && decide (v14 < ((elemsD x1).length : Int))) then
          bif decide ((b10).length + 1 ≤ 2147483648) then
            bif (decide (0 ≤ v14) && decide (v14 < ((elemsD x1).length : Int))) then
              bif decide ((b12).length + 1 ≤ 2147483648) then
                bif decide (1 + (v11).length ≤ 2147483648) then
                  bif decide (1 + (v13).length ≤ 2147483648) then
                    t4_lp11 Try.prog Try.f4 N m0 x0 x1 x2 ([.lit (.int .i64 v14)] ++ v11) ([(elemsD x1).getD (v14).toNat .nil] ++ v13) (IntKind.wrap .i64 (v14 + 1)) (b10 ++ [.lit (.int .i64 v14)]) (b12 ++ [(elemsD x1).getD (v14).toNat .nil])
                  else none
                else none
              else none
            else none
          else none
        else none
      else bif decide ((b10).length + 1 ≤ 2147483648) then
          bif (decide (0 ≤ v14) && decide (v14 < ((elemsD x1).length : Int))) then
            bif decide ((b12).length + 1 ≤ 2147483648) then
              bif decide (1 + (v11).length ≤ 2147483648) then
                bif decide (1 + (v13).length ≤ 2147483648) then
                  t4_lp11 Try.prog Try.f4 N m0 x0 x1 x2 ([.lit (.int .i64 v14)] ++ v11) ([(elemsD x2).getD (v14).toNat .nil] ++ v13) (IntKind.wrap .i64 (v14 + 1)) (b10 ++ [.lit (.int .i64 v14)]) (b12 ++ [(elemsD x1).getD (v14).toNat .nil])
                else none
              else none
            else none
          else none
        else none
    else none := by kernel_rfl
theorem t4_lp11_step  (N n : Nat) (x0 : D) (x1 : D) (x2 : D) (v11 : List D) (v13 : List D) (v14 : Int) (b10 : List D) (b12 : List D) : t4_lp11 Try.prog Try.f4 N (n + 1) x0 x1 x2 v11 v13 v14 b10 b12 =
  bif decide (v14 < 16) then
    t4_lp15 Try.prog Try.f4 N N x0 x1 x2 v11 v13 v14 b10 b12 n false 0
  else some (dat 4 (.lit (.bool (((intD (fieldD (evalE x0 b10 b12) 0)) == (intD (fieldD (evalE x0 v11 v13) 0))) && (((intD (fieldD (evalE x0 b10 b12) 1)) == (intD (fieldD (evalE x0 v11 v13) 1))) && true))))) := by kernel_rfl
theorem t4 (N : Nat) (x0 : D) (x1 : D) (x2 : D) : evFn Try.prog (envH U9 []) t4_h N Try.f4 [dat 26 x0, dat 28 x1, dat 28 x2] =
  bif (decide (0 ≤ 200) && decide (200 ≤ 1000)) then
    bif ((!(fewB x0 200)) == false) then
      bif ((((elemsD x1).length : Int) != 16) == false) then
        bif ((((elemsD x2).length : Int) != 16) == false) then
          bif (!(mayE x0)) then
            some (dat 4 (.lit (.bool true)))
          else t4_lp11 Try.prog Try.f4 N N x0 x1 x2 [] [] 0 [] []
        else some (dat 4 (.lit (.bool true)))
      else some (dat 4 (.lit (.bool true)))
    else some (dat 4 (.lit (.bool true)))
  else none := by kernel_rfl

end Go.Proofs.Ytochjfimogijjaa
