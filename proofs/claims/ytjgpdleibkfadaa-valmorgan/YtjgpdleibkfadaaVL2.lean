/- What the evaluator comes to for laws: by the kernel. Nothing here is trusted. -/
import Derived.Test.YtjgpdleibkfadaaVF
namespace Go.Proofs.Ytjgpdleibkfadaa
open Go.Ev
set_option linter.unusedVariables false
/- roadbook/roadbooklaw01.ValMorgan -/
def t7_h : Hints := fun i => if i = 6 then some ([1, 2, 3, 6, 7, 8, 9, 10, 11, 12, 13, 14, 15, 16, 17, 18, 19, 20, 21, 22, 23, 24, 25, 26, 27, 28, 29, 30, 31, 32, 33, 34, 35, 36, 37, 38, 39, 40, 41, 42], [4]) else none
def t7_lp6 (P : Program) (fn : Func) (N n : Nat) (x0 : D) (v5 : Int) (b4 : List D) : Option AV := evLoop (preL t7_h (sub [1, 1, 1, 1, 0, 1, 0, 0] (bodyOf fn))) (evCode P (envOf T8) t7_h N (sub [1, 1, 1, 1, 0, 1, 0, 0] (bodyOf fn))) n ⟨[dat 28 x0, dead, dead, dead, bxp 4 28, dat 3 (.lit (.int .i64 v5)), dead, dead, dead, dead, dead, dead, dead, dead, dead, dead, dead, dead, dead, dead, dead, dead, dead, dead, dead, dead, dead, dead, dead, dead, dead, dead, dead, dead, dead, dead, dead, dead, dead, dead, dead, dead, dead], lookB [(4, some ⟨28, .slice b4 [], 1⟩)]⟩ (blockK 0 (seqC P (envOf T8) t7_h N (sub [1, 1, 1, 1, 1] (bodyOf fn)) (finK P fn) ))
theorem t7_lp6_step (N n : Nat) (x0 : D) (v5 : Int) (b4 : List D) : t7_lp6 Try.prog Try.f7 N (n + 1) x0 v5 b4 =
  bif decide (v5 < ((elemsD x0).length : Int)) then
    bif (decide (0 ≤ v5) && decide (v5 < ((elemsD x0).length : Int))) then
      bif decide ((b4).length + 1 ≤ 2147483648) then
        t7_lp6 Try.prog Try.f7 N n x0 (IntKind.wrap .i64 (v5 + 1)) (b4 ++ [notD ((elemsD x0).getD (v5).toNat .nil)])
      else none
    else none
  else bif ((((intD (fieldD (notD (andD (elemsD x0))) 0)) == (intD (fieldD (orD b4) 0))) && (((intD (fieldD (notD (andD (elemsD x0))) 1)) == (intD (fieldD (orD b4) 1))) && true)) == true) then
      some (dat 4 (.lit (.bool (((intD (fieldD (notD (orD (elemsD x0))) 0)) == (intD (fieldD (andD b4) 0))) && (((intD (fieldD (notD (orD (elemsD x0))) 1)) == (intD (fieldD (andD b4) 1))) && true)))))
    else some (dat 4 (.lit (.bool false))) := by kernel_rfl
theorem t7 (N : Nat) (x0 : D) : evFn Try.prog (envOf T8) t7_h N Try.f7 [dat 28 x0] =
  bif decide (((elemsD x0).length : Int) > 1000) then
    some (dat 4 (.lit (.bool true)))
  else t7_lp6 Try.prog Try.f7 N N x0 0 [] := by kernel_rfl

/- roadbook/roadbooklaw01.ValTurned -/
def t8_h : Hints := fun i => if i = 6 then some ([1, 2, 3, 6, 7, 8, 9, 10, 11, 12, 13, 14, 15, 16, 17, 18, 19, 20, 21, 22, 23, 24, 25, 26, 27, 28, 29, 30, 31, 32, 33, 34, 35, 36, 37, 38, 39, 40, 41, 42, 43, 44, 45, 46, 47], [4]) else none
def t8_lp6 (P : Program) (fn : Func) (N n : Nat) (x0 : D) (v5 : Int) (b4 : List D) : Option AV := evLoop (preL t8_h (sub [1, 1, 1, 1, 0, 1, 0, 0] (bodyOf fn))) (evCode P (envOf T8) t8_h N (sub [1, 1, 1, 1, 0, 1, 0, 0] (bodyOf fn))) n ⟨[dat 28 x0, dead, dead, dead, bxp 4 28, dat 3 (.lit (.int .i64 v5)), dead, dead, dead, dead, dead, dead, dead, dead, dead, dead, dead, dead, dead, dead, dead, dead, dead, dead, dead, dead, dead, dead, dead, dead, dead, dead, dead, dead, dead, dead, dead, dead, dead, dead, dead, dead, dead, dead, dead, dead, dead, dead], lookB [(4, some ⟨28, .slice b4 [], 1⟩)]⟩ (blockK 0 (seqC P (envOf T8) t8_h N (sub [1, 1, 1, 1, 1] (bodyOf fn)) (finK P fn) ))
theorem t8_lp6_step (N n : Nat) (x0 : D) (v5 : Int) (b4 : List D) : t8_lp6 Try.prog Try.f8 N (n + 1) x0 v5 b4 =
  bif decide (v5 > 0) then
    bif (decide (0 ≤ (IntKind.wrap .i64 (v5 - 1))) && decide ((IntKind.wrap .i64 (v5 - 1)) < ((elemsD x0).length : Int))) then
      bif decide ((b4).length + 1 ≤ 2147483648) then
        t8_lp6 Try.prog Try.f8 N n x0 (IntKind.wrap .i64 (v5 - 1)) (b4 ++ [(elemsD x0).getD (IntKind.wrap .i64 (v5 - 1)).toNat .nil])
      else none
    else none
  else bif ((((intD (fieldD (andD (elemsD x0)) 0)) == (intD (fieldD (andD b4) 0))) && (((intD (fieldD (andD (elemsD x0)) 1)) == (intD (fieldD (andD b4) 1))) && true)) == true) then
      bif ((((intD (fieldD (orD (elemsD x0)) 0)) == (intD (fieldD (orD b4) 0))) && (((intD (fieldD (orD (elemsD x0)) 1)) == (intD (fieldD (orD b4) 1))) && true)) == true) then
        some (dat 4 (.lit (.bool (((intD (fieldD (sumD (elemsD x0)) 0)) == (intD (fieldD (sumD b4) 0))) && (((intD (fieldD (sumD (elemsD x0)) 1)) == (intD (fieldD (sumD b4) 1))) && true)))))
      else some (dat 4 (.lit (.bool false)))
    else some (dat 4 (.lit (.bool false))) := by kernel_rfl
theorem t8 (N : Nat) (x0 : D) : evFn Try.prog (envOf T8) t8_h N Try.f8 [dat 28 x0] =
  bif decide (((elemsD x0).length : Int) > 1000) then
    some (dat 4 (.lit (.bool true)))
  else t8_lp6 Try.prog Try.f8 N N x0 ((elemsD x0).length : Int) [] := by kernel_rfl

/- roadbook/roadbooklaw01.ValSum -/
def t9_h : Hints := fun i => if i = 7 then some ([1, 2, 3, 7, 8, 9, 10, 11, 12, 13, 14, 15, 16, 17, 18, 19, 20, 21, 22, 23, 24, 25, 26, 27, 28, 29, 30, 31, 32, 33, 34, 35, 36, 37, 38, 39, 40, 41, 42, 43, 44, 45, 46, 47, 48, 49, 50, 51, 52, 53, 54, 55, 56, 57, 58, 59, 60, 61, 62, 63, 64, 65, 66, 67, 68, 69, 70], [4, 5]) else none
def t9_lp7 (P : Program) (fn : Func) (N n : Nat) (x0 : D) (v6 : Int) (b4 : D) (b5 : List D) : Option AV := evLoop (preL t9_h (sub [1, 1, 1, 1, 1, 0, 1, 0, 0] (bodyOf fn))) (evCode P (envOf T8) t9_h N (sub [1, 1, 1, 1, 1, 0, 1, 0, 0] (bodyOf fn))) n ⟨[dat 37 x0, dead, dead, dead, bxp 4 23, bxp 5 28, dat 3 (.lit (.int .i64 v6)), dead, dead, dead, dead, dead, dead, dead, dead, dead, dead, dead, dead, dead, dead, dead, dead, dead, dead, dead, dead, dead, dead, dead, dead, dead, dead, dead, dead, dead, dead, dead, dead, dead, dead, dead, dead, dead, dead, dead, dead, dead, dead, dead, dead, dead, dead, dead, dead, dead, dead, dead, dead, dead, dead, dead, dead, dead, dead, dead, dead, dead, dead, dead, dead], lookB [(4, some ⟨23, b4, 0⟩), (5, some ⟨28, .slice b5 [], 1⟩)]⟩ (blockK 0 (seqC P (envOf T8) t9_h N (sub [1, 1, 1, 1, 1, 1] (bodyOf fn)) (finK P fn) ))
theorem t9_lp7_step (N n : Nat) (x0 : D) (v6 : Int) (b4 : D) (b5 : List D) : t9_lp7 Try.prog Try.f9 N (n + 1) x0 v6 b4 b5 =
  bif decide (v6 < ((elemsD x0).length : Int)) then
    bif (decide (0 ≤ v6) && decide (v6 < ((elemsD x0).length : Int))) then
      bif ((decide ((intD ((elemsD x0).getD (v6).toNat .nil)) > 1125899906842624)) == false) then
        bif (decide (0 ≤ v6) && decide (v6 < ((elemsD x0).length : Int))) then
          bif decide ((intD ((elemsD x0).getD (v6).toNat .nil)) < (-1125899906842624)) then
            some (dat 4 (.lit (.bool true)))
          else bif (decide (0 ≤ v6) && decide (v6 < ((elemsD x0).length : Int))) then
              bif decide ((b5).length + 1 ≤ 2147483648) then
                bif (decide (0 ≤ v6) && decide (v6 < ((elemsD x0).length : Int))) then
                  t9_lp7 Try.prog Try.f9 N n x0 (IntKind.wrap .i64 (v6 + 1)) (addD b4 (.agg [.lit (.int .i64 0), .lit (.int .i64 (intD ((elemsD x0).getD (v6).toNat .nil)))])) (b5 ++ [.agg [.lit (.int .i64 0), .lit (.int .i64 (intD ((elemsD x0).getD (v6).toNat .nil)))]])
                else none
              else none
            else none
        else none
      else some (dat 4 (.lit (.bool true)))
    else none
  else bif (((elemsD x0).length : Int) == 0) then
      some (dat 4 (.lit (.bool (((intD (fieldD (sumD []) 0)) == 1) && (((intD (fieldD (sumD []) 1)) == 0) && true)))))
    else bif ((((intD (fieldD (sumD b5) 0)) == (intD (fieldD b4 0))) && (((intD (fieldD (sumD b5) 1)) == (intD (fieldD b4 1))) && true)) == true) then
        bif (decide (0 ≤ (0 : Int)) && decide ((0 : Int) < (b5.length : Int))) then
          bif (decide (0 ≤ (0 : Int)) && decide ((0 : Int) < (b5.length : Int))) then
            some (dat 4 (.lit (.bool (((intD (fieldD (sumD [b5.getD 0 .nil]) 0)) == (intD (fieldD (b5.getD 0 .nil) 0))) && (((intD (fieldD (sumD [b5.getD 0 .nil]) 1)) == (intD (fieldD (b5.getD 0 .nil) 1))) && true)))))
          else none
        else none
      else some (dat 4 (.lit (.bool false))) := by kernel_rfl
theorem t9 (N : Nat) (x0 : D) : evFn Try.prog (envOf T8) t9_h N Try.f9 [dat 37 x0] =
  bif decide (((elemsD x0).length : Int) > 100) then
    some (dat 4 (.lit (.bool true)))
  else t9_lp7 Try.prog Try.f9 N N x0 0 (.agg [.lit (.int .i64 0), .lit (.int .i64 0)]) [] := by kernel_rfl

end Go.Proofs.Ytjgpdleibkfadaa
