/- What the evaluator comes to, function by function: by the kernel. Nothing here is trusted. -/
import Derived.Test.YtochjfimogijjaaWP8
namespace Go.Proofs.Ytochjfimogijjaa
open Go.Ev
set_option linter.unusedVariables false
/- roadbook/roadbookref02.size -/
def t26_h : Hints := fun i => if i = 3 then some ([0, 3, 4, 7, 8, 9, 10, 11, 12, 13, 14, 15, 16, 17, 18, 19, 20, 21, 22, 23, 24, 25, 26, 27, 28, 29, 30], [2], []) else none
def t26_lp3 (P : Program) (fn : Func) (K : Nat) (N n : Nat) (x0 : D) (x1 : Int) (v5 : Int) (v6 : Int) : Option AV := evLoop (preL t26_h (sub [1, 1, 0, 1, 0, 0] (bodyOf fn))) (evCode P (envH (U7 K) []) t26_h N (sub [1, 1, 0, 1, 0, 0] (bodyOf fn))) n ⟨[dead, dat 3 (.lit (.int .i64 x1)), bxp 2 26, dead, dead, dat 3 (.lit (.int .i64 v5)), dat 3 (.lit (.int .i64 v6)), dead, dead, dead, dead, dead, dead, dead, dead, dead, dead, dead, dead, dead, dead, dead, dead, dead, dead, dead, dead, dead, dead, dead, dead], lookB [(2, some ⟨26, x0, 0, none⟩)]⟩ (blockK 0 (seqC P (envH (U7 K) []) t26_h N (sub [1, 1, 1] (bodyOf fn)) (finK P fn) ))
theorem t26_lp3_step (K : Nat) (N n : Nat) (x0 : D) (x1 : Int) (v5 : Int) (v6 : Int) : t26_lp3 Try.prog Try.f26 K N (n + 1) x0 x1 v5 v6 =
  bif ((decide (v6 < ((elemsD (fieldD x0 3)).length : Int))) == true) then
    bif decide (v5 ≤ x1) then
      bif (decide (0 ≤ v6) && decide (v6 < ((elemsD (fieldD x0 3)).length : Int))) then
        bif (decide (0 ≤ (IntKind.wrap .i64 (x1 - v5))) && decide ((IntKind.wrap .i64 (x1 - v5)) < (K : Int)) && decide (K ≤ 1001)) then
          t26_lp3 Try.prog Try.f26 K N n x0 x1 (IntKind.wrap .i64 (v5 + (sizeK K ((elemsD (fieldD x0 3)).getD (v6).toNat .nil) (IntKind.wrap .i64 (x1 - v5))))) (IntKind.wrap .i64 (v6 + 1))
        else none
      else none
    else some (dat 3 (.lit (.int .i64 v5)))
  else some (dat 3 (.lit (.int .i64 v5))) := by kernel_rfl
theorem t26 (K : Nat) (N : Nat) (x0 : D) (x1 : Int) : evFn Try.prog (envH (U7 K) []) t26_h N Try.f26 [dat 26 x0, dat 3 (.lit (.int .i64 x1))] =
  t26_lp3 Try.prog Try.f26 K N N x0 x1 1 0 := by kernel_rfl

/- roadbook/roadbookref02.Has -/
def t23_h : Hints := fun i => if i = 4 then some ([0, 3, 4, 6, 7, 8, 9, 10, 11, 12, 13, 14, 15, 16, 17, 18, 19, 20, 21, 22, 23, 24, 25, 26, 27, 28, 29, 30], [2], []) else none
def t23_lp4 (P : Program) (fn : Func) (K : Nat) (N n : Nat) (x0 : D) (x1 : Int) (v5 : Int) : Option AV := evLoop (preL t23_h (sub [1, 1, 0, 1, 0, 0] (bodyOf fn))) (evCode P (envH (U7 K) []) t23_h N (sub [1, 1, 0, 1, 0, 0] (bodyOf fn))) n ⟨[dead, dat 3 (.lit (.int .i64 x1)), bxp 2 26, dead, dead, dat 3 (.lit (.int .i64 v5)), dead, dead, dead, dead, dead, dead, dead, dead, dead, dead, dead, dead, dead, dead, dead, dead, dead, dead, dead, dead, dead, dead, dead, dead, dead], lookB [(2, some ⟨26, x0, 0, none⟩)]⟩ (blockK 0 (seqC P (envH (U7 K) []) t23_h N (sub [1, 1, 1] (bodyOf fn)) (finK P fn) ))
theorem t23_lp4_step (K : Nat) (N n : Nat) (x0 : D) (x1 : Int) (v5 : Int) : t23_lp4 Try.prog Try.f23 K N (n + 1) x0 x1 v5 =
  bif decide (v5 < ((elemsD (fieldD x0 3)).length : Int)) then
    bif (decide (0 ≤ v5) && decide (v5 < ((elemsD (fieldD x0 3)).length : Int))) then
      bif okK K ((elemsD (fieldD x0 3)).getD (v5).toNat .nil) then
        bif hasK K ((elemsD (fieldD x0 3)).getD (v5).toNat .nil) x1 then
          some (dat 4 (.lit (.bool true)))
        else t23_lp4 Try.prog Try.f23 K N n x0 x1 (IntKind.wrap .i64 (v5 + 1))
      else none
    else none
  else some (dat 4 (.lit (.bool false))) := by kernel_rfl
theorem t23 (K : Nat) (N : Nat) (x0 : D) (x1 : Int) : evFn Try.prog (envH (U7 K) []) t23_h N Try.f23 [dat 26 x0, dat 3 (.lit (.int .i64 x1))] =
  bif (((intD (fieldD x0 0)) == 1) == true) then
    bif ((intD (fieldD x0 1)) == x1) then
      some (dat 4 (.lit (.bool true)))
    else t23_lp4 Try.prog Try.f23 K N N x0 x1 0
  else t23_lp4 Try.prog Try.f23 K N N x0 x1 0 := by kernel_rfl

end Go.Proofs.Ytochjfimogijjaa
