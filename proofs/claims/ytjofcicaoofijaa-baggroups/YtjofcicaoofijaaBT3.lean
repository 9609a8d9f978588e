/- What the evaluator comes to, function by function: by the kernel. Nothing here is trusted. -/
import Derived.Test.YtjofcicaoofijaaBP2
namespace Go.Proofs.Ytjofcicaoofijaa
open Go.Ev
set_option linter.unusedVariables false
/- roadbook/bag.Sort$1 -/
def t20_h : Hints := fun _ =>  none
theorem t20 (N : Nat) (x0 : D) (x1 : D) : evFn Try.prog (envR B2 [] [] []) t20_h N Try.f20 [dat 49 x0, dat 49 x1] =
  some (dat 3 (.lit (.int .i64 (againstI (fieldD x0 0) (fieldD x1 0))))) := by kernel_rfl

/- roadbook/bag.hasAll -/
def t13_h : Hints := fun i => if i = 2 then some ([1, 2, 3, 4, 5, 6, 10, 11, 12, 13, 14, 15, 16, 17], [], []) else none
def t13_lp2 (P : Program) (fn : Func) (N n : Nat) (x0 : D) (x1 : D) (v9 : Int) : Option AV := evLoop (preL t13_h (sub [1, 0, 1, 0, 0] (bodyOf fn))) (evCode P (envR B2 [] [] []) t13_h N (sub [1, 0, 1, 0, 0] (bodyOf fn))) n ⟨[dat 22 x0, dead, dead, dead, dead, dead, dead, dat 22 x1, dat 3 (.lit (.int .i64 ((elemsD x1).length : Int))), dat 3 (.lit (.int .i64 v9)), dead, dead, dead, dead, dead, dead, dead, dead], lookB []⟩ (blockK 0 (seqC P (envR B2 [] [] []) t13_h N (sub [1, 1] (bodyOf fn)) (finK P fn) ))
theorem t13_lp2_step  (N n : Nat) (x0 : D) (x1 : D) (v9 : Int) : t13_lp2 Try.prog Try.f13 N (n + 1) x0 x1 v9 =
  bif decide (v9 < ((elemsD x1).length : Int)) then
    bif (decide (0 ≤ v9) && decide (v9 < ((elemsD x1).length : Int))) then
      bif (!(hasB (elemsD x0) (intD ((elemsD x1).getD (v9).toNat .nil)))) then
        some (dat 4 (.lit (.bool false)))
      else t13_lp2 Try.prog Try.f13 N n x0 x1 (IntKind.wrap .i64 (v9 + 1))
    else none
  else some (dat 4 (.lit (.bool true))) := by kernel_rfl
theorem t13 (N : Nat) (x0 : D) (x1 : D) : evFn Try.prog (envR B2 [] [] []) t13_h N Try.f13 [dat 22 x0, dat 22 x1] =
  t13_lp2 Try.prog Try.f13 N N x0 x1 0 := by kernel_rfl

/- roadbook/bag.Sorted$1 -/
def t27_h : Hints := fun _ =>  none
theorem t27 (N : Nat) (x0 : D) (x1 : D) (q : Int) : evFnH Try.prog (envR B2 [] [] []) t27_h N Try.f27 [dat 32 x0, dat 32 x1, bxp 1000000 3] [⟨3, .lit (.int .i64 q), 0, none⟩] =
  some (dat 3 (.lit (.int .i64 (againstI (rankD (elemsD x0) q) (rankD (elemsD x1) q)))), [some ⟨3, .lit (.int .i64 q), 0, none⟩]) := by kernel_rfl

end Go.Proofs.Ytjofcicaoofijaa
