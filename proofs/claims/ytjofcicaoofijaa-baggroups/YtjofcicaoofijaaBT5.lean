/- What the evaluator comes to, function by function: by the kernel. Nothing here is trusted. -/
import Derived.Test.YtjofcicaoofijaaBP4
namespace Go.Proofs.Ytjofcicaoofijaa
open Go.Ev
set_option linter.unusedVariables false
/- slices.rotateCmpFunc[roadbook/bag.ranked] -/
def t45_h : Hints := fun i => if i = 2 then some ([1, 3, 5, 6, 7, 8, 9, 12, 13, 14, 15, 16, 17, 18, 19, 20, 21, 22, 23, 24, 25, 26, 27, 28, 29, 30, 31, 32, 33, 34, 35, 36, 37, 38, 39, 40, 41, 42, 43, 44, 45, 46, 47, 48, 49, 50, 51, 52, 53, 54, 55, 56, 57], [1000000], []) else none
def t45_lp2 (P : Program) (fn : Func) (N n : Nat) (x1 : Int) (x2 : Int) (x3 : Int) (es : List D) (v10 : Int) (v11 : Int) (b1000000 : List D) : Option (AV × List (Option Ent)) := evLoop (preL t45_h (sub [1, 1, 0, 0, 0] (bodyOf fn))) (evCode P (envR B3 H4 R3 []) t45_h N (sub [1, 1, 0, 0, 0] (bodyOf fn))) n ⟨[bxp 1000000 44, dead, dat 3 (.lit (.int .i64 x2)), dead, dat 52 (.held (.func (.func 20) #[] #[])), dead, dead, dead, dead, dead, dat 3 (.lit (.int .i64 v10)), dat 3 (.lit (.int .i64 v11)), dead, dead, dead, dead, dead, dead, dead, dead, dead, dead, dead, dead, dead, dead, dead, dead, dead, dead, dead, dead, dead, dead, dead, dead, dead, dead, dead, dead, dead, dead, dead, dead, dead, dead, dead, dead, dead, dead, dead, dead, dead, dead, dead, dead, dead, dead], lookB [(1000000, some ⟨44, .slice b1000000 [], 3, none⟩)]⟩ (blockK 0 (seqC P (envR B3 H4 R3 []) t45_h N (sub [1, 1, 1] (bodyOf fn)) (finH P fn 1) ))
theorem t45_lp2_step  (N n : Nat) (x1 : Int) (x2 : Int) (x3 : Int) (es : List D) (v10 : Int) (v11 : Int) (b1000000 : List D) : t45_lp2 Try.prog Try.f45 N (n + 1) x1 x2 x3 es v10 v11 b1000000 =
  bif (v10 != v11) then
    bif decide (v10 > v11) then
      bif swpOK b1000000 (IntKind.wrap .i64 (x2 - v10)) x2 v11 then
        t45_lp2 Try.prog Try.f45 N n x1 x2 x3 es (IntKind.wrap .i64 (v10 - v11)) v11 (swpL b1000000 (IntKind.wrap .i64 (x2 - v10)) x2 v11)
      else none
    else bif swpOK b1000000 (IntKind.wrap .i64 (x2 - v10)) (IntKind.wrap .i64 ((IntKind.wrap .i64 (x2 + v11)) - v10)) v10 then
        t45_lp2 Try.prog Try.f45 N n x1 x2 x3 es v10 (IntKind.wrap .i64 (v11 - v10)) (swpL b1000000 (IntKind.wrap .i64 (x2 - v10)) (IntKind.wrap .i64 ((IntKind.wrap .i64 (x2 + v11)) - v10)) v10)
      else none
  else bif swpOK b1000000 (IntKind.wrap .i64 (x2 - v10)) x2 v10 then
      some (tupA [] (.agg []), [some ⟨44, .slice (swpL b1000000 (IntKind.wrap .i64 (x2 - v10)) x2 v10) [], 3, none⟩])
    else none := by kernel_rfl
theorem t45 (N : Nat) (x1 : Int) (x2 : Int) (x3 : Int) (es : List D) : evFnH Try.prog (envR B3 H4 R3 []) t45_h N Try.f45 [bxp 1000000 44, dat 3 (.lit (.int .i64 x1)), dat 3 (.lit (.int .i64 x2)), dat 3 (.lit (.int .i64 x3)), dat 52 (.held (.func (.func 20) #[] #[]))] [⟨44, .slice es [], 3, none⟩] =
  t45_lp2 Try.prog Try.f45 N N x1 x2 x3 es (IntKind.wrap .i64 (x2 - x1)) (IntKind.wrap .i64 (x3 - x2)) es := by kernel_rfl

/- roadbook/bag.Sorted -/
def t9_h : Hints := fun _ =>  none
theorem t9 (N : Nat) (x0 : D) (x1 : Int) : evFn Try.prog (envR B3 H4 R3 []) t9_h N Try.f9 [dat 25 x0, dat 3 (.lit (.int .i64 x1))] =
  some (dat 4 (.lit (.bool (adjB (Lib.idxOf ((elemsD (fieldD x0 0)).map intD) x1) (elemsD (fieldD x0 1)))))) := by kernel_rfl

end Go.Proofs.Ytjofcicaoofijaa
