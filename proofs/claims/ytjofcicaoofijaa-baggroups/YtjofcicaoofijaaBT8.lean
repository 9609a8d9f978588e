/- What the evaluator comes to, function by function: by the kernel. Nothing here is trusted. -/
import Derived.Test.YtjofcicaoofijaaBD
namespace Go.Proofs.Ytjofcicaoofijaa
open Go.Ev
set_option linter.unusedVariables false
/- roadbook/bag.Group -/
def t6_h : Hints := fun i => if i = 6 then some ([0, 4, 5, 7, 11, 12, 13, 14, 15, 16, 17, 18, 19, 20, 21, 22, 23, 24, 25, 26, 27, 28, 29, 30, 31, 32, 33, 34, 35, 36, 37, 38, 39, 40, 41, 42, 43, 44, 45, 46, 47, 48, 49, 50, 51, 52, 53, 54, 55, 56, 57, 58, 59, 60, 61, 62, 63, 64, 65, 66, 67, 68, 69], [3, 6, 9, 60, 900000], []) else none
def t6_lp6 (P : Program) (fn : Func) (N n : Nat) (x0 : D) (x1 : Int) (x2 : D) (v10 : List D) (b9 : List D) : Option AV := evLoop (preL t6_h (sub [1, 1, 1, 1, 0, 1, 0, 0] (bodyOf fn))) (evCode P (envR B5 H7 R3 []) t6_h N (sub [1, 1, 1, 1, 0, 1, 0, 0] (bodyOf fn))) n ⟨[dead, dat 3 (.lit (.int .i64 x1)), dat 22 x2, bxp 3 25, dead, dead, bxp 6 25, dead, dat 3 (.lit (.int .i64 (Lib.idxOf ((elemsD (fieldD x0 0)).map intD) x1))), bxp 9 23, dat 23 (.slice v10 []), dead, dead, dead, dead, dead, dead, dead, dead, dead, dead, dead, dead, dead, dead, dead, dead, dead, dead, dead, dead, dead, dead, dead, dead, dead, dead, dead, dead, dead, dead, dead, dead, dead, dead, dead, dead, dead, dead, dead, dead, dead, dead, dead, dead, dead, dead, dead, dead, dead, dead, dead, dead, dead, dead, dead, dead, dead, dead, dead], lookB [(3, some ⟨25, x0, 0, none⟩), (6, some ⟨25, .agg [.slice [] [], .slice [] []], 0, none⟩), (9, some ⟨23, .slice b9 [], 1, none⟩), (60, none), (900000, none)]⟩ (blockK 0 (seqC P (envR B5 H7 R3 []) t6_h N (sub [1, 1, 1, 1, 1] (bodyOf fn)) (finK P fn) ))
theorem t6_lp6_step  (N n : Nat) (x0 : D) (x1 : Int) (x2 : D) (v10 : List D) (b9 : List D) : t6_lp6 Try.prog Try.f6 N (n + 1) x0 x1 x2 v10 b9 =
  bif decide ((v10.length : Int) > 0) then
    bif decide (0 < v10.length) then
      bif (decide (0 ≤ (0 : Int)) && decide ((0 : Int) ≤ (alikeN v10 (Lib.idxOf ((elemsD (fieldD x0 0)).map intD) x1) : Int)) && decide ((alikeN v10 (Lib.idxOf ((elemsD (fieldD x0 0)).map intD) x1) : Int) ≤ (v10.length : Int))) then
        bif sumOK (.agg [fieldD x0 0, .slice ((v10.drop ((0 : Int) : Int).toNat).take ((alikeN v10 (Lib.idxOf ((elemsD (fieldD x0 0)).map intD) x1) : Int) - (0 : Int)).toNat) []]) (Lib.idxOf ((elemsD (fieldD x0 0)).map intD) x1) (elemsD x2) then
          bif decide ((b9).length + 1 ≤ 2147483648) then
            bif (decide (0 ≤ (alikeN v10 (Lib.idxOf ((elemsD (fieldD x0 0)).map intD) x1) : Int)) && decide ((alikeN v10 (Lib.idxOf ((elemsD (fieldD x0 0)).map intD) x1) : Int) ≤ (v10.length : Int)) && decide ((v10.length : Int) ≤ (v10.length : Int))) then
              t6_lp6 Try.prog Try.f6 N n x0 x1 x2 ((v10.drop ((alikeN v10 (Lib.idxOf ((elemsD (fieldD x0 0)).map intD) x1) : Int) : Int).toNat).take ((v10.length : Int) - (alikeN v10 (Lib.idxOf ((elemsD (fieldD x0 0)).map intD) x1) : Int)).toNat) (b9 ++ [.slice (summedL (.agg [fieldD x0 0, .slice ((v10.drop ((0 : Int) : Int).toNat).take ((alikeN v10 (Lib.idxOf ((elemsD (fieldD x0 0)).map intD) x1) : Int) - (0 : Int)).toNat) []]) (Lib.idxOf ((elemsD (fieldD x0 0)).map intD) x1) (elemsD x2)) []])
            else none
          else none
        else none
      else none
    else none
  else bif (decide (0 ≤ ((elemsD x2).length : Int)) && decide (((elemsD x2).length : Int) ≤ 1000)) then
      some (tupA [25, 4] (.agg [.agg [.slice (groupColsL x1 ((elemsD x2).length : Int)) [], .slice b9 []], .lit (.bool true)]))
    else none := by kernel_rfl
theorem t6 (N : Nat) (x0 : D) (x1 : Int) (x2 : D) : evFn Try.prog (envR B5 H7 R3 []) t6_h N Try.f6 [dat 25 x0, dat 3 (.lit (.int .i64 x1)), dat 22 x2] =
  bif ((!(mayBagB x0)) == false) then
    bif ((!(hasB (elemsD (fieldD x0 0)) x1)) == false) then
      bif ((!(hasAllB (elemsD (fieldD x0 0)) (elemsD x2))) == false) then
        bif decide (((elemsD x2).length : Int) > 4) then
          some (tupA [25, 4] (.agg [.agg [.slice [] [], .slice [] []], .lit (.bool false)]))
        else bif sortOK x0 then
            t6_lp6 Try.prog Try.f6 N N x0 x1 x2 (elemsD (fieldD (sortBag x0 x1) 1)) []
          else none
      else some (tupA [25, 4] (.agg [.agg [.slice [] [], .slice [] []], .lit (.bool false)]))
    else some (tupA [25, 4] (.agg [.agg [.slice [] [], .slice [] []], .lit (.bool false)]))
  else some (tupA [25, 4] (.agg [.agg [.slice [] [], .slice [] []], .lit (.bool false)])) := by kernel_rfl

end Go.Proofs.Ytjofcicaoofijaa
