/- What the evaluator comes to, function by function: by the kernel. Nothing here is trusted. -/
import Derived.Test.YtjofcicaoofijaaBP1
namespace Go.Proofs.Ytjofcicaoofijaa
open Go.Ev
set_option linter.unusedVariables false
/- roadbook/bag.against -/
def t21_h : Hints := fun _ =>  none
theorem t21 (N : Nat) (x0 : D) (x1 : D) : evFn Try.prog (envR B1 [] [] []) t21_h N Try.f21 [dat 46 x0, dat 46 x1] =
  bif (((intD (fieldD x0 0)) == (intD (fieldD x1 0))) && (((intD (fieldD x0 1)) == (intD (fieldD x1 1))) && true)) then
    some (dat 3 (.lit (.int .i64 0)))
  else bif lessB (valueD x0) (valueD x1) then
      some (dat 3 (.lit (.int .i64 (-1))))
    else some (dat 3 (.lit (.int .i64 1))) := by kernel_rfl

/- slices.Contains[[]int,int] -/
def t12_h : Hints := fun _ =>  none
theorem t12 (N : Nat) (x0 : D) (x1 : Int) : evFn Try.prog (envR B1 [] [] []) t12_h N Try.f12 [dat 22 x0, dat 3 (.lit (.int .i64 x1))] =
  some (dat 4 (.lit (.bool (decide ((Lib.idxOf ((elemsD x0).map intD) x1) ≥ 0))))) := by kernel_rfl

/- roadbook/roadbookref03.Like -/
def t8_h : Hints := fun i => if i = 5 then some ([0, 1, 4, 5, 7, 8, 9, 10, 11, 12, 13, 14, 15, 16, 17, 18, 19, 20, 21, 22, 23, 24, 25, 26, 27, 28, 29, 30, 31, 32, 33, 34, 35, 36, 37, 38, 39, 40, 41, 42, 43], [2, 3], []) else none
def t8_lp5 (P : Program) (fn : Func) (N n : Nat) (x0 : D) (x1 : D) (v6 : Int) : Option AV := evLoop (preL t8_h (sub [1, 1, 1, 0, 1, 0, 0] (bodyOf fn))) (evCode P (envR B1 [] [] []) t8_h N (sub [1, 1, 1, 0, 1, 0, 0] (bodyOf fn))) n ⟨[dead, dead, bxp 2 25, bxp 3 25, dead, dead, dat 3 (.lit (.int .i64 v6)), dead, dead, dead, dead, dead, dead, dead, dead, dead, dead, dead, dead, dead, dead, dead, dead, dead, dead, dead, dead, dead, dead, dead, dead, dead, dead, dead, dead, dead, dead, dead, dead, dead, dead, dead, dead, dead], lookB [(2, some ⟨25, x0, 0, none⟩), (3, some ⟨25, x1, 0, none⟩)]⟩ (blockK 0 (seqC P (envR B1 [] [] []) t8_h N (sub [1, 1, 1, 1] (bodyOf fn)) (finK P fn) ))
theorem t8_lp5_step  (N n : Nat) (x0 : D) (x1 : D) (v6 : Int) : t8_lp5 Try.prog Try.f8 N (n + 1) x0 x1 v6 =
  bif decide (v6 < ((elemsD (fieldD x0 1)).length : Int)) then
    bif (decide (0 ≤ v6) && decide (v6 < ((elemsD (fieldD x0 1)).length : Int))) then
      bif (decide (0 ≤ v6) && decide (v6 < ((elemsD (fieldD x1 1)).length : Int))) then
        bif (!(rowEqB (elemsD ((elemsD (fieldD x0 1)).getD (v6).toNat .nil)) (elemsD ((elemsD (fieldD x1 1)).getD (v6).toNat .nil)))) then
          some (dat 4 (.lit (.bool false)))
        else t8_lp5 Try.prog Try.f8 N n x0 x1 (IntKind.wrap .i64 (v6 + 1))
      else none
    else none
  else some (dat 4 (.lit (.bool true))) := by kernel_rfl
theorem t8 (N : Nat) (x0 : D) (x1 : D) : evFn Try.prog (envR B1 [] [] []) t8_h N Try.f8 [dat 25 x0, dat 25 x1] =
  bif ((!(intsB (elemsD (fieldD x0 0)) (elemsD (fieldD x1 0)))) == false) then
    bif (((elemsD (fieldD x0 1)).length : Int) != ((elemsD (fieldD x1 1)).length : Int)) then
      some (dat 4 (.lit (.bool false)))
    else t8_lp5 Try.prog Try.f8 N N x0 x1 0
  else some (dat 4 (.lit (.bool false))) := by kernel_rfl

/- roadbook/bag.May -/
def t11_h : Hints := fun _ =>  none
theorem t11 (N : Nat) (x0 : D) : evFn Try.prog (envR B1 [] [] []) t11_h N Try.f11 [dat 25 x0] =
  bif ((colsMayB (elemsD (fieldD x0 0))) == true) then
    bif ((decide (((elemsD (fieldD x0 1)).length : Int) ≤ 5000)) == true) then
      some (dat 4 (.lit (.bool (rowsMayB x0))))
    else some (dat 4 (.lit (.bool false)))
  else some (dat 4 (.lit (.bool false))) := by kernel_rfl

/- roadbook/bag.alike -/
def t15_h : Hints := fun i => if i = 2 then some ([2, 3, 4, 7, 8, 9, 10, 11, 12, 13, 14, 15, 16, 17, 18, 19, 20, 21, 22, 23, 24, 25, 26, 27, 28], [6], []) else none
def t15_lp2 (P : Program) (fn : Func) (N n : Nat) (x0 : D) (x1 : Int) (v5 : Int) : Option AV := evLoop (preL t15_h (sub [1, 1, 0, 0, 0] (bodyOf fn))) (evCode P (envR B1 [] [] []) t15_h N (sub [1, 1, 0, 0, 0] (bodyOf fn))) n ⟨[dat 23 x0, dat 3 (.lit (.int .i64 x1)), dead, dead, dead, dat 3 (.lit (.int .i64 v5)), bxp 6 46, dead, dead, dead, dead, dead, dead, dead, dead, dead, dead, dead, dead, dead, dead, dead, dead, dead, dead, dead, dead, dead, dead], lookB [(6, some ⟨46, rankD (elemsD ((elemsD x0).getD 0 .nil)) x1, 0, none⟩)]⟩ (blockK 0 (seqC P (envR B1 [] [] []) t15_h N (sub [1, 1, 1] (bodyOf fn)) (finK P fn) ))
theorem t15_lp2_step  (N n : Nat) (x0 : D) (x1 : Int) (v5 : Int) : t15_lp2 Try.prog Try.f15 N (n + 1) x0 x1 v5 =
  bif ((decide (v5 < ((elemsD x0).length : Int))) == true) then
    bif (decide (0 ≤ v5) && decide (v5 < ((elemsD x0).length : Int))) then
      bif (((intD (fieldD (rankD (elemsD ((elemsD x0).getD (v5).toNat .nil)) x1) 0)) == (intD (fieldD (rankD (elemsD ((elemsD x0).getD 0 .nil)) x1) 0))) && (((intD (fieldD (rankD (elemsD ((elemsD x0).getD (v5).toNat .nil)) x1) 1)) == (intD (fieldD (rankD (elemsD ((elemsD x0).getD 0 .nil)) x1) 1))) && true)) then
        t15_lp2 Try.prog Try.f15 N n x0 x1 (IntKind.wrap .i64 (v5 + 1))
      else some (dat 3 (.lit (.int .i64 v5)))
    else none
  else some (dat 3 (.lit (.int .i64 v5))) := by kernel_rfl
theorem t15 (N : Nat) (x0 : D) (x1 : Int) : evFn Try.prog (envR B1 [] [] []) t15_h N Try.f15 [dat 23 x0, dat 3 (.lit (.int .i64 x1))] =
  bif (decide (0 ≤ (0 : Int)) && decide ((0 : Int) < ((elemsD x0).length : Int))) then
    t15_lp2 Try.prog Try.f15 N N x0 x1 1
  else none := by kernel_rfl

/- roadbook/bag.summedUp -/
def t16_h : Hints := fun i => if i = 3 then some ([0, 1, 2, 4, 5, 6, 8, 9, 10, 11, 12, 13, 14, 15, 16, 17, 18, 19, 20, 21, 25, 26, 27, 28, 29, 30, 31, 32, 33, 34, 35, 36, 37, 38, 39], [3, 37, 900000], []) else none
def t16_lp3 (P : Program) (fn : Func) (N n : Nat) (x0 : D) (x1 : Int) (x2 : D) (v7 : List D) (v24 : Int) : Option AV := evLoop (preL t16_h (sub [1, 1, 0, 1, 0, 0] (bodyOf fn))) (evCode P (envR B1 [] [] []) t16_h N (sub [1, 1, 0, 1, 0, 0] (bodyOf fn))) n ⟨[dead, dead, dead, bxp 3 25, dead, dead, dead, ful 32 (.slice v7 []), dead, dead, dead, dead, dead, dead, dead, dead, dead, dead, dead, dead, dead, dead, dat 22 x2, dat 3 (.lit (.int .i64 ((elemsD x2).length : Int))), dat 3 (.lit (.int .i64 v24)), dead, dead, dead, dead, dead, dead, dead, dead, dead, dead, dead, dead, dead, dead, dead], lookB [(3, some ⟨25, x0, 0, none⟩), (37, none), (900000, none)]⟩ (blockK 0 (seqC P (envR B1 [] [] []) t16_h N (sub [1, 1, 1] (bodyOf fn)) (finK P fn) ))
def t16_lp3b (P : Program) (fn : Func) (N n : Nat) (x0 : D) (x1 : Int) (x2 : D) (v24 : Int) (b37 : List D) : Option AV := evLoop (preL t16_h (sub [1, 1, 0, 1, 0, 0] (bodyOf fn))) (evCode P (envR B1 [] [] []) t16_h N (sub [1, 1, 0, 1, 0, 0] (bodyOf fn))) n ⟨[dead, dead, dead, bxp 3 25, dead, dead, dead, bxp 37 32, dead, dead, dead, dead, dead, dead, dead, dead, dead, dead, dead, dead, dead, dead, dat 22 x2, dat 3 (.lit (.int .i64 ((elemsD x2).length : Int))), dat 3 (.lit (.int .i64 v24)), dead, dead, dead, dead, dead, dead, dead, dead, dead, dead, dead, dead, dead, dead, dead], lookB [(3, some ⟨25, x0, 0, none⟩), (37, some ⟨32, .slice b37 [], 2, none⟩), (900000, none)]⟩ (blockK 0 (seqC P (envR B1 [] [] []) t16_h N (sub [1, 1, 1] (bodyOf fn)) (finK P fn) ))
theorem t16_lp3b_step  (N n : Nat) (x0 : D) (x1 : Int) (x2 : D) (v24 : Int) (b37 : List D) : t16_lp3b Try.prog Try.f16 N (n + 1) x0 x1 x2 v24 b37 =
  bif decide (v24 < ((elemsD x2).length : Int)) then
    bif (decide (0 ≤ v24) && decide (v24 < ((elemsD x2).length : Int))) then
      bif colOK (bRows x0) (Lib.idxOf ((elemsD (fieldD x0 0)).map intD) (intD ((elemsD x2).getD (v24).toNat .nil))) then
        bif decide ((b37).length + 1 ≤ 2147483648) then
          t16_lp3b Try.prog Try.f16 N n x0 x1 x2 (IntKind.wrap .i64 (v24 + 1)) (b37 ++ [sumD (columnL (bRows x0) (Lib.idxOf ((elemsD (fieldD x0 0)).map intD) (intD ((elemsD x2).getD (v24).toNat .nil))))])
        else none
      else none
    else none
  else some (dat 32 (.slice b37 [])) := by kernel_rfl
theorem t16_lp3_step  (N n : Nat) (x0 : D) (x1 : Int) (x2 : D) (v7 : List D) (v24 : Int) : t16_lp3 Try.prog Try.f16 N (n + 1) x0 x1 x2 v7 v24 =
  bif decide (v24 < ((elemsD x2).length : Int)) then
    bif (decide (0 ≤ v24) && decide (v24 < ((elemsD x2).length : Int))) then
      bif colOK (bRows x0) (Lib.idxOf ((elemsD (fieldD x0 0)).map intD) (intD ((elemsD x2).getD (v24).toNat .nil))) then
        bif decide ((v7).length + 1 ≤ 2147483648) then
          t16_lp3b Try.prog Try.f16 N n x0 x1 x2 (IntKind.wrap .i64 (v24 + 1)) (v7 ++ [sumD (columnL (bRows x0) (Lib.idxOf ((elemsD (fieldD x0 0)).map intD) (intD ((elemsD x2).getD (v24).toNat .nil))))])
        else none
      else none
    else none
  else some (dat 32 (.slice v7 [])) := by kernel_rfl
theorem t16 (N : Nat) (x0 : D) (x1 : Int) (x2 : D) : evFn Try.prog (envR B1 [] [] []) t16_h N Try.f16 [dat 25 x0, dat 3 (.lit (.int .i64 x1)), dat 22 x2] =
  bif (decide (0 ≤ (0 : Int)) && decide ((0 : Int) < ((elemsD (fieldD x0 1)).length : Int))) then
    bif (decide (0 ≤ x1) && decide (x1 < ((elemsD ((elemsD (fieldD x0 1)).getD 0 .nil)).length : Int))) then
      t16_lp3 Try.prog Try.f16 N N x0 x1 x2 [(elemsD ((elemsD (fieldD x0 1)).getD 0 .nil)).getD (x1).toNat .nil, .agg [.lit (.int .i64 0), .lit (.int .i64 ((elemsD (fieldD x0 1)).length : Int))]] 0
    else none
  else none := by kernel_rfl

end Go.Proofs.Ytjofcicaoofijaa
