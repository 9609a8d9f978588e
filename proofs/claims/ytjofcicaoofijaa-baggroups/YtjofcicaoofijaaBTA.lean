/- What the evaluator comes to, function by function: by the kernel. Nothing here is trusted. -/
import Derived.Test.YtjofcicaoofijaaBD
namespace Go.Proofs.Ytjofcicaoofijaa
open Go.Ev
set_option linter.unusedVariables false
/- roadbook/roadbooklaw03.BagGroups -/
def t3_h : Hints := fun i => if i = 11 then some ([0, 4, 5, 6, 7, 8, 10, 11, 12, 15, 16, 17, 18, 19, 20, 21, 22, 23, 24, 25, 26, 27, 28, 29, 30, 31, 32, 33, 34, 35, 36, 37, 38, 39, 40, 41, 42, 43, 44, 45, 46, 47, 48, 49, 50, 51, 52, 53, 54, 55, 56, 57, 58, 59, 60, 61, 62, 63, 64, 65, 66, 67, 68, 69, 70, 71, 72, 73, 74, 75, 76, 77, 78, 79, 80, 81, 82, 83, 84, 85, 86, 87, 88, 89, 90, 91, 92, 93, 94, 95, 96, 97, 98, 99, 100, 101, 102, 103, 104, 105, 106, 107, 108, 109, 110, 111, 112, 113, 114, 115, 116, 117, 118, 119, 120, 121, 122, 123, 124, 125, 126, 127, 128, 129, 130, 131], [3, 9], []) else none
def t3_lp11 (P : Program) (fn : Func) (N n : Nat) (x0 : D) (x1 : Int) (x2 : D) (v13 : Int) (v14 : Int) : Option AV := evLoop (preL t3_h (sub [1, 1, 1, 1, 1, 1, 1, 1, 0, 1, 0, 0] (bodyOf fn))) (evCode P (envR B7 H7 R3 []) t3_h N (sub [1, 1, 1, 1, 1, 1, 1, 1, 0, 1, 0, 0] (bodyOf fn))) n ⟨[dead, dat 3 (.lit (.int .i64 x1)), dat 22 x2, bxp 3 25, dead, dead, dead, dead, dead, bxp 9 25, dead, dead, dead, dat 3 (.lit (.int .i64 v13)), dat 3 (.lit (.int .i64 v14)), dead, dead, dead, dead, dead, dead, dead, dead, dead, dead, dead, dead, dead, dead, dead, dead, dead, dead, dead, dead, dead, dead, dead, dead, dead, dead, dead, dead, dead, dead, dead, dead, dead, dead, dead, dead, dead, dead, dead, dead, dead, dead, dead, dead, dead, dead, dead, dead, dead, dead, dead, dead, dead, dead, dead, dead, dead, dead, dead, dead, dead, dead, dead, dead, dead, dead, dead, dead, dead, dead, dead, dead, dead, dead, dead, dead, dead, dead, dead, dead, dead, dead, dead, dead, dead, dead, dead, dead, dead, dead, dead, dead, dead, dead, dead, dead, dead, dead, dead, dead, dead, dead, dead, dead, dead, dead, dead, dead, dead, dead, dead, dead, dead, dead, dead, dead, dead], lookB [(3, some ⟨25, x0, 0, none⟩), (9, some ⟨25, groupBag x0 x1 (elemsD x2), 0, none⟩)]⟩ (blockK 0 (seqC P (envR B7 H7 R3 []) t3_h N (sub [1, 1, 1, 1, 1, 1, 1, 1, 1] (bodyOf fn)) (finK P fn) ))
theorem t3_lp11_step  (N n : Nat) (x0 : D) (x1 : Int) (x2 : D) (v13 : Int) (v14 : Int) : t3_lp11 Try.prog Try.f3 N (n + 1) x0 x1 x2 v13 v14 =
  bif decide (v14 < ((elemsD (fieldD (groupBag x0 x1 (elemsD x2)) 1)).length : Int)) then
    bif (decide (0 ≤ v14) && decide (v14 < ((elemsD (fieldD (groupBag x0 x1 (elemsD x2)) 1)).length : Int))) then
      bif ((((elemsD ((elemsD (fieldD (groupBag x0 x1 (elemsD x2)) 1)).getD (v14).toNat .nil)).length : Int) != (IntKind.wrap .i64 (2 + ((elemsD x2).length : Int)))) == false) then
        bif (decide (0 ≤ v14) && decide (v14 < ((elemsD (fieldD (groupBag x0 x1 (elemsD x2)) 1)).length : Int))) then
          bif (decide (0 ≤ (1 : Int)) && decide ((1 : Int) < ((elemsD ((elemsD (fieldD (groupBag x0 x1 (elemsD x2)) 1)).getD (v14).toNat .nil)).length : Int))) then
            bif ((decide ((intD (fieldD ((elemsD ((elemsD (fieldD (groupBag x0 x1 (elemsD x2)) 1)).getD (v14).toNat .nil)).getD 1 .nil) 1)) < 1)) == false) then
              bif ((decide (v14 > 0)) == true) then
                bif (decide (0 ≤ v14) && decide (v14 < ((elemsD (fieldD (groupBag x0 x1 (elemsD x2)) 1)).length : Int))) then
                  bif (decide (0 ≤ (0 : Int)) && decide ((0 : Int) < ((elemsD ((elemsD (fieldD (groupBag x0 x1 (elemsD x2)) 1)).getD (v14).toNat .nil)).length : Int))) then
                    bif (decide (0 ≤ (IntKind.wrap .i64 (v14 - 1))) && decide ((IntKind.wrap .i64 (v14 - 1)) < ((elemsD (fieldD (groupBag x0 x1 (elemsD x2)) 1)).length : Int))) then
                      bif (decide (0 ≤ (0 : Int)) && decide ((0 : Int) < ((elemsD ((elemsD (fieldD (groupBag x0 x1 (elemsD x2)) 1)).getD (IntKind.wrap .i64 (v14 - 1)).toNat .nil)).length : Int))) then
                        bif (((intD (fieldD ((elemsD ((elemsD (fieldD (groupBag x0 x1 (elemsD x2)) 1)).getD (v14).toNat .nil)).getD 0 .nil) 0)) == (intD (fieldD ((elemsD ((elemsD (fieldD (groupBag x0 x1 (elemsD x2)) 1)).getD (IntKind.wrap .i64 (v14 - 1)).toNat .nil)).getD 0 .nil) 0))) && (((intD (fieldD ((elemsD ((elemsD (fieldD (groupBag x0 x1 (elemsD x2)) 1)).getD (v14).toNat .nil)).getD 0 .nil) 1)) == (intD (fieldD ((elemsD ((elemsD (fieldD (groupBag x0 x1 (elemsD x2)) 1)).getD (IntKind.wrap .i64 (v14 - 1)).toNat .nil)).getD 0 .nil) 1))) && true)) then
                          some (dat 4 (.lit (.bool false)))
                        else bif (decide (0 ≤ v14) && decide (v14 < ((elemsD (fieldD (groupBag x0 x1 (elemsD x2)) 1)).length : Int))) then
                            bif (decide (0 ≤ (1 : Int)) && decide ((1 : Int) < ((elemsD ((elemsD (fieldD (groupBag x0 x1 (elemsD x2)) 1)).getD (v14).toNat .nil)).length : Int))) then
                              t3_lp11 Try.prog Try.f3 N n x0 x1 x2 (IntKind.wrap .i64 (v13 + (intD (fieldD ((elemsD ((elemsD (fieldD (groupBag x0 x1 (elemsD x2)) 1)).getD (v14).toNat .nil)).getD 1 .nil) 1)))) (IntKind.wrap .i64 (v14 + 1))
                            else none
                          else none
                      else none
                    else none
                  else none
                else none
              else bif (decide (0 ≤ v14) && decide (v14 < ((elemsD (fieldD (groupBag x0 x1 (elemsD x2)) 1)).length : Int))) then
                  bif (decide (0 ≤ (1 : Int)) && decide ((1 : Int) < ((elemsD ((elemsD (fieldD (groupBag x0 x1 (elemsD x2)) 1)).getD (v14).toNat .nil)).length : Int))) then
                    t3_lp11 Try.prog Try.f3 N n x0 x1 x2 (IntKind.wrap .i64 (v13 + (intD (fieldD ((elemsD ((elemsD (fieldD (groupBag x0 x1 (elemsD x2)) 1)).getD (v14).toNat .nil)).getD 1 .nil) 1)))) (IntKind.wrap .i64 (v14 + 1))
                  else none
                else none
            else some (dat 4 (.lit (.bool false)))
          else none
        else none
      else some (dat 4 (.lit (.bool false)))
    else none
  else bif ((v13 == ((elemsD (fieldD x0 1)).length : Int)) == true) then
      some (dat 4 (.lit (.bool (sortedB (groupBag x0 x1 (elemsD x2)) x1))))
    else some (dat 4 (.lit (.bool false))) := by kernel_rfl
theorem t3 (N : Nat) (x0 : D) (x1 : Int) (x2 : D) : evFn Try.prog (envR B7 H7 R3 []) t3_h N Try.f3 [dat 25 x0, dat 3 (.lit (.int .i64 x1)), dat 22 x2] =
  bif ((!(fewBagB x0 60)) == false) then
    bif decide (((elemsD x2).length : Int) > 20) then
      some (dat 4 (.lit (.bool true)))
    else bif sortOK x0 then
        bif ((!((groupOK x0 x1 (elemsD x2)) == (groupOK (sortBag x0 x1) x1 (elemsD x2)))) == false) then
          bif ((!(likeB (groupBag x0 x1 (elemsD x2)) (groupBag (sortBag x0 x1) x1 (elemsD x2)))) == false) then
            bif (!(groupOK x0 x1 (elemsD x2))) then
              some (dat 4 (.lit (.bool ((groupOK x0 x1 (elemsD x2)) == (groupOK (sortBag x0 x1) x1 (elemsD x2))))))
            else t3_lp11 Try.prog Try.f3 N N x0 x1 x2 0 0
          else some (dat 4 (.lit (.bool ((groupOK x0 x1 (elemsD x2)) == (groupOK (sortBag x0 x1) x1 (elemsD x2))))))
        else some (dat 4 (.lit (.bool ((groupOK x0 x1 (elemsD x2)) == (groupOK (sortBag x0 x1) x1 (elemsD x2))))))
      else none
  else some (dat 4 (.lit (.bool true))) := by kernel_rfl

end Go.Proofs.Ytjofcicaoofijaa
