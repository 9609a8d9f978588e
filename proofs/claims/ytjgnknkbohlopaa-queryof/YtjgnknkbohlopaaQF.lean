/- QueryOf: a set's expressions are those of a greater one; what is new of two sets is not own of either; the set of one that has two parts is that of both. Proved for every world, every order, every argument that the statement takes. -/
import Derived.Test.YtjgnknkbohlopaaQE
import Derived.Test.YtjgnknkbohlopaaV3
import Derived.WalkKit
import Derived.ProofKit
import Derived.OpenShut
import Derived.ShutString
import Derived.ChangeOld
import Derived.Below
namespace Go.Proofs.Ytjgnknkbohlopaa
namespace X
open Go.Ev
set_option linter.unusedVariables false
/- roadbook/roadbooklaw05.QueryOf -/
def t7_h : Hints := fun i => if i = 10 then some ([0, 1, 2, 3, 4, 6, 7, 8, 9, 10, 16, 17, 18, 19, 20, 21, 22, 23, 24, 25, 26, 27, 28, 29, 30, 31, 32, 33, 34, 35, 36, 37, 38, 39, 40, 41, 42, 43, 44, 45, 46, 47, 48, 49, 50, 51, 52, 53, 54, 55, 56, 57, 58, 59, 60, 61, 62, 63, 64, 65, 66, 67, 68, 69, 70, 71, 72, 73, 74, 75, 76, 77, 78, 79, 80, 81, 82, 83, 84, 85, 86, 87, 88, 89, 90, 91, 92, 93, 94, 95, 96, 97, 98, 99, 100, 101, 102, 103, 104, 105, 106, 107, 108, 109, 110, 111, 112, 113, 114, 115, 116, 117, 118, 119, 120, 121, 122, 123, 124, 125, 126, 127, 128, 129, 130, 131, 132, 133, 134, 135, 136, 137, 138], [5], []) else if i = 13 then some ([0, 1, 2, 3, 4, 6, 7, 8, 9, 10, 17, 18, 19, 20, 21, 22, 23, 24, 25, 26, 27, 28, 29, 30, 31, 32, 33, 34, 35, 36, 37, 38, 39, 40, 41, 42, 43, 44, 45, 46, 47, 48, 49, 50, 51, 52, 53, 54, 55, 56, 57, 58, 59, 60, 61, 62, 63, 64, 65, 66, 67, 68, 69, 70, 71, 72, 73, 74, 75, 76, 77, 78, 79, 80, 81, 82, 83, 84, 85, 86, 87, 88, 89, 90, 91, 92, 93, 94, 95, 96, 97, 98, 99, 100, 101, 102, 103, 104, 105, 106, 107, 108, 109, 110, 111, 112, 113, 114, 115, 116, 117, 118, 119, 120, 121, 122, 123, 124, 125, 126, 127, 128, 129, 130, 131, 132, 133, 134, 135, 136, 137, 138], [5], []) else if i = 18 then some ([0, 1, 2, 3, 4, 6, 7, 8, 9, 10, 16, 18, 19, 20, 21, 22, 23, 24, 25, 26, 27, 28, 29, 30, 31, 32, 33, 34, 35, 36, 37, 38, 39, 40, 41, 42, 43, 44, 45, 46, 47, 48, 49, 50, 51, 52, 53, 54, 55, 56, 57, 58, 59, 60, 61, 62, 63, 64, 65, 66, 67, 68, 69, 70, 71, 72, 73, 74, 75, 76, 77, 78, 79, 80, 81, 82, 83, 84, 85, 86, 87, 88, 89, 90, 91, 92, 93, 94, 95, 96, 97, 98, 99, 100, 101, 102, 103, 104, 105, 106, 107, 108, 109, 110, 111, 112, 113, 114, 115, 116, 117, 118, 119, 120, 121, 122, 123, 124, 125, 126, 127, 128, 129, 130, 131, 132, 133, 134, 135, 136, 137, 138], [5], []) else if i = 22 then some ([0, 1, 2, 3, 4, 6, 7, 8, 9, 10, 16, 19, 20, 21, 22, 23, 24, 25, 26, 27, 28, 29, 30, 31, 32, 33, 34, 35, 36, 37, 38, 39, 40, 41, 42, 43, 44, 45, 46, 47, 48, 49, 50, 51, 52, 53, 54, 55, 56, 57, 58, 59, 60, 61, 62, 63, 64, 65, 66, 67, 68, 69, 70, 71, 72, 73, 74, 75, 76, 77, 78, 79, 80, 81, 82, 83, 84, 85, 86, 87, 88, 89, 90, 91, 92, 93, 94, 95, 96, 97, 98, 99, 100, 101, 102, 103, 104, 105, 106, 107, 108, 109, 110, 111, 112, 113, 114, 115, 116, 117, 118, 119, 120, 121, 122, 123, 124, 125, 126, 127, 128, 129, 130, 131, 132, 133, 134, 135, 136, 137, 138], [5], []) else none
def t7_lp10 (P : Program) (fn : Func) (N n : Nat) (x0 : D) (x1 : D) (x2 : Int) (x3 : Int) (v14 : Int) (v15 : Int) : Option AV := evLoop (preL t7_h (sub [1, 1, 1, 1, 1, 1, 1, 1, 0, 1, 0, 0] (bodyOf fn))) (evCode P (envR Q9 [] [] []) t7_h N (sub [1, 1, 1, 1, 1, 1, 1, 1, 0, 1, 0, 0] (bodyOf fn))) n ⟨[dead, dead, dead, dead, dead, bxp 5 28, dead, dead, dead, dead, dead, dat 25 (.slice (ownL x1 x2) []), dat 25 (.slice (ownL x1 (orI .i64 x2 x3)) []), dat 25 (.slice (newL x1 x2 x3) []), dat 3 (.lit (.int .i64 v14)), dat 3 (.lit (.int .i64 v15)), dead, dead, dead, dead, dead, dead, dead, dead, dead, dead, dead, dead, dead, dead, dead, dead, dead, dead, dead, dead, dead, dead, dead, dead, dead, dead, dead, dead, dead, dead, dead, dead, dead, dead, dead, dead, dead, dead, dead, dead, dead, dead, dead, dead, dead, dead, dead, dead, dead, dead, dead, dead, dead, dead, dead, dead, dead, dead, dead, dead, dead, dead, dead, dead, dead, dead, dead, dead, dead, dead, dead, dead, dead, dead, dead, dead, dead, dead, dead, dead, dead, dead, dead, dead, dead, dead, dead, dead, dead, dead, dead, dead, dead, dead, dead, dead, dead, dead, dead, dead, dead, dead, dead, dead, dead, dead, dead, dead, dead, dead, dead, dead, dead, dead, dead, dead, dead, dead, dead, dead, dead, dead, dead], lookB [(5, some ⟨28, x1, 0, none⟩)]⟩ (blockK 0 (seqC P (envR Q9 [] [] []) t7_h N (sub [1, 1, 1, 1, 1, 1, 1, 1, 1] (bodyOf fn)) (finK P fn) ))
def t7_lp13 (P : Program) (fn : Func) (N n : Nat) (x0 : D) (x1 : D) (x2 : Int) (x3 : Int) (v14 : Int) (v15 : Int) (m0 : Nat) (v14q : Int) (v16 : Int) : Option AV := evLoop (preL t7_h (sub [1, 1, 1, 1, 1, 1, 1, 1, 0, 1, 0, 0, 1, 0, 0, 0, 1, 0, 0] (bodyOf fn))) (evCode P (envR Q9 [] [] []) t7_h N (sub [1, 1, 1, 1, 1, 1, 1, 1, 0, 1, 0, 0, 1, 0, 0, 0, 1, 0, 0] (bodyOf fn))) n ⟨[dead, dead, dead, dead, dead, bxp 5 28, dead, dead, dead, dead, dead, dat 25 (.slice (ownL x1 x2) []), dat 25 (.slice (ownL x1 (orI .i64 x2 x3)) []), dat 25 (.slice (newL x1 x2 x3) []), dat 3 (.lit (.int .i64 v14q)), dat 3 (.lit (.int .i64 v15)), dat 3 (.lit (.int .i64 v16)), dead, dead, dead, dead, dead, dead, dead, dead, dead, dead, dead, dead, dead, dead, dead, dead, dead, dead, dead, dead, dead, dead, dead, dead, dead, dead, dead, dead, dead, dead, dead, dead, dead, dead, dead, dead, dead, dead, dead, dead, dead, dead, dead, dead, dead, dead, dead, dead, dead, dead, dead, dead, dead, dead, dead, dead, dead, dead, dead, dead, dead, dead, dead, dead, dead, dead, dead, dead, dead, dead, dead, dead, dead, dead, dead, dead, dead, dead, dead, dead, dead, dead, dead, dead, dead, dead, dead, dead, dead, dead, dead, dead, dead, dead, dead, dead, dead, dead, dead, dead, dead, dead, dead, dead, dead, dead, dead, dead, dead, dead, dead, dead, dead, dead, dead, dead, dead, dead, dead, dead, dead, dead], lookB [(5, some ⟨28, x1, 0, none⟩)]⟩ (blockK 2 (seqC P (envR Q9 [] [] []) t7_h N (sub [1, 1, 1, 1, 1, 1, 1, 1, 0, 1, 0, 0, 1, 0, 0, 1] (bodyOf fn)) (blockK 1 (seqC P (envR Q9 [] [] []) t7_h N (sub [1, 1, 1, 1, 1, 1, 1, 1, 0, 1, 0, 0, 1, 1] (bodyOf fn)) (seqK (fun s => evLoop (preL t7_h (sub [1, 1, 1, 1, 1, 1, 1, 1, 0, 1, 0, 0] (bodyOf fn))) (evCode P (envR Q9 [] [] []) t7_h N (sub [1, 1, 1, 1, 1, 1, 1, 1, 0, 1, 0, 0] (bodyOf fn))) m0 ((preL t7_h (sub [1, 1, 1, 1, 1, 1, 1, 1, 0, 1, 0, 0] (bodyOf fn))) s) (blockK 0 (seqC P (envR Q9 [] [] []) t7_h N (sub [1, 1, 1, 1, 1, 1, 1, 1, 1] (bodyOf fn)) (finK P fn) ))) (blockK 0 (seqC P (envR Q9 [] [] []) t7_h N (sub [1, 1, 1, 1, 1, 1, 1, 1, 1] (bodyOf fn)) (finK P fn) ))) )) ))
def t7_lp18 (P : Program) (fn : Func) (N n : Nat) (x0 : D) (x1 : D) (x2 : Int) (x3 : Int) (v14 : Int) (v15 : Int) (m0 : Nat) (v14q : Int) (v16 : Int) (m1 : Nat) (v17 : Int) : Option AV := evLoop (preL t7_h (sub [1, 1, 1, 1, 1, 1, 1, 1, 0, 1, 0, 0, 1, 0, 0, 1, 1, 0, 0] (bodyOf fn))) (evCode P (envR Q9 [] [] []) t7_h N (sub [1, 1, 1, 1, 1, 1, 1, 1, 0, 1, 0, 0, 1, 0, 0, 1, 1, 0, 0] (bodyOf fn))) n ⟨[dead, dead, dead, dead, dead, bxp 5 28, dead, dead, dead, dead, dead, dat 25 (.slice (ownL x1 x2) []), dat 25 (.slice (ownL x1 (orI .i64 x2 x3)) []), dat 25 (.slice (newL x1 x2 x3) []), dat 3 (.lit (.int .i64 v14q)), dat 3 (.lit (.int .i64 v15)), dead, dat 3 (.lit (.int .i64 v17)), dead, dead, dead, dead, dead, dead, dead, dead, dead, dead, dead, dead, dead, dead, dead, dead, dead, dead, dead, dead, dead, dead, dead, dead, dead, dead, dead, dead, dead, dead, dead, dead, dead, dead, dead, dead, dead, dead, dead, dead, dead, dead, dead, dead, dead, dead, dead, dead, dead, dead, dead, dead, dead, dead, dead, dead, dead, dead, dead, dead, dead, dead, dead, dead, dead, dead, dead, dead, dead, dead, dead, dead, dead, dead, dead, dead, dead, dead, dead, dead, dead, dead, dead, dead, dead, dead, dead, dead, dead, dead, dead, dead, dead, dead, dead, dead, dead, dead, dead, dead, dead, dead, dead, dead, dead, dead, dead, dead, dead, dead, dead, dead, dead, dead, dead, dead, dead, dead, dead, dead, dead], lookB [(5, some ⟨28, x1, 0, none⟩)]⟩ (blockK 4 (blockK 1 (seqC P (envR Q9 [] [] []) t7_h N (sub [1, 1, 1, 1, 1, 1, 1, 1, 0, 1, 0, 0, 1, 1] (bodyOf fn)) (seqK (fun s => evLoop (preL t7_h (sub [1, 1, 1, 1, 1, 1, 1, 1, 0, 1, 0, 0] (bodyOf fn))) (evCode P (envR Q9 [] [] []) t7_h N (sub [1, 1, 1, 1, 1, 1, 1, 1, 0, 1, 0, 0] (bodyOf fn))) m0 ((preL t7_h (sub [1, 1, 1, 1, 1, 1, 1, 1, 0, 1, 0, 0] (bodyOf fn))) s) (blockK 0 (seqC P (envR Q9 [] [] []) t7_h N (sub [1, 1, 1, 1, 1, 1, 1, 1, 1] (bodyOf fn)) (finK P fn) ))) (blockK 0 (seqC P (envR Q9 [] [] []) t7_h N (sub [1, 1, 1, 1, 1, 1, 1, 1, 1] (bodyOf fn)) (finK P fn) ))) )))
def t7_lp22 (P : Program) (fn : Func) (N n : Nat) (x0 : D) (x1 : D) (x2 : Int) (x3 : Int) (v14 : Int) (v15 : Int) (m0 : Nat) (v14q : Int) (v16 : Int) (m1 : Nat) (v17 : Int) (m2 : Nat) (v18 : Int) : Option AV := evLoop (preL t7_h (sub [1, 1, 1, 1, 1, 1, 1, 1, 0, 1, 0, 0, 1, 0, 0, 1, 1, 0, 0, 1, 0, 0, 1, 0, 1, 0, 0] (bodyOf fn))) (evCode P (envR Q9 [] [] []) t7_h N (sub [1, 1, 1, 1, 1, 1, 1, 1, 0, 1, 0, 0, 1, 0, 0, 1, 1, 0, 0, 1, 0, 0, 1, 0, 1, 0, 0] (bodyOf fn))) n ⟨[dead, dead, dead, dead, dead, bxp 5 28, dead, dead, dead, dead, dead, dat 25 (.slice (ownL x1 x2) []), dat 25 (.slice (ownL x1 (orI .i64 x2 x3)) []), dat 25 (.slice (newL x1 x2 x3) []), dat 3 (.lit (.int .i64 v14q)), dat 3 (.lit (.int .i64 v15)), dead, dat 3 (.lit (.int .i64 v17)), dat 3 (.lit (.int .i64 v18)), dead, dead, dead, dead, dead, dead, dead, dead, dead, dead, dead, dead, dead, dead, dead, dead, dead, dead, dead, dead, dead, dead, dead, dead, dead, dead, dead, dead, dead, dead, dead, dead, dead, dead, dead, dead, dead, dead, dead, dead, dead, dead, dead, dead, dead, dead, dead, dead, dead, dead, dead, dead, dead, dead, dead, dead, dead, dead, dead, dead, dead, dead, dead, dead, dead, dead, dead, dead, dead, dead, dead, dead, dead, dead, dead, dead, dead, dead, dead, dead, dead, dead, dead, dead, dead, dead, dead, dead, dead, dead, dead, dead, dead, dead, dead, dead, dead, dead, dead, dead, dead, dead, dead, dead, dead, dead, dead, dead, dead, dead, dead, dead, dead, dead, dead, dead, dead, dead, dead, dead], lookB [(5, some ⟨28, x1, 0, none⟩)]⟩ (blockK 6 (blockK 5 (seqC P (envR Q9 [] [] []) t7_h N (sub [1, 1, 1, 1, 1, 1, 1, 1, 0, 1, 0, 0, 1, 0, 0, 1, 1, 0, 0, 1, 1] (bodyOf fn)) (seqK (fun s => evLoop (preL t7_h (sub [1, 1, 1, 1, 1, 1, 1, 1, 0, 1, 0, 0, 1, 0, 0, 1, 1, 0, 0] (bodyOf fn))) (evCode P (envR Q9 [] [] []) t7_h N (sub [1, 1, 1, 1, 1, 1, 1, 1, 0, 1, 0, 0, 1, 0, 0, 1, 1, 0, 0] (bodyOf fn))) m2 ((preL t7_h (sub [1, 1, 1, 1, 1, 1, 1, 1, 0, 1, 0, 0, 1, 0, 0, 1, 1, 0, 0] (bodyOf fn))) s) (blockK 4 (blockK 1 (seqC P (envR Q9 [] [] []) t7_h N (sub [1, 1, 1, 1, 1, 1, 1, 1, 0, 1, 0, 0, 1, 1] (bodyOf fn)) (seqK (fun s => evLoop (preL t7_h (sub [1, 1, 1, 1, 1, 1, 1, 1, 0, 1, 0, 0] (bodyOf fn))) (evCode P (envR Q9 [] [] []) t7_h N (sub [1, 1, 1, 1, 1, 1, 1, 1, 0, 1, 0, 0] (bodyOf fn))) m0 ((preL t7_h (sub [1, 1, 1, 1, 1, 1, 1, 1, 0, 1, 0, 0] (bodyOf fn))) s) (blockK 0 (seqC P (envR Q9 [] [] []) t7_h N (sub [1, 1, 1, 1, 1, 1, 1, 1, 1] (bodyOf fn)) (finK P fn) ))) (blockK 0 (seqC P (envR Q9 [] [] []) t7_h N (sub [1, 1, 1, 1, 1, 1, 1, 1, 1] (bodyOf fn)) (finK P fn) ))) )))) (blockK 4 (blockK 1 (seqC P (envR Q9 [] [] []) t7_h N (sub [1, 1, 1, 1, 1, 1, 1, 1, 0, 1, 0, 0, 1, 1] (bodyOf fn)) (seqK (fun s => evLoop (preL t7_h (sub [1, 1, 1, 1, 1, 1, 1, 1, 0, 1, 0, 0] (bodyOf fn))) (evCode P (envR Q9 [] [] []) t7_h N (sub [1, 1, 1, 1, 1, 1, 1, 1, 0, 1, 0, 0] (bodyOf fn))) m0 ((preL t7_h (sub [1, 1, 1, 1, 1, 1, 1, 1, 0, 1, 0, 0] (bodyOf fn))) s) (blockK 0 (seqC P (envR Q9 [] [] []) t7_h N (sub [1, 1, 1, 1, 1, 1, 1, 1, 1] (bodyOf fn)) (finK P fn) ))) (blockK 0 (seqC P (envR Q9 [] [] []) t7_h N (sub [1, 1, 1, 1, 1, 1, 1, 1, 1] (bodyOf fn)) (finK P fn) ))) )))) )))
theorem t7_lp22_step (N n : Nat) (x0 : D) (x1 : D) (x2 : Int) (x3 : Int) (v14 : Int) (v15 : Int) (m0 : Nat) (v14q : Int) (v16 : Int) (m1 : Nat) (v17 : Int) (m2 : Nat) (v18 : Int) : t7_lp22 Try.prog Try.f7 N (n + 1) x0 x1 x2 x3 v14 v15 m0 v14q v16 m1 v17 m2 v18 =
  bif decide (v18 < ((ownL x1 x2).length : Int)) then
    bif (decide (0 ≤ v18) && decide (v18 < ((ownL x1 x2).length : Int))) then
      bif (decide (0 ≤ v17) && decide (v17 < ((newL x1 x2 x3).length : Int))) then
        bif ((intD ((ownL x1 x2).getD (v18).toNat .nil)) == (intD ((newL x1 x2 x3).getD (v17).toNat .nil))) then
          some (dat 4 (.lit (.bool false)))
        else t7_lp22 Try.prog Try.f7 N n x0 x1 x2 x3 v14 v15 m0 v14q v16 m1 v17 m2 (IntKind.wrap .i64 (v18 + 1))
      else none
    else none
  else t7_lp18 Try.prog Try.f7 N m2 x0 x1 x2 x3 v14 v15 m0 v14q v16 m1 (IntKind.wrap .i64 (v17 + 1)) := by kernel_rfl
theorem t7_lp18_step (N n : Nat) (x0 : D) (x1 : D) (x2 : Int) (x3 : Int) (v14 : Int) (v15 : Int) (m0 : Nat) (v14q : Int) (v16 : Int) (m1 : Nat) (v17 : Int) : t7_lp18 Try.prog Try.f7 N (n + 1) x0 x1 x2 x3 v14 v15 m0 v14q v16 m1 v17 =
  bif decide (v17 < ((newL x1 x2 x3).length : Int)) then
    bif (decide (0 ≤ v17) && decide (v17 < ((newL x1 x2 x3).length : Int))) then
      bif (decide (0 ≤ v15) && decide (v15 < ((ownL x1 (orI .i64 x2 x3)).length : Int))) then
        bif ((intD ((newL x1 x2 x3).getD (v17).toNat .nil)) == (intD ((ownL x1 (orI .i64 x2 x3)).getD (v15).toNat .nil))) then
          t7_lp22 Try.prog Try.f7 N N x0 x1 x2 x3 v14 v15 m0 v14q v16 m1 v17 n 0
        else t7_lp18 Try.prog Try.f7 N n x0 x1 x2 x3 v14 v15 m0 v14q v16 m1 (IntKind.wrap .i64 (v17 + 1))
      else none
    else none
  else t7_lp10 Try.prog Try.f7 N m0 x0 x1 x2 x3 v14q (IntKind.wrap .i64 (v15 + 1)) := by kernel_rfl
theorem t7_lp13_step (N n : Nat) (x0 : D) (x1 : D) (x2 : Int) (x3 : Int) (v14 : Int) (v15 : Int) (m0 : Nat) (v14q : Int) (v16 : Int) : t7_lp13 Try.prog Try.f7 N (n + 1) x0 x1 x2 x3 v14 v15 m0 v14q v16 =
  bif decide (v16 < ((ownL x1 x2).length : Int)) then
    bif (decide (0 ≤ v16) && decide (v16 < ((ownL x1 x2).length : Int))) then
      bif (decide (0 ≤ v15) && decide (v15 < ((ownL x1 (orI .i64 x2 x3)).length : Int))) then
        bif ((intD ((ownL x1 x2).getD (v16).toNat .nil)) == (intD ((ownL x1 (orI .i64 x2 x3)).getD (v15).toNat .nil))) then
          t7_lp13 Try.prog Try.f7 N n x0 x1 x2 x3 v14 v15 m0 (IntKind.wrap .i64 (v14q + 1)) (IntKind.wrap .i64 (v16 + 1))
        else t7_lp13 Try.prog Try.f7 N n x0 x1 x2 x3 v14 v15 m0 v14q (IntKind.wrap .i64 (v16 + 1))
      else none
    else none
  else t7_lp18 Try.prog Try.f7 N N x0 x1 x2 x3 v14 v15 m0 v14q v16 n 0 := by kernel_rfl
theorem t7_lp10_step (N n : Nat) (x0 : D) (x1 : D) (x2 : Int) (x3 : Int) (v14 : Int) (v15 : Int) : t7_lp10 Try.prog Try.f7 N (n + 1) x0 x1 x2 x3 v14 v15 =
  bif decide (v15 < ((ownL x1 (orI .i64 x2 x3)).length : Int)) then
    t7_lp13 Try.prog Try.f7 N N x0 x1 x2 x3 v14 v15 n v14 0
  else bif ((v14 != ((ownL x1 x2).length : Int)) == false) then
      bif decide (((elemsD (fieldD x1 1)).length : Int) < 2) then
        some (dat 4 (.lit (.bool (v14 == ((ownL x1 x2).length : Int)))))
      else bif (decide (0 ≤ (0 : Int)) && decide ((0 : Int) < ((elemsD (fieldD x1 1)).length : Int))) then
          bif (decide (0 ≤ (1 : Int)) && decide ((1 : Int) < ((elemsD (fieldD x1 1)).length : Int))) then
            bif ((!(mayE (.agg [.lit (.int .i64 8), .lit (.int .i64 0), .agg [.lit (.int .i64 0), .lit (.int .i64 0)], .slice [(elemsD (fieldD x1 1)).getD 0 .nil, (elemsD (fieldD x1 1)).getD 1 .nil] []]))) == false) then
              bif (decide (0 ≤ (0 : Int)) && decide ((0 : Int) < ((elemsD (fieldD x1 1)).length : Int))) then
                bif (decide (0 ≤ (1 : Int)) && decide ((1 : Int) < ((elemsD (fieldD x1 1)).length : Int))) then
                  some (dat 4 (.lit (.bool ((ofE (.agg [.lit (.int .i64 8), .lit (.int .i64 0), .agg [.lit (.int .i64 0), .lit (.int .i64 0)], .slice [(elemsD (fieldD x1 1)).getD 0 .nil, (elemsD (fieldD x1 1)).getD 1 .nil] []])) == (orI .i64 (ofE ((elemsD (fieldD x1 1)).getD 0 .nil)) (ofE ((elemsD (fieldD x1 1)).getD 1 .nil)))))))
                else none
              else none
            else some (dat 4 (.lit (.bool true)))
          else none
        else none
    else some (dat 4 (.lit (.bool (v14 == ((ownL x1 x2).length : Int))))) := by kernel_rfl
theorem t7 (N : Nat) (x0 : D) (x1 : D) (x2 : Int) (x3 : Int) : evFn Try.prog (envR Q9 [] [] []) t7_h N Try.f7 [dat 24 x0, dat 28 x1, dat 3 (.lit (.int .i64 x2)), dat 3 (.lit (.int .i64 x3))] =
  bif (!(fewQ fewB x0 x1)) then
    some (dat 4 (.lit (.bool true)))
  else bif decide ((qP x1).length ≤ 2147483647) then
      bif decide ((qP x1).length ≤ 2147483647) then
        bif decide ((qP x1).length ≤ 2147483647) then
          t7_lp10 Try.prog Try.f7 N N x0 x1 x2 x3 0 0
        else none
      else none
    else none := by kernel_rfl

end X
end Go.Proofs.Ytjgnknkbohlopaa

namespace Go.Proofs.Ytjgnknkbohlopaa
namespace X
open Go.Ev
set_option linter.unusedVariables false
set_option maxRecDepth 10000
set_option linter.unusedSimpArgs false

theorem own_len' (q : D) (a : Int) : (ownL q a).length ≤ (qP q).length := by
  unfold ownL
  rw [plc_len]
  exact List.countP_le_length
theorem of_22 {N m0 m1 m2 k : Nat} {c q : D} {a b v14 v15 v14q v16 : Int} (hP : (qP q).length ≤ 8) (hk : k < (newL q a b).length) (n : Nat) (hn : 8 < n) :
    t7_lp22 Try.prog Try.f7 N n c q a b v14 v15 m0 v14q v16 m1 (k : Int) m2 0 = t7_lp18 Try.prog Try.f7 N m2 c q a b v14 v15 m0 v14q v16 m1 (IntKind.wrap .i64 ((k : Int) + 1)) := by
  have hl := own_len' q a
  have := l_loop (fun n v => t7_lp22 Try.prog Try.f7 N n c q a b v14 v15 m0 v14q v16 m1 (k : Int) m2 v) (ownL q a).length (fun _ => false) none (t7_lp18 Try.prog Try.f7 N m2 c q a b v14 v15 m0 v14q v16 m1 (IntKind.wrap .i64 ((k : Int) + 1)))
    (fun n j hj => by
      rw [t7_lp22_step, l_idx hj, l_lt hj, cond_true, cond_true, l_idx hk, cond_true, Int.toNat_natCast, Int.toNat_natCast, own_fresh (b := b) (by rw [l_get hj]; exact List.getElem_mem hj) (by rw [l_get hk]; exact List.getElem_mem hk), cond_false, l_wrap (by unfold maxLen; omega) hj]
      rfl)
    (fun n => by rw [t7_lp22_step, l_ge (by omega), cond_false]) n 0 (Nat.zero_le _) (by omega)
  refine this.trans ?_
  rw [show (List.range' 0 ((ownL q a).length - 0)).any (fun _ => false) = false by simp, cond_false]
theorem of_18 {N m0 m1 i : Nat} {c q : D} {a b v14 v14q v16 : Int} (hN : 8 < N) (hP : (qP q).length ≤ 8) (hi : i < (ownL q (orI .i64 a b)).length) (n : Nat) (hn : 8 < n) :
    t7_lp18 Try.prog Try.f7 N n c q a b v14 (i : Int) m0 v14q v16 m1 0 = t7_lp10 Try.prog Try.f7 N m0 c q a b v14q (IntKind.wrap .i64 ((i : Int) + 1)) := by
  have hl := new_len q a b
  have := l_loop (fun n v => t7_lp18 Try.prog Try.f7 N n c q a b v14 (i : Int) m0 v14q v16 m1 v) (newL q a b).length (fun _ => false) none (t7_lp10 Try.prog Try.f7 N m0 c q a b v14q (IntKind.wrap .i64 ((i : Int) + 1)))
    (fun n k hk => by
      rw [t7_lp18_step, l_idx hk, l_lt hk, cond_true, cond_true, l_idx hi, cond_true, of_22 hP hk N hN, l_wrap (by unfold maxLen; omega) hk]
      cases (intD ((newL q a b).getD ((k : Int)).toNat .nil) == intD ((ownL q (orI .i64 a b)).getD ((i : Int)).toNat .nil)) <;> simp only [cond_true, cond_false])
    (fun n => by rw [t7_lp18_step, l_ge (by omega), cond_false]) n 0 (Nat.zero_le _) (by omega)
  refine this.trans ?_
  rw [show (List.range' 0 ((newL q a b).length - 0)).any (fun _ => false) = false by simp, cond_false]
theorem of_13 {N m0 i : Nat} {c q : D} {a b v14 : Int} (hN : 8 < N) (hP : (qP q).length ≤ 8) (hi : i < (ownL q (orI .i64 a b)).length) : ∀ (n j k : Nat), j ≤ (ownL q a).length → (ownL q a).length - j < n → k ≤ 1000 + j →
    t7_lp13 Try.prog Try.f7 N n c q a b v14 (i : Int) m0 (k : Int) (j : Int) =
      t7_lp10 Try.prog Try.f7 N m0 c q a b ((k + (((ownL q a).drop j).map intD).count (intD ((ownL q (orI .i64 a b)).getD i .nil)) : Nat) : Int) (IntKind.wrap .i64 ((i : Int) + 1))
  | 0, j, k, _, h, _ => by omega
  | n + 1, j, k, hj, h, hk => by
    have hl := own_len' q a
    rw [t7_lp13_step]
    by_cases hlt : j < (ownL q a).length
    · have hw : IntKind.wrap .i64 ((k : Int) + 1) = ((k + 1 : Nat) : Int) := by rw [l_wrapI (l_in (by omega) (by omega))]; rfl
      rw [l_idx hlt, l_lt hlt, cond_true, cond_true, l_idx hi, cond_true, Int.toNat_natCast, Int.toNat_natCast, l_get hlt, l_wrap (by unfold maxLen; omega) hlt, hw, List.drop_eq_getElem_cons hlt, List.map_cons, List.count_cons]
      cases he : (intD (ownL q a)[j] == intD ((ownL q (orI .i64 a b)).getD i .nil)) with
      | true =>
        rw [cond_true, of_13 hN hP hi n (j + 1) (k + 1) (by omega) (by omega) (by omega)]
        congr 2
        simp
        omega
      | false =>
        rw [cond_false, of_13 hN hP hi n (j + 1) k (by omega) (by omega) (by omega)]
        congr 2
    · rw [l_ge hlt, cond_false, of_18 hN hP hi N hN, List.drop_of_length_le (by omega)]
      simp
/-- The set of one that has two parts. -/
def bothE (x y : D) : D := .agg [.lit (.int .i64 8), .lit (.int .i64 0), .agg [.lit (.int .i64 0), .lit (.int .i64 0)], .slice [x, y] []]
theorem colsI_shift {p : D} (h : okK 6 p = true) : colsI 7 p = colsI 6 p := by unfold colsI; rw [cols_shift 6 p h]
theorem both_of {x y : D} (h : mayE (bothE x y) = true) : ofE (bothE x y) = orI .i64 (ofE x) (ofE y) := by
  obtain ⟨m1, k1⟩ := may_part h (p := x) (by show x ∈ [x, y]; simp)
  obtain ⟨m2, k2⟩ := may_part h (p := y) (by show y ∈ [x, y]; simp)
  have hc : ∀ z, z ∈ colsI 7 (bothE x y) ↔ z ∈ colsI 7 x ∨ z ∈ colsI 7 y := by
    intro z
    rw [colsI_succ, colsI_shift k1, colsI_shift k2, show (opI (bothE x y) == 1) = false from rfl, cond_false, List.nil_append, List.mem_flatMap]
    show (∃ p, p ∈ [x, y] ∧ z ∈ colsI 6 p) ↔ _
    simp
  have key : ∀ (e : D), mayE e = true → ∀ i : Nat, inS (ofE e) i = true ↔ ∃ z ∈ colsI 7 e, splitA z = (i : Int) := by
    intro e he i
    rw [inS_of, List.any_eq_true]
    constructor
    · rintro ⟨w, hw, hs⟩
      obtain ⟨z, rfl, _⟩ := colsE_in e w hw
      exact ⟨z, (mem_colsE he).1 hw, of_decide_eq_true hs⟩
    · rintro ⟨z, hz, hs⟩
      exact ⟨litI z, (mem_colsE he).2 hz, decide_eq_true hs⟩
  have r1 := of_in (bothE x y)
  refine set_ext (inR_iff.2 (by omega)) (wrap_inR _) fun i => ?_
  rw [Bool.eq_iff_iff, inS_or, Bool.or_eq_true, key _ h, key _ m1, key _ m2]
  constructor
  · rintro ⟨z, hz, hs⟩
    rcases (hc z).1 hz with hz | hz
    · exact .inl ⟨z, hz, hs⟩
    · exact .inr ⟨z, hz, hs⟩
  · rintro (⟨z, hz, hs⟩ | ⟨z, hz, hs⟩)
    · exact ⟨z, (hc z).2 (.inl hz), hs⟩
    · exact ⟨z, (hc z).2 (.inr hz), hs⟩
theorem of_end {N n : Nat} {c q : D} {a b : Int} : t7_lp10 Try.prog Try.f7 N (n + 1) c q a b ((ownL q a).length : Int) ((ownL q (orI .i64 a b)).length : Int) = some (dat 4 (.lit (.bool true))) := by
  rw [t7_lp10_step, l_ge (by omega), cond_false, l_nef rfl, beq_self_eq_true ((ownL q a).length : Int), beq_self_eq_true false, cond_true]
  by_cases h2 : ((elemsD (fieldD q 1)).length : Int) < 2
  · rw [dT h2]; rfl
  · rw [dF h2, dT (show (0 : Int) < ((elemsD (fieldD q 1)).length : Int) by omega), dT (show (1 : Int) < ((elemsD (fieldD q 1)).length : Int) by omega)]
    cases hm : mayE (bothE ((elemsD (fieldD q 1)).getD 0 .nil) ((elemsD (fieldD q 1)).getD 1 .nil)) with
    | false =>
      have hm' : mayE (.agg [.lit (.int .i64 8), .lit (.int .i64 0), .agg [.lit (.int .i64 0), .lit (.int .i64 0)], .slice [(elemsD (fieldD q 1)).getD 0 .nil, (elemsD (fieldD q 1)).getD 1 .nil] []]) = false := hm
      rw [hm']
      rfl
    | true =>
      have hm' : mayE (.agg [.lit (.int .i64 8), .lit (.int .i64 0), .agg [.lit (.int .i64 0), .lit (.int .i64 0)], .slice [(elemsD (fieldD q 1)).getD 0 .nil, (elemsD (fieldD q 1)).getD 1 .nil] []]) = true := hm
      have ho : ofE (.agg [.lit (.int .i64 8), .lit (.int .i64 0), .agg [.lit (.int .i64 0), .lit (.int .i64 0)], .slice [(elemsD (fieldD q 1)).getD 0 .nil, (elemsD (fieldD q 1)).getD 1 .nil] []]) = orI .i64 (ofE ((elemsD (fieldD q 1)).getD 0 .nil)) (ofE ((elemsD (fieldD q 1)).getD 1 .nil)) := both_of hm
      rw [hm', ho, beq_self_eq_true (orI .i64 _ _)]
      rfl
theorem of_10 {N : Nat} {c q : D} {a b : Int} (hN : 8 < N) (hP : (qP q).length ≤ 8) : ∀ (n i : Nat), i ≤ (ownL q (orI .i64 a b)).length → (ownL q (orI .i64 a b)).length - i < n →
    t7_lp10 Try.prog Try.f7 N n c q a b ((sumC ((ownL q a).map intD) (((ownL q (orI .i64 a b)).take i).map intD) : Nat) : Int) (i : Int) = some (dat 4 (.lit (.bool true)))
  | 0, i, _, h => by omega
  | n + 1, i, hi, h => by
    have hl := own_len' q a
    have hl2 := own_len' q (orI .i64 a b)
    by_cases hlt : i < (ownL q (orI .i64 a b)).length
    · have hs := sumC_le ((ownL q a).map intD) (((ownL q (orI .i64 a b)).take i).map intD)
      simp only [List.length_map, List.length_take] at hs
      have hs2 : (ownL q a).length * min i (ownL q (orI .i64 a b)).length ≤ 8 * 8 := Nat.mul_le_mul (by omega) (by omega)
      rw [t7_lp10_step, l_lt hlt, cond_true]
      have h13 := of_13 (N := N) (m0 := n) (c := c) (v14 := ((sumC ((ownL q a).map intD) (((ownL q (orI .i64 a b)).take i).map intD) : Nat) : Int)) hN hP hlt N 0 (sumC ((ownL q a).map intD) (((ownL q (orI .i64 a b)).take i).map intD)) (Nat.zero_le _) (by omega) (by omega)
      refine Eq.trans h13 ?_
      rw [List.drop_zero, ← sumC_take _ _ hlt, l_wrap (by unfold maxLen; omega) hlt]
      exact of_10 hN hP n (i + 1) (by omega) (by omega)
    · have : i = (ownL q (orI .i64 a b)).length := by omega
      subst this
      rw [List.take_length, own_sum]
      exact of_end
theorem k7 : FnOK Try.prog 7 Try.f7 := ⟨Try.func7, rfl, by kernel_rfl⟩
theorem lawOf {n0 n1 n2 n3 : Nat} {c q x2 x3 : D} (h0 : Ty Try.prog n0 24 c) (h1 : Ty Try.prog n1 28 q) (h2 : Ty Try.prog n2 3 x2) (h3 : Ty Try.prog n3 3 x3) :
    CallOK Try.prog 7 [dat 24 c, dat 28 q, dat 3 x2, dat 3 x3] (dat 4 (.lit (.bool true))) := by
  obtain ⟨a, rfl, _⟩ := ty3' h2
  obtain ⟨b, rfl, _⟩ := ty3' h3
  refine law_ok envQ9 k7 ((t7 20 c q a b).trans ?_)
  cases hf : fewQ fewB c q with
  | false => rfl
  | true =>
    have hP := (few_len hf).1
    have hl2 := own_len' q (orI .i64 a b)
    have lp := of_10 (N := 20) (c := c) (q := q) (a := a) (b := b) (by omega) hP 20 0 (Nat.zero_le _) (by omega)
    have lp : t7_lp10 Try.prog Try.f7 20 20 c q a b 0 0 = some (dat 4 (.lit (.bool true))) := lp
    rw [lp, dT (show (qP q).length ≤ 2147483647 by omega)]
    rfl

end X
end Go.Proofs.Ytjgnknkbohlopaa

namespace Go.Proofs.Ytjgnknkbohlopaa
open Go.Ev
open Go.ChangeShapes Go.WideShapes Go.ChangeAt Go.RowKit
set_option linter.unusedVariables false

namespace queryOfLaw

theorem own : ownKnob Try.prog.godebug = none := by kernel_rfl
theorem laidOut : laidOutB Try.prog = true := by kernel_rfl
theorem types : okTypes Try.prog [3, 25, 26, 40, 38, 22, 66, 24, 28] = true := by kernel_rfl

set_option maxRecDepth 100000 in
theorem lifted (os : Os) (started : os.Started) (H : Type) (enc : TypeId × Value → H) :
    ReturnsInHanded {} Try.checked os 7 .any (Rows.queryOfSpec.pre6 enc Try.prog Try.f7 Rows.queryOfRow.domain false) (Rows.queryOfSpec.post enc Try.prog Try.f7 false true false false) := by
  refine returnsInHanded_of_change (C := Try.checked) own started (by kernel_rfl) Try.func7
    (ChangeSpec.witness6 (enc := enc) (C := Try.checked) false ⟨#[], #[.agg #[.slice none 0 0], .agg #[.slice none 0 0, .slice none 0 0, .int .i64 0, .slice none 0 0, .slice none 0 0, .int .i64 0], .int .i64 0, .int .i64 0], []⟩ 8 (by kernel_rfl) (by kernel_rfl) (by kernel_rfl) (by kernel_rfl)) ?_
  intro W base args ds gs before hval0 hW hcnd _
  have hval : ∀ (j : Nat) t v, Try.f7.params[j]? = some t → args[j]? = some v → Value.okWide Try.prog W .any base t v := hval0
  have hW' := hW
  obtain ⟨p, q, hA0, hV, rfl, hfz, hnd⟩ := hW
  have hA : DataW.TrodAll enc Try.prog W 0 (fun _ => true) true Try.f7.params.toList args.toList ds p := hA0
  rw [Try.params7] at hA hval
  obtain ⟨v0, vs0, d0, ds0, p0, q0, hargs, rfl, rfl, h0, r0⟩ := trodAll_cons hA
  obtain ⟨v1, vs1, d1, ds1, p1, q1, rfl, rfl, rfl, h1, r1⟩ := trodAll_cons r0
  obtain ⟨v2, vs2, d2, ds2, p2, q2, rfl, rfl, rfl, h2, r2⟩ := trodAll_cons r1
  obtain ⟨v3, vs3, d3, ds3, p3, q3, rfl, rfl, rfl, h3, r3⟩ := trodAll_cons r2
  obtain ⟨rfl, rfl, rfl⟩ := trodAll_nil r3
  obtain rfl : args = #[v0, v1, v2, v3] := by cases args; simp_all
  obtain ⟨rfl, rfl⟩ := trodVars_none hV
  have lt0 : ∀ x ∈ p0, x.block < W.heap.size := by obtain ⟨m, hm⟩ := h0; exact DataW.trod_lt m _ _ _ hm
  obtain ⟨n0, x0, ty0, rep0⟩ := arg_rep types (by decide) (hval 0 24 v0 rfl rfl) h0
  have lt1 : ∀ x ∈ p1, x.block < W.heap.size := by obtain ⟨m, hm⟩ := h1; exact DataW.trod_lt m _ _ _ hm
  obtain ⟨n1, x1, ty1, rep1⟩ := arg_rep types (by decide) (hval 1 28 v1 rfl rfl) h1
  have lt2 : ∀ x ∈ p2, x.block < W.heap.size := by obtain ⟨m, hm⟩ := h2; exact DataW.trod_lt m _ _ _ hm
  obtain ⟨n2, x2, ty2, rep2⟩ := arg_rep types (by decide) (hval 2 3 v2 rfl rfl) h2
  have lt3 : ∀ x ∈ p3, x.block < W.heap.size := by obtain ⟨m, hm⟩ := h3; exact DataW.trod_lt m _ _ _ hm
  obtain ⟨n3, x3, ty3, rep3⟩ := arg_rep types (by decide) (hval 3 3 v3 rfl rfl) h3
  clear hA0 hval0
  refine (calls_true Try.underlying4 (tabOn_none (by kernel_rfl) _ _) (X.lawOf ty0 ty1 ty2 ty3) (w := W) (vs := [v0, v1, v2, v3]) ⟨⟨rfl, rep0⟩, ⟨rfl, rep1⟩, ⟨rfl, rep2⟩, ⟨rfl, rep3⟩, trivial⟩).mono fun e W' ⟨he, bel⟩ => ?_
  subst he
  exact ⟨_, rfl, _, _, _, [], _, [], hW', trodAll_mk1 (shut_bool Try.underlying4 _), (trodAll_cons_mk (Below.trod laidOut (by kernel_rfl) (of_decide_eq_true (by kernel_rfl)) h0 bel lt0) (trodAll_cons_mk (Below.trod laidOut (by kernel_rfl) (of_decide_eq_true (by kernel_rfl)) h1 bel lt1) (trodAll_cons_mk (Below.trod laidOut (by kernel_rfl) (of_decide_eq_true (by kernel_rfl)) h2 bel lt2) (trodAll_cons_mk (Below.trod laidOut (by kernel_rfl) (of_decide_eq_true (by kernel_rfl)) h3 bel lt3) trodAll_mk0)))), rfl, bel.frame _, fun h => by cases h⟩

theorem over : Rows.queryOfRow.holds Try.pinned (OpenSpec.ofChange Rows.queryOfSpec) :=
  OpenClaim.holds_of_wide 7 Try.f7 rfl rfl rfl rfl rfl rfl rfl ⟨rfl, rfl, rfl, rfl, rfl⟩ rfl rfl rfl rfl rfl (by kernel_rfl) Try.func7 (by kernel_rfl)
    (of_decide_eq_true (by kernel_rfl)) (by unfold Func.isWrapper; first | (rw [if_pos (by decide +kernel)]; kernel_rfl) | (rw [if_neg (by decide +kernel)]; exact ⟨rfl, rfl⟩))
    (fun os started H enc _ => lifted os started H enc)

end queryOfLaw

/-- The statement. -/
theorem queryOfProved : Rows.QueryOfSaid := queryOfLaw.over

end Go.Proofs.Ytjgnknkbohlopaa
