/- What the evaluator comes to, function by function: by the kernel. Nothing here is trusted. -/
import Derived.Test.YtbidfbpaeemhhaaDoorVQ
import Derived.Test.YtbidfbpaeemhhaaDoorV1
import Derived.Test.YtbidfbpaeemhhaaDoorV2
namespace Go.Proofs.YtbidfbpaeemhhaaDoor
open Go.Ev
set_option linter.unusedVariables false
/- slices.Index[[]int,int] -/
def t17_h : Hints := fun i => if i = 2 then some ([2, 3, 4, 5, 6, 9, 10, 11, 12, 13, 14, 15, 16, 17, 18], [], []) else none
def t17_lp2 (P : Program) (fn : Func) (N n : Nat) (x0 : D) (x1 : Int) (v8 : Int) : Option AV := evLoop (preL t17_h (sub [1, 0, 1, 0, 0] (bodyOf fn))) (evCode P (envR T8 [] [] []) t17_h N (sub [1, 0, 1, 0, 0] (bodyOf fn))) n ⟨[dat 22 x0, dat 3 (.lit (.int .i64 x1)), dead, dead, dead, dead, dead, dat 3 (.lit (.int .i64 ((elemsD x0).length : Int))), dat 3 (.lit (.int .i64 v8)), dead, dead, dead, dead, dead, dead, dead, dead, dead, dead], lookB []⟩ (blockK 0 (seqC P (envR T8 [] [] []) t17_h N (sub [1, 1] (bodyOf fn)) (finK P fn) ))
theorem t17_lp2_step  (N n : Nat) (x0 : D) (x1 : Int) (v8 : Int) : t17_lp2 Tryd.prog Tryd.f17 N (n + 1) x0 x1 v8 =
  bif decide (v8 < ((elemsD x0).length : Int)) then
    bif (decide (0 ≤ v8) && decide (v8 < ((elemsD x0).length : Int))) then
      bif (x1 == (intD ((elemsD x0).getD (v8).toNat .nil))) then
        some (dat 3 (.lit (.int .i64 v8)))
      else t17_lp2 Tryd.prog Tryd.f17 N n x0 x1 (IntKind.wrap .i64 (v8 + 1))
    else none
  else some (dat 3 (.lit (.int .i64 (-1)))) := by kernel_rfl
theorem t17 (N : Nat) (x0 : D) (x1 : Int) : evFn Tryd.prog (envR T8 [] [] []) t17_h N Tryd.f17 [dat 22 x0, dat 3 (.lit (.int .i64 x1))] =
  t17_lp2 Tryd.prog Tryd.f17 N N x0 x1 0 := by kernel_rfl

/- roadbook/bag.rankAt -/
def t18_h : Hints := fun _ =>  none
theorem t18 (N : Nat) (x0 : D) (x1 : Int) : evFn Tryd.prog (envR T8 [] [] []) t18_h N Tryd.f18 [dat 34 x0, dat 3 (.lit (.int .i64 x1))] =
  bif ((decide (x1 < 0)) == false) then
    bif decide (x1 ≥ ((elemsD x0).length : Int)) then
      some (dat 44 (.agg [.lit (.int .i64 0), .lit (.int .i64 0)]))
    else bif (decide (0 ≤ x1) && decide (x1 < ((elemsD x0).length : Int))) then
        bif mayB ((elemsD x0).getD (x1).toNat .nil) then
          some (dat 44 (.agg [.lit (.int .i64 (intD (fieldD ((elemsD x0).getD (x1).toNat .nil) 0))), .lit (.int .i64 (intD (fieldD ((elemsD x0).getD (x1).toNat .nil) 1)))]))
        else some (dat 44 (.agg [.lit (.int .i64 2), .lit (.int .i64 0)]))
      else none
  else some (dat 44 (.agg [.lit (.int .i64 0), .lit (.int .i64 0)])) := by kernel_rfl

/- (roadbook/bag.rank).value -/
def t45_h : Hints := fun _ =>  none
theorem t45 (N : Nat) (x0 : D) : evFn Tryd.prog (envR T8 [] [] []) t45_h N Tryd.f45 [dat 44 x0] =
  some (dat 39 (.agg [.lit (.int .i64 (intD (fieldD x0 0))), .lit (.int .i64 (intD (fieldD x0 1)))])) := by kernel_rfl

/- roadbook/roadbookref02.Ints -/
def t29_h : Hints := fun i => if i = 4 then some ([2, 3, 4, 6, 7, 8, 9, 10, 11, 12, 13, 14, 15, 16, 17, 18, 19, 20, 21, 22, 23, 24, 25], [], []) else none
def t29_lp4 (P : Program) (fn : Func) (N n : Nat) (x0 : D) (x1 : D) (v5 : Int) : Option AV := evLoop (preL t29_h (sub [1, 1, 0, 1, 0, 0] (bodyOf fn))) (evCode P (envR T8 [] [] []) t29_h N (sub [1, 1, 0, 1, 0, 0] (bodyOf fn))) n ⟨[dat 22 x0, dat 22 x1, dead, dead, dead, dat 3 (.lit (.int .i64 v5)), dead, dead, dead, dead, dead, dead, dead, dead, dead, dead, dead, dead, dead, dead, dead, dead, dead, dead, dead, dead], lookB []⟩ (blockK 0 (seqC P (envR T8 [] [] []) t29_h N (sub [1, 1, 1] (bodyOf fn)) (finK P fn) ))
theorem t29_lp4_step  (N n : Nat) (x0 : D) (x1 : D) (v5 : Int) : t29_lp4 Tryd.prog Tryd.f29 N (n + 1) x0 x1 v5 =
  bif decide (v5 < ((elemsD x0).length : Int)) then
    bif (decide (0 ≤ v5) && decide (v5 < ((elemsD x0).length : Int))) then
      bif (decide (0 ≤ v5) && decide (v5 < ((elemsD x1).length : Int))) then
        bif ((intD ((elemsD x0).getD (v5).toNat .nil)) != (intD ((elemsD x1).getD (v5).toNat .nil))) then
          some (dat 4 (.lit (.bool false)))
        else t29_lp4 Tryd.prog Tryd.f29 N n x0 x1 (IntKind.wrap .i64 (v5 + 1))
      else none
    else none
  else some (dat 4 (.lit (.bool true))) := by kernel_rfl
theorem t29 (N : Nat) (x0 : D) (x1 : D) : evFn Tryd.prog (envR T8 [] [] []) t29_h N Tryd.f29 [dat 22 x0, dat 22 x1] =
  bif (((elemsD x0).length : Int) != ((elemsD x1).length : Int)) then
    some (dat 4 (.lit (.bool false)))
  else t29_lp4 Tryd.prog Tryd.f29 N N x0 x1 0 := by kernel_rfl

/- roadbook/roadbookref03.Row -/
def t30_h : Hints := fun i => if i = 4 then some ([2, 3, 4, 6, 7, 8, 9, 10, 11, 12, 13, 14, 15, 16, 17, 18, 19, 20, 21, 22, 23, 24, 25], [], []) else none
def t30_lp4 (P : Program) (fn : Func) (N n : Nat) (x0 : D) (x1 : D) (v5 : Int) : Option AV := evLoop (preL t30_h (sub [1, 1, 0, 1, 0, 0] (bodyOf fn))) (evCode P (envR T8 [] [] []) t30_h N (sub [1, 1, 0, 1, 0, 0] (bodyOf fn))) n ⟨[dat 34 x0, dat 34 x1, dead, dead, dead, dat 3 (.lit (.int .i64 v5)), dead, dead, dead, dead, dead, dead, dead, dead, dead, dead, dead, dead, dead, dead, dead, dead, dead, dead, dead, dead], lookB []⟩ (blockK 0 (seqC P (envR T8 [] [] []) t30_h N (sub [1, 1, 1] (bodyOf fn)) (finK P fn) ))
theorem t30_lp4_step  (N n : Nat) (x0 : D) (x1 : D) (v5 : Int) : t30_lp4 Tryd.prog Tryd.f30 N (n + 1) x0 x1 v5 =
  bif decide (v5 < ((elemsD x0).length : Int)) then
    bif (decide (0 ≤ v5) && decide (v5 < ((elemsD x0).length : Int))) then
      bif (decide (0 ≤ v5) && decide (v5 < ((elemsD x1).length : Int))) then
        bif (!(((intD (fieldD ((elemsD x0).getD (v5).toNat .nil) 0)) == (intD (fieldD ((elemsD x1).getD (v5).toNat .nil) 0))) && (((intD (fieldD ((elemsD x0).getD (v5).toNat .nil) 1)) == (intD (fieldD ((elemsD x1).getD (v5).toNat .nil) 1))) && true))) then
          some (dat 4 (.lit (.bool false)))
        else t30_lp4 Tryd.prog Tryd.f30 N n x0 x1 (IntKind.wrap .i64 (v5 + 1))
      else none
    else none
  else some (dat 4 (.lit (.bool true))) := by kernel_rfl
theorem t30 (N : Nat) (x0 : D) (x1 : D) : evFn Tryd.prog (envR T8 [] [] []) t30_h N Tryd.f30 [dat 34 x0, dat 34 x1] =
  bif (((elemsD x0).length : Int) != ((elemsD x1).length : Int)) then
    some (dat 4 (.lit (.bool false)))
  else t30_lp4 Tryd.prog Tryd.f30 N N x0 x1 0 := by kernel_rfl

/- roadbook/bag.colsMay -/
def t34_h : Hints := fun i => if i = 3 then some ([0, 1, 2, 4, 5, 9, 10, 11, 12, 13, 14, 15, 16, 17, 18, 19, 20, 21, 22, 23, 24, 25], [3], []) else none
def t34_lp3 (P : Program) (fn : Func) (N n : Nat) (x0 : D) (v8 : Int) (b3 : D) : Option AV := evLoop (preL t34_h (sub [1, 1, 0, 1, 0, 0] (bodyOf fn))) (evCode P (envR T8 [] [] []) t34_h N (sub [1, 1, 0, 1, 0, 0] (bodyOf fn))) n ⟨[dead, dead, dead, bxp 3 79, dead, dead, dat 22 x0, dat 3 (.lit (.int .i64 ((elemsD x0).length : Int))), dat 3 (.lit (.int .i64 v8)), dead, dead, dead, dead, dead, dead, dead, dead, dead, dead, dead, dead, dead, dead, dead, dead, dead], lookB [(3, some ⟨79, b3, 0, none⟩)]⟩ (blockK 0 (seqC P (envR T8 [] [] []) t34_h N (sub [1, 1, 1] (bodyOf fn)) (finK P fn) ))
theorem t34_lp3_step  (N n : Nat) (x0 : D) (v8 : Int) (b3 : D) : t34_lp3 Tryd.prog Tryd.f34 N (n + 1) x0 v8 b3 =
  bif decide (v8 < ((elemsD x0).length : Int)) then
    bif (decide (0 ≤ v8) && decide (v8 < ((elemsD x0).length : Int))) then
      bif ((decide ((intD ((elemsD x0).getD (v8).toNat .nil)) < 0)) == false) then
        bif ((decide ((intD ((elemsD x0).getD (v8).toNat .nil)) > 15)) == false) then
          bif (decide (0 ≤ (intD ((elemsD x0).getD (v8).toNat .nil))) && decide ((intD ((elemsD x0).getD (v8).toNat .nil)) < (16 : Int))) then
            bif boolD (fieldD b3 (intD ((elemsD x0).getD (v8).toNat .nil)).toNat) then
              some (dat 4 (.lit (.bool false)))
            else bif (decide (0 ≤ (intD ((elemsD x0).getD (v8).toNat .nil))) && decide ((intD ((elemsD x0).getD (v8).toNat .nil)) < (16 : Int))) then
                t34_lp3 Tryd.prog Tryd.f34 N n x0 (IntKind.wrap .i64 (v8 + 1)) (setD b3 (intD ((elemsD x0).getD (v8).toNat .nil)).toNat (.lit (.bool true)))
              else none
          else none
        else some (dat 4 (.lit (.bool false)))
      else some (dat 4 (.lit (.bool false)))
    else none
  else some (dat 4 (.lit (.bool true))) := by kernel_rfl
theorem t34 (N : Nat) (x0 : D) : evFn Tryd.prog (envR T8 [] [] []) t34_h N Tryd.f34 [dat 22 x0] =
  t34_lp3 Tryd.prog Tryd.f34 N N x0 0 (.agg [.lit (.bool false), .lit (.bool false), .lit (.bool false), .lit (.bool false), .lit (.bool false), .lit (.bool false), .lit (.bool false), .lit (.bool false), .lit (.bool false), .lit (.bool false), .lit (.bool false), .lit (.bool false), .lit (.bool false), .lit (.bool false), .lit (.bool false), .lit (.bool false)]) := by kernel_rfl

/- roadbook/bag.rowsMay -/
def t41_h : Hints := fun i => if i = 2 then some ([0, 2, 3, 4, 5, 6, 7, 11, 12, 13, 14, 15, 16, 17, 18, 19, 20, 21, 22, 23, 24, 25, 26, 27, 28, 29, 30], [1], []) else if i = 7 then some ([0, 2, 3, 4, 5, 6, 7, 11, 12, 13, 14, 15, 16, 17, 18, 19, 23, 24, 25, 26, 27, 28, 29, 30], [1], []) else none
def t41_lp2 (P : Program) (fn : Func) (N n : Nat) (x0 : D) (v10 : Int) : Option AV := evLoop (preL t41_h (sub [1, 0, 1, 0, 0] (bodyOf fn))) (evCode P (envR T8 [] [] []) t41_h N (sub [1, 0, 1, 0, 0] (bodyOf fn))) n ⟨[dead, bxp 1 25, dead, dead, dead, dead, dead, dead, dat 23 (fieldD x0 1), dat 3 (.lit (.int .i64 ((elemsD (fieldD x0 1)).length : Int))), dat 3 (.lit (.int .i64 v10)), dead, dead, dead, dead, dead, dead, dead, dead, dead, dead, dead, dead, dead, dead, dead, dead, dead, dead, dead, dead], lookB [(1, some ⟨25, x0, 0, none⟩)]⟩ (blockK 0 (seqC P (envR T8 [] [] []) t41_h N (sub [1, 1] (bodyOf fn)) (finK P fn) ))
def t41_lp7 (P : Program) (fn : Func) (N n : Nat) (x0 : D) (v10 : Int) (m0 : Nat) (v22 : Int) : Option AV := evLoop (preL t41_h (sub [1, 0, 1, 0, 0, 1, 1, 0, 0, 1, 1, 1, 0, 0] (bodyOf fn))) (evCode P (envR T8 [] [] []) t41_h N (sub [1, 0, 1, 0, 0, 1, 1, 0, 0, 1, 1, 1, 0, 0] (bodyOf fn))) n ⟨[dead, bxp 1 25, dead, dead, dead, dead, dead, dead, dat 23 (fieldD x0 1), dat 3 (.lit (.int .i64 ((elemsD (fieldD x0 1)).length : Int))), dat 3 (.lit (.int .i64 v10)), dead, dead, dead, dead, dead, dead, dead, dead, dead, dat 34 ((elemsD (fieldD x0 1)).getD (v10).toNat .nil), dat 3 (.lit (.int .i64 ((elemsD ((elemsD (fieldD x0 1)).getD (v10).toNat .nil)).length : Int))), dat 3 (.lit (.int .i64 v22)), dead, dead, dead, dead, dead, dead, dead, dead], lookB [(1, some ⟨25, x0, 0, none⟩)]⟩ (blockK 2 (blockK 1 (seqC P (envR T8 [] [] []) t41_h N (sub [1, 0, 1, 0, 0, 1, 1, 1] (bodyOf fn)) (seqK (fun s => evLoop (preL t41_h (sub [1, 0, 1, 0, 0] (bodyOf fn))) (evCode P (envR T8 [] [] []) t41_h N (sub [1, 0, 1, 0, 0] (bodyOf fn))) m0 ((preL t41_h (sub [1, 0, 1, 0, 0] (bodyOf fn))) s) (blockK 0 (seqC P (envR T8 [] [] []) t41_h N (sub [1, 1] (bodyOf fn)) (finK P fn) ))) (blockK 0 (seqC P (envR T8 [] [] []) t41_h N (sub [1, 1] (bodyOf fn)) (finK P fn) ))) )))
theorem t41_lp7_step  (N n : Nat) (x0 : D) (v10 : Int) (m0 : Nat) (v22 : Int) : t41_lp7 Tryd.prog Tryd.f41 N (n + 1) x0 v10 m0 v22 =
  bif decide (v22 < ((elemsD ((elemsD (fieldD x0 1)).getD (v10).toNat .nil)).length : Int)) then
    bif (decide (0 ≤ v22) && decide (v22 < ((elemsD ((elemsD (fieldD x0 1)).getD (v10).toNat .nil)).length : Int))) then
      bif (!(mayB ((elemsD ((elemsD (fieldD x0 1)).getD (v10).toNat .nil)).getD (v22).toNat .nil))) then
        some (dat 4 (.lit (.bool false)))
      else t41_lp7 Tryd.prog Tryd.f41 N n x0 v10 m0 (IntKind.wrap .i64 (v22 + 1))
    else none
  else t41_lp2 Tryd.prog Tryd.f41 N m0 x0 (IntKind.wrap .i64 (v10 + 1)) := by kernel_rfl
theorem t41_lp2_step  (N n : Nat) (x0 : D) (v10 : Int) : t41_lp2 Tryd.prog Tryd.f41 N (n + 1) x0 v10 =
  bif decide (v10 < ((elemsD (fieldD x0 1)).length : Int)) then
    bif (decide (0 ≤ v10) && decide (v10 < ((elemsD (fieldD x0 1)).length : Int))) then
      bif (((elemsD ((elemsD (fieldD x0 1)).getD (v10).toNat .nil)).length : Int) != ((elemsD (fieldD x0 0)).length : Int)) then
        some (dat 4 (.lit (.bool false)))
      else t41_lp7 Tryd.prog Tryd.f41 N N x0 v10 n 0
    else none
  else some (dat 4 (.lit (.bool true))) := by kernel_rfl
theorem t41 (N : Nat) (x0 : D) : evFn Tryd.prog (envR T8 [] [] []) t41_h N Tryd.f41 [dat 25 x0] =
  t41_lp2 Tryd.prog Tryd.f41 N N x0 0 := by kernel_rfl

/- roadbook/bag.column -/
def t53_h : Hints := fun i => if i = 3 then some ([0, 2, 3, 4, 6, 7, 8, 9, 10, 11, 12, 16, 17, 18, 19, 20, 21, 22, 23, 24, 25, 26, 27, 28], [11], []) else none
def t53_lp3 (P : Program) (fn : Func) (N n : Nat) (x0 : D) (x1 : Int) (v15 : Int) (b11 : List D) : Option AV := evLoop (preL t53_h (sub [1, 1, 0, 1, 0, 0] (bodyOf fn))) (evCode P (envR T8 [] [] []) t53_h N (sub [1, 1, 0, 1, 0, 0] (bodyOf fn))) n ⟨[dead, dat 3 (.lit (.int .i64 x1)), dead, dead, dead, bxp 11 34, dead, dead, dead, dead, dead, dead, dead, dat 23 (fieldD x0 1), dat 3 (.lit (.int .i64 ((elemsD (fieldD x0 1)).length : Int))), dat 3 (.lit (.int .i64 v15)), dead, dead, dead, dead, dead, dead, dead, dead, dead, dead, dead, dead, dead], lookB [(11, some ⟨34, .slice b11 [], 2, none⟩)]⟩ (blockK 0 (seqC P (envR T8 [] [] []) t53_h N (sub [1, 1, 1] (bodyOf fn)) (finK P fn) ))
theorem t53_lp3_step  (N n : Nat) (x0 : D) (x1 : Int) (v15 : Int) (b11 : List D) : t53_lp3 Tryd.prog Tryd.f53 N (n + 1) x0 x1 v15 b11 =
  bif decide (v15 < ((elemsD (fieldD x0 1)).length : Int)) then
    bif (decide (0 ≤ v15) && decide (v15 < ((elemsD (fieldD x0 1)).length : Int))) then
      bif (decide (0 ≤ x1) && decide (x1 < ((elemsD ((elemsD (fieldD x0 1)).getD (v15).toNat .nil)).length : Int))) then
        bif (decide (0 ≤ v15) && decide (v15 < (b11.length : Int))) then
          t53_lp3 Tryd.prog Tryd.f53 N n x0 x1 (IntKind.wrap .i64 (v15 + 1)) (b11.set (v15).toNat ((elemsD ((elemsD (fieldD x0 1)).getD (v15).toNat .nil)).getD (x1).toNat .nil))
        else none
      else none
    else none
  else some (dat 34 (.slice b11 [])) := by kernel_rfl
theorem t53 (N : Nat) (x0 : D) (x1 : Int) : evFn Tryd.prog (envR T8 [] [] []) t53_h N Tryd.f53 [dat 25 x0, dat 3 (.lit (.int .i64 x1))] =
  bif (decide (0 ≤ ((elemsD (fieldD x0 1)).length : Int)) && decide (((elemsD (fieldD x0 1)).length : Int) ≤ 2147483648)) then
    t53_lp3 Tryd.prog Tryd.f53 N N x0 x1 0 (List.replicate (((elemsD (fieldD x0 1)).length : Int)).toNat (.agg [.lit (.int .i64 0), .lit (.int .i64 0)] : D))
  else none := by kernel_rfl

/- roadbook/roadbooklaw03.few -/
def t7_h : Hints := fun i => if i = 4 then some ([0, 1, 3, 4, 6, 7, 8, 9, 10, 11, 12, 13, 14, 15, 16, 17, 18, 19, 20, 21, 22, 23, 24, 25, 26, 27, 28, 29, 30], [2], []) else none
def t7_lp4 (P : Program) (fn : Func) (N n : Nat) (x0 : D) (x1 : Int) (v5 : Int) : Option AV := evLoop (preL t7_h (sub [1, 1, 0, 1, 0, 0] (bodyOf fn))) (evCode P (envR T8 [] [] []) t7_h N (sub [1, 1, 0, 1, 0, 0] (bodyOf fn))) n ⟨[dead, dead, bxp 2 25, dead, dead, dat 3 (.lit (.int .i64 v5)), dead, dead, dead, dead, dead, dead, dead, dead, dead, dead, dead, dead, dead, dead, dead, dead, dead, dead, dead, dead, dead, dead, dead, dead, dead], lookB [(2, some ⟨25, x0, 0, none⟩)]⟩ (blockK 0 (seqC P (envR T8 [] [] []) t7_h N (sub [1, 1, 1] (bodyOf fn)) (finK P fn) ))
theorem t7_lp4_step  (N n : Nat) (x0 : D) (x1 : Int) (v5 : Int) : t7_lp4 Tryd.prog Tryd.f7 N (n + 1) x0 x1 v5 =
  bif decide (v5 < ((elemsD (fieldD x0 1)).length : Int)) then
    bif (decide (0 ≤ v5) && decide (v5 < ((elemsD (fieldD x0 1)).length : Int))) then
      bif decide (((elemsD ((elemsD (fieldD x0 1)).getD (v5).toNat .nil)).length : Int) > 20) then
        some (dat 4 (.lit (.bool false)))
      else t7_lp4 Tryd.prog Tryd.f7 N n x0 x1 (IntKind.wrap .i64 (v5 + 1))
    else none
  else some (dat 4 (.lit (.bool true))) := by kernel_rfl
theorem t7 (N : Nat) (x0 : D) (x1 : Int) : evFn Tryd.prog (envR T8 [] [] []) t7_h N Tryd.f7 [dat 25 x0, dat 3 (.lit (.int .i64 x1))] =
  bif ((decide (((elemsD (fieldD x0 1)).length : Int) > x1)) == false) then
    bif decide (((elemsD (fieldD x0 0)).length : Int) > 20) then
      some (dat 4 (.lit (.bool false)))
    else t7_lp4 Tryd.prog Tryd.f7 N N x0 x1 0
  else some (dat 4 (.lit (.bool false))) := by kernel_rfl

/- roadbook/roadbooklaw03.Three -/
def t15_h : Hints := fun _ =>  none
theorem t15 (N : Nat)  : evFn Tryd.prog (envR T8 [] [] []) t15_h N Tryd.f15 [] =
  some (dat 25 (.agg [.slice [.lit (.int .i64 0), .lit (.int .i64 1)] [], .slice [.slice [.agg [.lit (.int .i64 0), .lit (.int .i64 1)], .agg [.lit (.int .i64 0), .lit (.int .i64 2)]] [], .slice [.agg [.lit (.int .i64 0), .lit (.int .i64 3)], .agg [.lit (.int .i64 0), .lit (.int .i64 4)]] [], .slice [.agg [.lit (.int .i64 0), .lit (.int .i64 1)], .agg [.lit (.int .i64 0), .lit (.int .i64 5)]] []] []])) := by kernel_rfl

/- roadbook/bag.groupCols -/
def t40_h : Hints := fun i => if i = 3 then some ([0, 1, 2, 3, 4, 6, 7, 8, 9, 12, 13, 14, 15, 16, 17, 18, 19, 20], [18, 900000], []) else none
def t40_lp3 (P : Program) (fn : Func) (N n : Nat) (x0 : Int) (x1 : Int) (v5 : List D) (v11 : Int) : Option AV := evLoop (preL t40_h (sub [1, 1, 0, 1, 0, 0] (bodyOf fn))) (evCode P (envR T8 [] [] []) t40_h N (sub [1, 1, 0, 1, 0, 0] (bodyOf fn))) n ⟨[dead, dead, dead, dead, dead, ful 22 (.slice v5 []), dead, dead, dead, dead, dat 3 (.lit (.int .i64 (IntKind.wrap .i64 (1 + x1)))), dat 3 (.lit (.int .i64 v11)), dead, dead, dead, dead, dead, dead, dead, dead, dead], lookB [(18, none), (900000, none)]⟩ (blockK 0 (seqC P (envR T8 [] [] []) t40_h N (sub [1, 1, 1] (bodyOf fn)) (finK P fn) ))
def t40_lp3b (P : Program) (fn : Func) (N n : Nat) (x0 : Int) (x1 : Int) (v11 : Int) (b18 : List D) : Option AV := evLoop (preL t40_h (sub [1, 1, 0, 1, 0, 0] (bodyOf fn))) (evCode P (envR T8 [] [] []) t40_h N (sub [1, 1, 0, 1, 0, 0] (bodyOf fn))) n ⟨[dead, dead, dead, dead, dead, bxp 18 22, dead, dead, dead, dead, dat 3 (.lit (.int .i64 (IntKind.wrap .i64 (1 + x1)))), dat 3 (.lit (.int .i64 v11)), dead, dead, dead, dead, dead, dead, dead, dead, dead], lookB [(18, some ⟨22, .slice b18 [], 2, none⟩), (900000, none)]⟩ (blockK 0 (seqC P (envR T8 [] [] []) t40_h N (sub [1, 1, 1] (bodyOf fn)) (finK P fn) ))
theorem t40_lp3b_step  (N n : Nat) (x0 : Int) (x1 : Int) (v11 : Int) (b18 : List D) : t40_lp3b Tryd.prog Tryd.f40 N (n + 1) x0 x1 v11 b18 =
  bif decide (v11 < (IntKind.wrap .i64 (1 + x1))) then
    bif decide ((b18).length + 1 ≤ 2147483648) then
      t40_lp3b Tryd.prog Tryd.f40 N n x0 x1 (IntKind.wrap .i64 (v11 + 1)) (b18 ++ [.lit (.int .i64 (IntKind.wrap .i64 (16 + v11)))])
    else none
  else some (dat 22 (.slice b18 [])) := by kernel_rfl
theorem t40_lp3_step  (N n : Nat) (x0 : Int) (x1 : Int) (v5 : List D) (v11 : Int) : t40_lp3 Tryd.prog Tryd.f40 N (n + 1) x0 x1 v5 v11 =
  bif decide (v11 < (IntKind.wrap .i64 (1 + x1))) then
    bif decide ((v5).length + 1 ≤ 2147483648) then
      t40_lp3b Tryd.prog Tryd.f40 N n x0 x1 (IntKind.wrap .i64 (v11 + 1)) (v5 ++ [.lit (.int .i64 (IntKind.wrap .i64 (16 + v11)))])
    else none
  else some (dat 22 (.slice v5 [])) := by kernel_rfl
theorem t40 (N : Nat) (x0 : Int) (x1 : Int) : evFn Tryd.prog (envR T8 [] [] []) t40_h N Tryd.f40 [dat 3 (.lit (.int .i64 x0)), dat 3 (.lit (.int .i64 x1))] =
  t40_lp3 Tryd.prog Tryd.f40 N N x0 x1 [.lit (.int .i64 x0)] 0 := by kernel_rfl

/- slices.Clone[[]roadbook/api.Val,roadbook/api.Val] -/
def t22_n_h : Hints := fun _ =>  none
theorem t22_n (N : Nat)  : evFnM Tryd.prog (envR T8 [] [] []) t22_n_h N Tryd.f22 [⟨1, 34, .slice [] [], 0, 2, 0, []⟩] =
  some (dat 34 (.slice [] [])) := by kernel_rfl

def t22_s_h : Hints := fun _ => none
theorem t22_s (N : Nat) (x0 : D) : evFnM Tryd.prog (envR T8 [] [] []) t22_s_h N Tryd.f22 [⟨1, 34, x0, 0, 3, 0, []⟩] =
  bif decide (0 + (elemsD x0).length ≤ 2147483648) then
    some (dat 34 (.slice ([] ++ (elemsD x0)) []))
  else none := by kernel_rfl
/- slices.Clone[[]int,int] -/
def t23_n_h : Hints := fun _ =>  none
theorem t23_n (N : Nat)  : evFnM Tryd.prog (envR T8 [] [] []) t23_n_h N Tryd.f23 [⟨1, 22, .slice [] [], 0, 2, 0, []⟩] =
  some (dat 22 (.slice [] [])) := by kernel_rfl

def t23_s_h : Hints := fun _ => none
theorem t23_s (N : Nat) (x0 : D) : evFnM Tryd.prog (envR T8 [] [] []) t23_s_h N Tryd.f23 [⟨1, 22, x0, 0, 3, 0, []⟩] =
  bif decide (0 + (elemsD x0).length ≤ 2147483648) then
    some (dat 22 (.slice ([] ++ (elemsD x0)) []))
  else none := by kernel_rfl
end Go.Proofs.YtbidfbpaeemhhaaDoor

namespace Go.Proofs.YtbidfbpaeemhhaaDoor
open Go.Ev
set_option linter.unusedVariables false
set_option maxRecDepth 10000
set_option linter.unusedSimpArgs false

theorem nI (x : D) : normD Tryd.prog 22 x = x := by kernel_rfl
theorem nB (x : D) : normD Tryd.prog 25 x = x := by kernel_rfl
theorem nR (x : D) : normD Tryd.prog 23 x = x := by kernel_rfl
theorem nK (x : D) : normD Tryd.prog 44 x = x := by kernel_rfl
theorem nE (x : D) : normD Tryd.prog 47 x = x := by kernel_rfl
theorem mI (x : D) : mkRes Tryd.prog 22 x = dat 22 x := by kernel_rfl
theorem mB (x : D) : mkRes Tryd.prog 25 x = dat 25 x := by kernel_rfl
theorem mK (x : D) : mkRes Tryd.prog 44 x = dat 44 x := by kernel_rfl
theorem mTBB (x : D) : mkRes Tryd.prog 30 x = tupA [25, 4] x := by kernel_rfl
theorem uI : Tryd.prog.underlying 22 = some (.slice 3) := by kernel_rfl
theorem uV : Tryd.prog.underlying 34 = some (.slice 39) := by kernel_rfl
theorem uR : Tryd.prog.underlying 23 = some (.slice 34) := by kernel_rfl
theorem uB : ∃ f g : Field, Tryd.prog.underlying 25 = some (.struct #[f, g]) ∧ f.type = 22 ∧ g.type = 23 := ⟨_, _, Tryd.underlying25, rfl, rfl⟩

def OKr (r : D) : Prop := ∃ vs, r = .slice vs [] ∧ vs.length ≤ maxLen ∧ ∀ v ∈ vs, ∃ k m, v = vv k m ∧ inR k = true ∧ inR m = true
theorem tyI {n : Nat} {x : D} (h : Ty Tryd.prog n 22 x) : ∃ es, x = .slice es [] ∧ es.length ≤ maxLen ∧ ∀ y ∈ es, ∃ z, y = litI z ∧ inR z = true := by
  cases n with
  | zero => exact h.elim
  | succ n =>
    unfold Ty at h
    rw [uI] at h
    split at h <;> try (exact h.elim)
    all_goals try (simp_all; done)
    rename_i e es sp heq
    cases heq
    obtain ⟨rfl, hl, hp⟩ := h
    exact ⟨es, rfl, hl, fun y hy => ty3' (hp y hy)⟩
theorem tyR {n : Nat} {x : D} (h : Ty Tryd.prog n 23 x) : ∃ es, x = .slice es [] ∧ es.length ≤ maxLen ∧ ∀ y ∈ es, OKr y := by
  cases n with
  | zero => exact h.elim
  | succ n =>
    unfold Ty at h
    rw [uR] at h
    split at h <;> try (exact h.elim)
    all_goals try (simp_all; done)
    rename_i e es sp heq
    cases heq
    obtain ⟨rfl, hl, hp⟩ := h
    exact ⟨es, rfl, hl, fun y hy => ty28 (hp y hy)⟩
structure OKb (x : D) (cs rs : List D) : Prop where
  eq : x = bagD cs rs
  cl : cs.length ≤ maxLen
  rl : rs.length ≤ maxLen
  c : ∀ y ∈ cs, ∃ z, y = litI z ∧ inR z = true
  r : ∀ y ∈ rs, OKr y
theorem tyB {n : Nat} {x : D} (h : Ty Tryd.prog n 25 x) : ∃ cs rs, OKb x cs rs := by
  obtain ⟨f, g, hu, hf, hg⟩ := uB
  cases n with
  | zero => exact h.elim
  | succ n =>
    unfold Ty at h
    rw [hu] at h
    split at h <;> try (exact h.elim)
    all_goals try (simp_all; done)
    rename_i fs ps heq
    cases heq
    obtain ⟨hl, hp⟩ := h
    have hl : ps.length = 2 := hl
    have h0 := hp 0 f (by rfl)
    have h1 := hp 1 g (by rfl)
    rw [hf] at h0
    rw [hg] at h1
    match ps, hl, h0, h1 with
    | [a, b], _, h0, h1 =>
      obtain ⟨cs, rfl, h2, h3⟩ := tyI (show Ty Tryd.prog n 22 a from h0)
      obtain ⟨rs, rfl, h4, h5⟩ := tyR (show Ty Tryd.prog n 23 b from h1)
      exact ⟨cs, rs, rfl, h2, h4, h3, h5⟩
theorem lenI {n : Nat} {x : D} (hx : Ty Tryd.prog n 22 x) : (elemsD x).length ≤ maxLen := by
  obtain ⟨es, rfl, hl, _⟩ := tyI hx
  exact hl
theorem lenR {n : Nat} {x : D} (hx : Ty Tryd.prog n 23 x) : (elemsD x).length ≤ maxLen := by
  obtain ⟨es, rfl, hl, _⟩ := tyR hx
  exact hl
theorem bagR (cs rs : List D) : elemsD (fieldD (bagD cs rs) 1) = rs := rfl
theorem bagC (cs rs : List D) : elemsD (fieldD (bagD cs rs) 0) = cs := rfl
/-- Rounds enough for each row, and for all of them. -/
def fuelB (rs : List D) : Nat := rs.length + (rs.map fun r => (elemsD r).length).sum + 1
theorem fuel_row {rs : List D} {r : D} (h : r ∈ rs) : (elemsD r).length < fuelB rs := by
  have : (elemsD r).length ≤ (rs.map fun r => (elemsD r).length).sum := le_sum _ _ (List.mem_map.2 ⟨r, h, rfl⟩)
  unfold fuelB; omega

/-! ### slices.Index -/
theorem idx_loop {N : Nat} {x0 : D} {x1 : Int} (hl : (elemsD x0).length ≤ maxLen) : ∀ (n i : Nat), i ≤ (elemsD x0).length → (elemsD x0).length - i < n →
    t17_lp2 Tryd.prog Tryd.f17 N n x0 x1 (i : Int) = some (dat 3 (.lit (.int .i64 (Lib.idxFrom (((elemsD x0).drop i).map intD) x1 i))))
  | 0, i, _, h => by omega
  | n + 1, i, hi, h => by
    rw [t17_lp2_step]
    by_cases hlt : i < (elemsD x0).length
    · rw [l_idx hlt, l_lt hlt, cond_true, cond_true, List.drop_eq_getElem_cons hlt, List.map_cons, Int.toNat_natCast, l_get hlt, Lib.idxFrom]
      rw [l_wrap hl hlt, idx_loop hl n (i + 1) (by omega) (by omega)]
      by_cases he : intD (elemsD x0)[i] = x1
      · have : (x1 == intD (elemsD x0)[i]) = true := by simp [he]
        rw [this, cond_true, if_pos he]
      · have : (x1 == intD (elemsD x0)[i]) = false := by
          rw [beq_eq_false_iff_ne]; exact fun hh => he hh.symm
        rw [this, cond_false, if_neg he]
    · have h2 : (elemsD x0).drop i = [] := List.drop_of_length_le (by omega)
      rw [l_ge hlt, h2, cond_false]
      rfl
def e17 : FuncId × TypeId × (List AV → Bool) × (List AV → Option D) := (17, 3, yes, ent [22, 3] (f2 fun x y => some (.lit (.int .i64 (Lib.idxOf ((elemsD x).map intD) (intD y))))))
theorem k17 : FnOK Tryd.prog 17 Tryd.f17 := ⟨Tryd.func17, rfl, by kernel_rfl⟩
theorem c17 : ∀ args d, e17.2.2.2 args = some d → CallOK Tryd.prog 17 args (mkRes Tryd.prog 3 d) :=
  ent2 k17 fun x y d h ⟨_, hx⟩ _ => by
    cases h
    rw [nI, n3]
    refine fn_ok hm env8 k17 ((t17 ((elemsD x).length + 1) x (intD y)).trans ?_)
    rw [m3]
    have := idx_loop (N := (elemsD x).length + 1) (x1 := intD y) (lenI hx) ((elemsD x).length + 1) 0 (Nat.zero_le _) (by omega)
    simpa [Lib.idxOf, intD] using this

/-! ### rankAt, value -/
def e18 : FuncId × TypeId × (List AV → Bool) × (List AV → Option D) := (18, 44, yes, ent [34, 3] (f2 fun x y => some (rankD (elemsD x) (intD y))))
theorem k18 : FnOK Tryd.prog 18 Tryd.f18 := ⟨Tryd.func18, rfl, by kernel_rfl⟩
theorem c18 : ∀ args d, e18.2.2.2 args = some d → CallOK Tryd.prog 18 args (mkRes Tryd.prog 44 d) :=
  ent2 k18 fun x y d h ⟨_, hx⟩ _ => by
    cases h
    rw [n28, n3]
    refine fn_ok hm env8 k18 ((t18 1 x (intD y)).trans ?_)
    rw [mK]
    unfold rankD
    by_cases h1 : intD y < 0
    · have : decide (intD y < 0) = true := by simpa using h1
      rw [this]; rfl
    · have e1 : decide (intD y < 0) = false := by simpa using h1
      rw [e1]
      by_cases h2 : intD y ≥ ((elemsD x).length : Int)
      · have : decide (intD y ≥ ((elemsD x).length : Int)) = true := by simpa using h2
        rw [this]; rfl
      · have e2 : decide (intD y ≥ ((elemsD x).length : Int)) = false := by simpa using h2
        have e3 : (decide (0 ≤ intD y) && decide (intD y < ((elemsD x).length : Int))) = true := by
          simp only [Bool.and_eq_true, decide_eq_true_eq]; omega
        rw [e2, e3]
        cases mayB ((elemsD x).getD (intD y).toNat .nil) <;> rfl
def e45 : FuncId × TypeId × (List AV → Bool) × (List AV → Option D) := (45, 39, yes, ent [44] (f1 fun x => some (valueD x)))
theorem k45 : FnOK Tryd.prog 45 Tryd.f45 := ⟨Tryd.func45, rfl, by kernel_rfl⟩
theorem c45 : ∀ args d, e45.2.2.2 args = some d → CallOK Tryd.prog 45 args (mkRes Tryd.prog 39 d) :=
  ent1 k45 fun x d h _ => by
    cases h
    rw [nK]
    refine fn_ok hm env8 k45 ((t45 1 x).trans ?_)
    rw [m23]
    rfl

/-! ### Ints, Row -/
def e29 : FuncId × TypeId × (List AV → Bool) × (List AV → Option D) := (29, 4, yes, ent [22, 22] (f2 fun x y => some (.lit (.bool (intsB (elemsD x) (elemsD y))))))
theorem k29 : FnOK Tryd.prog 29 Tryd.f29 := ⟨Tryd.func29, rfl, by kernel_rfl⟩
theorem c29 : ∀ args d, e29.2.2.2 args = some d → CallOK Tryd.prog 29 args (mkRes Tryd.prog 4 d) :=
  ent2 k29 fun x y d h ⟨_, hx⟩ ⟨_, hy⟩ => by
    cases h
    rw [nI, nI]
    refine fn_ok hm env8 k29 ((t29 ((elemsD x).length + 1) x y).trans ?_)
    rw [m4]
    by_cases hl : (elemsD x).length = (elemsD y).length
    · have e1 : (((elemsD x).length : Int) != ((elemsD y).length : Int)) = false := by simp [hl]
      rw [e1, cond_false]
      have := l_loop (fun n v => t29_lp4 Tryd.prog Tryd.f29 ((elemsD x).length + 1) n x y v) (elemsD x).length (fun i => !(intD ((elemsD x).getD i .nil) == intD ((elemsD y).getD i .nil))) (some (dat 4 (.lit (.bool false)))) (some (dat 4 (.lit (.bool true))))
        (fun n i hi => by
          rw [t29_lp4_step, l_idx hi, l_lt hi, l_idx (by omega : i < (elemsD y).length), cond_true, cond_true, cond_true, l_wrap (lenI hx) hi, Int.toNat_natCast]
          rfl)
        (fun n => by rw [t29_lp4_step, l_ge (by omega), cond_false]) ((elemsD x).length + 1) 0 (Nat.zero_le _) (by omega)
      refine this.trans ?_
      have h2 := l_any2 intD (elemsD x) (elemsD y) hl
      show _ = some (dat 4 (.lit (.bool (intsB (elemsD x) (elemsD y)))))
      unfold intsB
      rw [← h2, Nat.sub_zero]
      cases (List.range' 0 (elemsD x).length).any _ <;> rfl
    · have e1 : (((elemsD x).length : Int) != ((elemsD y).length : Int)) = true := by simp; omega
      rw [e1, cond_true]
      have : intsB (elemsD x) (elemsD y) = false := by
        unfold intsB
        rw [beq_eq_false_iff_ne]
        intro hh
        exact hl (by simpa using congrArg List.length hh)
      show _ = some (dat 4 (.lit (.bool (intsB (elemsD x) (elemsD y)))))
      rw [this]
def e30 : FuncId × TypeId × (List AV → Bool) × (List AV → Option D) := (30, 4, yes, ent [34, 34] (f2 fun x y => some (.lit (.bool (rowEqB (elemsD x) (elemsD y))))))
theorem k30 : FnOK Tryd.prog 30 Tryd.f30 := ⟨Tryd.func30, rfl, by kernel_rfl⟩
theorem pair_beq (a b : D) : ((intD (fieldD a 0) == intD (fieldD b 0)) && ((intD (fieldD a 1) == intD (fieldD b 1)) && true)) = (pairI a == pairI b) := by
  unfold pairI kk nn
  rw [Bool.and_true]
  rfl
theorem c30 : ∀ args d, e30.2.2.2 args = some d → CallOK Tryd.prog 30 args (mkRes Tryd.prog 4 d) :=
  ent2 k30 fun x y d h ⟨_, hx⟩ ⟨_, hy⟩ => by
    cases h
    rw [n28, n28]
    refine fn_ok hm env8 k30 ((t30 ((elemsD x).length + 1) x y).trans ?_)
    rw [m4]
    by_cases hl : (elemsD x).length = (elemsD y).length
    · have e1 : (((elemsD x).length : Int) != ((elemsD y).length : Int)) = false := by simp [hl]
      rw [e1, cond_false]
      have := l_loop (fun n v => t30_lp4 Tryd.prog Tryd.f30 ((elemsD x).length + 1) n x y v) (elemsD x).length (fun i => !(pairI ((elemsD x).getD i .nil) == pairI ((elemsD y).getD i .nil))) (some (dat 4 (.lit (.bool false)))) (some (dat 4 (.lit (.bool true))))
        (fun n i hi => by
          rw [t30_lp4_step, l_idx hi, l_lt hi, l_idx (by omega : i < (elemsD y).length), cond_true, cond_true, cond_true, l_wrap (elems_len hx) hi, Int.toNat_natCast, pair_beq])
        (fun n => by rw [t30_lp4_step, l_ge (by omega), cond_false]) ((elemsD x).length + 1) 0 (Nat.zero_le _) (by omega)
      refine this.trans ?_
      have h2 := l_any2 pairI (elemsD x) (elemsD y) hl
      show _ = some (dat 4 (.lit (.bool (rowEqB (elemsD x) (elemsD y)))))
      unfold rowEqB
      rw [← h2, Nat.sub_zero]
      cases (List.range' 0 (elemsD x).length).any _ <;> rfl
    · have e1 : (((elemsD x).length : Int) != ((elemsD y).length : Int)) = true := by simp; omega
      rw [e1, cond_true]
      have : rowEqB (elemsD x) (elemsD y) = false := by
        unfold rowEqB
        rw [beq_eq_false_iff_ne]
        intro hh
        exact hl (by simpa using congrArg List.length hh)
      show _ = some (dat 4 (.lit (.bool (rowEqB (elemsD x) (elemsD y)))))
      rw [this]

/-! ### colsMay -/
theorem cols_loop {N : Nat} {x0 : D} (hl : (elemsD x0).length ≤ maxLen) : ∀ (n i : Nat) (s : List Int), i ≤ (elemsD x0).length → (elemsD x0).length - i < n →
    t34_lp3 Tryd.prog Tryd.f34 N n x0 (i : Int) (seenD s) = some (dat 4 (.lit (.bool (colsFrom s (((elemsD x0).drop i).map intD)))))
  | 0, i, s, _, h => by omega
  | n + 1, i, s, hi, h => by
    rw [t34_lp3_step]
    by_cases hlt : i < (elemsD x0).length
    · rw [l_idx hlt, l_lt hlt, cond_true, cond_true, List.drop_eq_getElem_cons hlt, List.map_cons, Int.toNat_natCast, l_get hlt, colsFrom, l_wrap hl hlt]
      by_cases h0 : intD (elemsD x0)[i] < 0
      · have a1 : decide (intD (elemsD x0)[i] < 0) = true := by simpa using h0
        have a2 : decide (0 ≤ intD (elemsD x0)[i]) = false := by simpa using h0
        rw [a1, a2]; rfl
      · have a1 : decide (intD (elemsD x0)[i] < 0) = false := by simpa using h0
        have a2 : decide (0 ≤ intD (elemsD x0)[i]) = true := by simp; omega
        by_cases h15 : intD (elemsD x0)[i] > 15
        · have b1 : decide (intD (elemsD x0)[i] > 15) = true := by simpa using h15
          have b2 : decide (intD (elemsD x0)[i] ≤ 15) = false := by simp; omega
          rw [a1, a2, b1, b2]; rfl
        · have b1 : decide (intD (elemsD x0)[i] > 15) = false := by simpa using h15
          have b2 : decide (intD (elemsD x0)[i] ≤ 15) = true := by simp; omega
          have b3 : decide (intD (elemsD x0)[i] < (16 : Int)) = true := by simp; omega
          rw [a1, a2, b1, b2, b3, seen_get (by omega) (by omega), seen_set (by omega) (by omega), cols_loop hl n (i + 1) _ (by omega) (by omega)]
          cases s.contains (intD (elemsD x0)[i]) <;> rfl
    · have h2 : (elemsD x0).drop i = [] := List.drop_of_length_le (by omega)
      rw [l_ge hlt, h2, cond_false]
      rfl
def e34 : FuncId × TypeId × (List AV → Bool) × (List AV → Option D) := (34, 4, yes, ent [22] (f1 fun x => some (.lit (.bool (colsMayB (elemsD x))))))
theorem k34 : FnOK Tryd.prog 34 Tryd.f34 := ⟨Tryd.func34, rfl, by kernel_rfl⟩
theorem c34 : ∀ args d, e34.2.2.2 args = some d → CallOK Tryd.prog 34 args (mkRes Tryd.prog 4 d) :=
  ent1 k34 fun x d h ⟨_, hx⟩ => by
    cases h
    rw [nI]
    refine fn_ok hm env8 k34 ((t34 ((elemsD x).length + 1) x).trans ?_)
    rw [m4, ← seen_nil]
    have := cols_loop (N := (elemsD x).length + 1) (lenI hx) ((elemsD x).length + 1) 0 [] (Nat.zero_le _) (by omega)
    refine this.trans ?_
    rw [List.drop_zero, cols_all]
    rfl

/-! ### rowsMay -/
theorem rows_in {N : Nat} {x0 : D} {v10 : Int} {m0 : Nat} (r : D) (hr : (elemsD (fieldD x0 1)).getD v10.toNat .nil = r) (hl : (elemsD r).length ≤ maxLen) (hN : (elemsD r).length < N) :
    t41_lp7 Tryd.prog Tryd.f41 N N x0 v10 m0 0 = bif (elemsD r).all mayB then t41_lp2 Tryd.prog Tryd.f41 N m0 x0 (IntKind.wrap .i64 (v10 + 1)) else some (dat 4 (.lit (.bool false))) := by
  have := l_loop (fun n v => t41_lp7 Tryd.prog Tryd.f41 N n x0 v10 m0 v) (elemsD r).length (fun i => !mayB ((elemsD r).getD i .nil)) (some (dat 4 (.lit (.bool false)))) (t41_lp2 Tryd.prog Tryd.f41 N m0 x0 (IntKind.wrap .i64 (v10 + 1)))
    (fun n i hi => by
      rw [t41_lp7_step, hr, l_idx hi, l_lt hi, cond_true, cond_true, l_wrap hl hi, Int.toNat_natCast])
    (fun n => by rw [t41_lp7_step, hr, l_ge (by omega), cond_false]) N 0 (Nat.zero_le _) (by omega)
  refine this.trans ?_
  rw [Nat.sub_zero, l_any0 (elemsD r) (fun v => !mayB v)]
  have : (elemsD r).any (fun v => !mayB v) = !(elemsD r).all mayB := by
    rw [List.all_eq_not_any_not, Bool.not_not]
  rw [this]
  cases (elemsD r).all mayB <;> rfl
def e41 : FuncId × TypeId × (List AV → Bool) × (List AV → Option D) := (41, 4, yes, ent [25] (f1 fun x => some (.lit (.bool (rowsMayB x)))))
theorem k41 : FnOK Tryd.prog 41 Tryd.f41 := ⟨Tryd.func41, rfl, by kernel_rfl⟩
theorem c41 : ∀ args d, e41.2.2.2 args = some d → CallOK Tryd.prog 41 args (mkRes Tryd.prog 4 d) :=
  ent1 k41 fun x d h ⟨_, hx⟩ => by
    cases h
    rw [nB]
    obtain ⟨cs, rs, rfl, h1, h2, h3, h4⟩ := tyB hx
    refine fn_ok hm env8 k41 ((t41 (fuelB rs) (bagD cs rs)).trans ?_)
    rw [m4]
    have := l_loop (fun n v => t41_lp2 Tryd.prog Tryd.f41 (fuelB rs) n (bagD cs rs) v) rs.length (fun i => !(((elemsD (rs.getD i .nil)).length == cs.length) && (elemsD (rs.getD i .nil)).all mayB)) (some (dat 4 (.lit (.bool false)))) (some (dat 4 (.lit (.bool true))))
      (fun n i hi => by
        have hmem : rs.getD i .nil ∈ rs := by rw [l_get hi]; exact List.getElem_mem hi
        obtain ⟨vs, hvs, hvl, _⟩ := h4 _ hmem
        have hvl' : (elemsD (rs.getD i .nil)).length ≤ maxLen := by rw [hvs]; exact hvl
        rw [t41_lp2_step, bagR, bagC, l_idx hi, l_lt hi, cond_true, cond_true, Int.toNat_natCast, rows_in (rs.getD i .nil) (by rw [bagR, Int.toNat_natCast]) hvl' (fuel_row hmem), l_wrap h2 hi]
        by_cases he : (elemsD (rs.getD i .nil)).length = cs.length
        · have q1 : (((elemsD (rs.getD i .nil)).length : Int) != (cs.length : Int)) = false := l_nef he
          have q2 : ((elemsD (rs.getD i .nil)).length == cs.length) = true := l_eqt he
          rw [q1, q2]
          cases (elemsD (rs.getD i .nil)).all mayB <;> rfl
        · have q1 : (((elemsD (rs.getD i .nil)).length : Int) != (cs.length : Int)) = true := l_net he
          have q2 : ((elemsD (rs.getD i .nil)).length == cs.length) = false := l_eqf he
          rw [q1, q2]; rfl)
      (fun n => by rw [t41_lp2_step, bagR, l_ge (by omega), cond_false]) (fuelB rs) 0 (Nat.zero_le _) (by unfold fuelB; omega)
    refine this.trans ?_
    rw [Nat.sub_zero, l_any0 rs (fun r => !(((elemsD r).length == cs.length) && (elemsD r).all mayB))]
    have e : rowsMayB (bagD cs rs) = !(rs.any fun r => !(((elemsD r).length == cs.length) && (elemsD r).all mayB)) := by
      unfold rowsMayB
      rw [List.all_eq_not_any_not]
      rfl
    show _ = some (dat 4 (.lit (.bool (rowsMayB (bagD cs rs)))))
    rw [e]
    cases rs.any _ <;> rfl

/-! ### column -/
theorem column_loop {N : Nat} {cs rs : List D} {x1 : Int} (hl : rs.length ≤ maxLen) (h0 : 0 ≤ x1) (hin : ∀ r ∈ rs, x1 < ((elemsD r).length : Int)) : ∀ (n i : Nat) (tl : List D), i ≤ rs.length → rs.length - i < n → tl.length = rs.length - i →
    t53_lp3 Tryd.prog Tryd.f53 N n (bagD cs rs) x1 (i : Int) ((rs.take i).map (fun r => (elemsD r).getD x1.toNat .nil) ++ tl) = some (dat 34 (.slice (columnL rs x1) []))
  | 0, i, tl, _, h, _ => by omega
  | n + 1, i, tl, hi, h, htl => by
    rw [t53_lp3_step, bagR]
    by_cases hlt : i < rs.length
    · have hlen : ((rs.take i).map (fun r => (elemsD r).getD x1.toNat .nil) ++ tl).length = rs.length := by simp; omega
      have hc : (decide (0 ≤ x1) && decide (x1 < ((elemsD rs[i]).length : Int))) = true := by
        simp only [Bool.and_eq_true, decide_eq_true_eq]; exact ⟨h0, hin _ (List.getElem_mem hlt)⟩
      rw [hlen, l_idx hlt, l_lt hlt, cond_true, cond_true, Int.toNat_natCast, l_get hlt, hc, cond_true, cond_true, l_wrap hl hlt, l_set (fun r => (elemsD r).getD x1.toNat .nil) hlt htl]
      exact column_loop hl h0 hin n (i + 1) (tl.drop 1) (by omega) (by omega) (by simp; omega)
    · have hi2 : i = rs.length := by omega
      have htl0 : tl = [] := List.length_eq_zero_iff.1 (by omega)
      subst htl0 hi2
      rw [l_ge (by omega), cond_false, List.take_length, List.append_nil]
      rfl
def e53 : FuncId × TypeId × (List AV → Bool) × (List AV → Option D) := (53, 34, preD (q2 fun x y => colOK (bRows x) (intD y)), ent [25, 3] (f2 fun x y => some (.slice (columnL (bRows x) (intD y)) [])))
theorem k53 : FnOK Tryd.prog 53 Tryd.f53 := ⟨Tryd.func53, rfl, by kernel_rfl⟩
theorem c53 : ∀ args d, e53.2.2.1 args = true → e53.2.2.2 args = some d → CallOK Tryd.prog 53 args (mkRes Tryd.prog 34 d) :=
  ent2p k53 fun x y d hq h ⟨_, hx⟩ _ => by
    cases h
    rw [nB, n3]
    obtain ⟨cs, rs, rfl, h1, h2, h3, h4⟩ := tyB hx
    simp only [colOK, Bool.and_eq_true, decide_eq_true_eq, List.all_eq_true] at hq
    obtain ⟨⟨g1, g2⟩, g3⟩ := hq
    have g2 : rs.length ≤ 2147483648 := g2
    refine fn_ok hm env8 k53 ((t53 (rs.length + 1) (bagD cs rs) (intD y)).trans ?_)
    rw [m28, bagR]
    have c1 : (decide (0 ≤ (rs.length : Int)) && decide ((rs.length : Int) ≤ 2147483648)) = true := by
      simp only [Bool.and_eq_true, decide_eq_true_eq]; omega
    rw [c1, cond_true, Int.toNat_natCast]
    exact column_loop (N := rs.length + 1) (cs := cs) h2 g1 g3 (rs.length + 1) 0 _ (Nat.zero_le _) (by omega) (by simp)

/-! ### few, Three -/
def e7 : FuncId × TypeId × (List AV → Bool) × (List AV → Option D) := (7, 4, yes, ent [25, 3] (f2 fun x y => some (.lit (.bool (fewBagB x (intD y))))))
theorem k7 : FnOK Tryd.prog 7 Tryd.f7 := ⟨Tryd.func7, rfl, by kernel_rfl⟩
theorem c7 : ∀ args d, e7.2.2.2 args = some d → CallOK Tryd.prog 7 args (mkRes Tryd.prog 4 d) :=
  ent2 k7 fun x y d h ⟨_, hx⟩ _ => by
    cases h
    rw [nB, n3]
    obtain ⟨cs, rs, rfl, h1, h2, h3, h4⟩ := tyB hx
    refine fn_ok hm env8 k7 ((t7 (rs.length + 1) (bagD cs rs) (intD y)).trans ?_)
    rw [m4, bagR, bagC]
    have := l_loop (fun n v => t7_lp4 Tryd.prog Tryd.f7 (rs.length + 1) n (bagD cs rs) (intD y) v) rs.length (fun i => decide (((elemsD (rs.getD i .nil)).length : Int) > 20)) (some (dat 4 (.lit (.bool false)))) (some (dat 4 (.lit (.bool true))))
      (fun n i hi => by rw [t7_lp4_step, bagR, l_idx hi, l_lt hi, cond_true, cond_true, Int.toNat_natCast, l_wrap h2 hi])
      (fun n => by rw [t7_lp4_step, bagR, l_ge (by omega), cond_false]) (rs.length + 1) 0 (Nat.zero_le _) (by omega)
    have this : t7_lp4 Tryd.prog Tryd.f7 (rs.length + 1) (rs.length + 1) (bagD cs rs) (intD y) 0 = _ := this
    rw [this, Nat.sub_zero, l_any0 rs (fun r => decide (((elemsD r).length : Int) > 20))]
    show _ = some (dat 4 (.lit (.bool (fewBagB (bagD cs rs) (intD y)))))
    have e : fewBagB (bagD cs rs) (intD y) = (decide ((rs.length : Int) ≤ intD y) && decide (cs.length ≤ 20) && !(rs.any fun r => decide (((elemsD r).length : Int) > 20))) := by
      unfold fewBagB
      show (_ && _ && rs.all _) = _
      rw [List.all_eq_not_any_not]
      have : (fun r => !decide ((elemsD r).length ≤ 20)) = (fun r => decide (((elemsD r).length : Int) > 20)) := by
        funext r
        rw [Bool.eq_iff_iff]
        simp
        omega
      rw [this]
      rfl
    rw [e]
    have e1 : decide ((rs.length : Int) ≤ intD y) = !decide ((rs.length : Int) > intD y) := by
      rw [Bool.eq_iff_iff]; simp
    have e2 : decide (cs.length ≤ 20) = !decide ((cs.length : Int) > 20) := by
      rw [Bool.eq_iff_iff]; simp; omega
    rw [e1, e2]
    cases decide ((rs.length : Int) > intD y) <;> cases decide ((cs.length : Int) > 20) <;> cases rs.any _ <;> rfl
def e15 : FuncId × TypeId × (List AV → Bool) × (List AV → Option D) := (15, 25, yes, ent [] (f0 (some threeD)))
theorem k15 : FnOK Tryd.prog 15 Tryd.f15 := ⟨Tryd.func15, rfl, by kernel_rfl⟩
theorem c15 : ∀ args d, e15.2.2.2 args = some d → CallOK Tryd.prog 15 args (mkRes Tryd.prog 25 d) :=
  ent0 fun d h => by
    cases h
    refine fn_ok hm env8 k15 ((t15 1).trans ?_)
    rw [mB]
    rfl

/-! ### groupCols -/
theorem gcols_loop {N : Nat} {x0 : Int} {m : Nat} (hm1 : m ≤ 1000) : ∀ (n i : Nat) (l : List D), 1 ≤ i → i ≤ m + 1 → m + 1 - i < n → l = groupColsL x0 ((i - 1 : Nat) : Int) →
    t40_lp3b Tryd.prog Tryd.f40 N n x0 (m : Int) (i : Int) l = some (dat 22 (.slice (groupColsL x0 (m : Int)) []))
  | 0, i, l, _, _, h, _ => by omega
  | n + 1, i, l, h1, hi, h, hl => by
    have hw : IntKind.wrap .i64 (1 + (m : Int)) = ((m + 1 : Nat) : Int) := by rw [l_wrapI (l_in (by omega) (by omega))]; omega
    rw [t40_lp3b_step, hw]
    by_cases hlt : i < m + 1
    · have hlen : l.length = i + 1 := by rw [hl]; simp [groupColsL]; omega
      have c1 : decide (l.length + 1 ≤ 2147483648) = true := by simp; omega
      have w1 : IntKind.wrap .i64 ((i : Int) + 1) = ((i + 1 : Nat) : Int) := by rw [l_wrapI (l_in (by omega) (by omega))]; omega
      have w2 : IntKind.wrap .i64 (16 + (i : Int)) = 16 + (i : Int) := l_wrapI (l_in (by omega) (by omega))
      rw [l_lt hlt, cond_true, c1, cond_true, w1, w2]
      refine gcols_loop hm1 n (i + 1) _ (by omega) (by omega) (by omega) ?_
      rw [hl]
      unfold groupColsL
      have e1 : (((i - 1 : Nat) : Int)).toNat + 1 = i := by omega
      have e2 : (((i + 1 - 1 : Nat) : Int)).toNat + 1 = i + 1 := by omega
      rw [e1, e2, List.range_succ, List.map_append]
      rfl
    · have : i = m + 1 := by omega
      subst this
      rw [l_ge (by omega), cond_false, hl]
      rfl
def e40 : FuncId × TypeId × (List AV → Bool) × (List AV → Option D) := (40, 22, preD (q2 fun _ y => decide (0 ≤ intD y) && decide (intD y ≤ 1000)), ent [3, 3] (f2 fun x y => some (.slice (groupColsL (intD x) (intD y)) [])))
theorem k40 : FnOK Tryd.prog 40 Tryd.f40 := ⟨Tryd.func40, rfl, by kernel_rfl⟩
theorem c40 : ∀ args d, e40.2.2.1 args = true → e40.2.2.2 args = some d → CallOK Tryd.prog 40 args (mkRes Tryd.prog 22 d) :=
  ent2p k40 fun x y d hq h _ _ => by
    cases h
    rw [n3, n3]
    simp only [Bool.and_eq_true, decide_eq_true_eq] at hq
    obtain ⟨m, hmy⟩ : ∃ m : Nat, intD y = (m : Int) := ⟨(intD y).toNat, by omega⟩
    refine fn_ok hm env8 k40 ((t40 (m + 3) (intD x) (intD y)).trans ?_)
    rw [mI, hmy, t40_lp3_step]
    have hw : IntKind.wrap .i64 (1 + (m : Int)) = ((m + 1 : Nat) : Int) := by rw [l_wrapI (l_in (by omega) (by omega))]; omega
    have c0 : decide ((0 : Int) < ((m + 1 : Nat) : Int)) = true := by rw [decide_eq_true_eq]; omega
    rw [hw, c0, cond_true]
    have := gcols_loop (N := m + 3) (x0 := intD x) (m := m) (by omega) (m + 2) 1 (groupColsL (intD x) 0) (by omega) (by omega) (by omega) rfl
    exact this

/-! ### Clone -/
theorem c23' {n : Nat} {x : D} (hx : Ty Tryd.prog n 22 x) (hl : (elemsD x).length ≤ 2147483648) : CallOK Tryd.prog 23 [dat 22 x] (dat 22 x) := by
  obtain ⟨es, rfl, _, _⟩ := tyI hx
  refine evFnM_sound hm env8 uI (fn := Tryd.f23) Tryd.func23 (by kernel_rfl) (.inl rfl) (hh := t23_n_h) (fuel := 1) (fun he => ?_) ?_
  · rw [he]; exact t23_n 1
  · have h := t23_s 1 (.slice es [])
    have c1 : decide ((0 : Nat) + (elemsD (.slice es [] : D)).length ≤ 2147483648) = true := by simpa using hl
    exact (show evFnM _ _ _ _ _ _ = evFnM _ _ _ _ _ _ from rfl).trans (h.trans (by first | (rw [c1]; rfl) | (simp only [c1]; rfl)))
theorem c22' {n : Nat} {x : D} (hx : Ty Tryd.prog n 34 x) (hl : (elemsD x).length ≤ 2147483648) : CallOK Tryd.prog 22 [dat 34 x] (dat 34 x) := by
  obtain ⟨es, rfl, _, _⟩ := ty28 hx
  refine evFnM_sound hm env8 uV (fn := Tryd.f22) Tryd.func22 (by kernel_rfl) (.inl rfl) (hh := t22_n_h) (fuel := 1) (fun he => ?_) ?_
  · rw [he]; exact t22_n 1
  · have h := t22_s 1 (.slice es [])
    have c1 : decide ((0 : Nat) + (elemsD (.slice es [] : D)).length ≤ 2147483648) = true := by simpa using hl
    exact (show evFnM _ _ _ _ _ _ = evFnM _ _ _ _ _ _ from rfl).trans (h.trans (by first | (rw [c1]; rfl) | (simp only [c1]; rfl)))
def e23 : FuncId × TypeId × (List AV → Bool) × (List AV → Option D) := (23, 22, preD (q1 fun x => decide ((elemsD x).length ≤ 2147483648)), ent [22] (f1 fun x => some x))
theorem k23 : FnOK Tryd.prog 23 Tryd.f23 := ⟨Tryd.func23, rfl, by kernel_rfl⟩
theorem c23 : ∀ args d, e23.2.2.1 args = true → e23.2.2.2 args = some d → CallOK Tryd.prog 23 args (mkRes Tryd.prog 22 d) :=
  ent1p k23 fun x d hq h ⟨_, hx⟩ => by
    cases h
    rw [nI, mI]
    exact c23' hx (by simpa using hq)
def e22 : FuncId × TypeId × (List AV → Bool) × (List AV → Option D) := (22, 34, preD (q1 fun x => decide ((elemsD x).length ≤ 2147483648)), ent [34] (f1 fun x => some x))
theorem k22 : FnOK Tryd.prog 22 Tryd.f22 := ⟨Tryd.func22, rfl, by kernel_rfl⟩
theorem c22 : ∀ args d, e22.2.2.1 args = true → e22.2.2.2 args = some d → CallOK Tryd.prog 22 args (mkRes Tryd.prog 34 d) :=
  ent1p k22 fun x d hq h ⟨_, hx⟩ => by
    cases h
    rw [n28, m28]
    exact c22' hx (by simpa using hq)

def B1 : Tab := e17 :: e18 :: e45 :: e29 :: e30 :: e34 :: e41 :: e53 :: e7 :: e15 :: e40 :: e23 :: e22 :: T8
theorem envB1 : EnvOK Tryd.prog (envR B1 [] [] []) :=
  envOK_cons (envOK_cons (envOK_cons (envOK_cons (envOK_cons (envOK_cons (envOK_cons (envOK_cons' (envOK_cons (envOK_cons (envOK_cons' (envOK_cons' (envOK_cons' env8 c22) c23) c40) c15) c7) c53) c41) c34) c30) c29) c45) c18) c17

end Go.Proofs.YtbidfbpaeemhhaaDoor

namespace Go.Proofs.YtbidfbpaeemhhaaDoor
open Go.Ev
set_option linter.unusedVariables false
/- roadbook/bag.against -/
def t21_h : Hints := fun _ =>  none
theorem t21 (N : Nat) (x0 : D) (x1 : D) : evFn Tryd.prog (envR B1 [] [] []) t21_h N Tryd.f21 [dat 44 x0, dat 44 x1] =
  bif (((intD (fieldD x0 0)) == (intD (fieldD x1 0))) && (((intD (fieldD x0 1)) == (intD (fieldD x1 1))) && true)) then
    some (dat 3 (.lit (.int .i64 0)))
  else bif lessB (valueD x0) (valueD x1) then
      some (dat 3 (.lit (.int .i64 (-1))))
    else some (dat 3 (.lit (.int .i64 1))) := by kernel_rfl

/- slices.Contains[[]int,int] -/
def t37_h : Hints := fun _ =>  none
theorem t37 (N : Nat) (x0 : D) (x1 : Int) : evFn Tryd.prog (envR B1 [] [] []) t37_h N Tryd.f37 [dat 22 x0, dat 3 (.lit (.int .i64 x1))] =
  some (dat 4 (.lit (.bool (decide ((Lib.idxOf ((elemsD x0).map intD) x1) ≥ 0))))) := by kernel_rfl

/- roadbook/roadbookref03.Like -/
def t11_h : Hints := fun i => if i = 5 then some ([0, 1, 4, 5, 7, 8, 9, 10, 11, 12, 13, 14, 15, 16, 17, 18, 19, 20, 21, 22, 23, 24, 25, 26, 27, 28, 29, 30, 31, 32, 33, 34, 35, 36, 37, 38, 39, 40, 41, 42, 43], [2, 3], []) else none
def t11_lp5 (P : Program) (fn : Func) (N n : Nat) (x0 : D) (x1 : D) (v6 : Int) : Option AV := evLoop (preL t11_h (sub [1, 1, 1, 0, 1, 0, 0] (bodyOf fn))) (evCode P (envR B1 [] [] []) t11_h N (sub [1, 1, 1, 0, 1, 0, 0] (bodyOf fn))) n ⟨[dead, dead, bxp 2 25, bxp 3 25, dead, dead, dat 3 (.lit (.int .i64 v6)), dead, dead, dead, dead, dead, dead, dead, dead, dead, dead, dead, dead, dead, dead, dead, dead, dead, dead, dead, dead, dead, dead, dead, dead, dead, dead, dead, dead, dead, dead, dead, dead, dead, dead, dead, dead, dead], lookB [(2, some ⟨25, x0, 0, none⟩), (3, some ⟨25, x1, 0, none⟩)]⟩ (blockK 0 (seqC P (envR B1 [] [] []) t11_h N (sub [1, 1, 1, 1] (bodyOf fn)) (finK P fn) ))
theorem t11_lp5_step  (N n : Nat) (x0 : D) (x1 : D) (v6 : Int) : t11_lp5 Tryd.prog Tryd.f11 N (n + 1) x0 x1 v6 =
  bif decide (v6 < ((elemsD (fieldD x0 1)).length : Int)) then
    bif (decide (0 ≤ v6) && decide (v6 < ((elemsD (fieldD x0 1)).length : Int))) then
      bif (decide (0 ≤ v6) && decide (v6 < ((elemsD (fieldD x1 1)).length : Int))) then
        bif (!(rowEqB (elemsD ((elemsD (fieldD x0 1)).getD (v6).toNat .nil)) (elemsD ((elemsD (fieldD x1 1)).getD (v6).toNat .nil)))) then
          some (dat 4 (.lit (.bool false)))
        else t11_lp5 Tryd.prog Tryd.f11 N n x0 x1 (IntKind.wrap .i64 (v6 + 1))
      else none
    else none
  else some (dat 4 (.lit (.bool true))) := by kernel_rfl
theorem t11 (N : Nat) (x0 : D) (x1 : D) : evFn Tryd.prog (envR B1 [] [] []) t11_h N Tryd.f11 [dat 25 x0, dat 25 x1] =
  bif ((!(intsB (elemsD (fieldD x0 0)) (elemsD (fieldD x1 0)))) == false) then
    bif (((elemsD (fieldD x0 1)).length : Int) != ((elemsD (fieldD x1 1)).length : Int)) then
      some (dat 4 (.lit (.bool false)))
    else t11_lp5 Tryd.prog Tryd.f11 N N x0 x1 0
  else some (dat 4 (.lit (.bool false))) := by kernel_rfl

/- roadbook/bag.May -/
def t16_h : Hints := fun _ =>  none
theorem t16 (N : Nat) (x0 : D) : evFn Tryd.prog (envR B1 [] [] []) t16_h N Tryd.f16 [dat 25 x0] =
  bif ((colsMayB (elemsD (fieldD x0 0))) == true) then
    bif ((decide (((elemsD (fieldD x0 1)).length : Int) ≤ 5000)) == true) then
      some (dat 4 (.lit (.bool (rowsMayB x0))))
    else some (dat 4 (.lit (.bool false)))
  else some (dat 4 (.lit (.bool false))) := by kernel_rfl

/- roadbook/bag.alike -/
def t38_h : Hints := fun i => if i = 2 then some ([2, 3, 4, 7, 8, 9, 10, 11, 12, 13, 14, 15, 16, 17, 18, 19, 20, 21, 22, 23, 24, 25, 26, 27, 28], [6], []) else none
def t38_lp2 (P : Program) (fn : Func) (N n : Nat) (x0 : D) (x1 : Int) (v5 : Int) : Option AV := evLoop (preL t38_h (sub [1, 1, 0, 0, 0] (bodyOf fn))) (evCode P (envR B1 [] [] []) t38_h N (sub [1, 1, 0, 0, 0] (bodyOf fn))) n ⟨[dat 23 x0, dat 3 (.lit (.int .i64 x1)), dead, dead, dead, dat 3 (.lit (.int .i64 v5)), bxp 6 44, dead, dead, dead, dead, dead, dead, dead, dead, dead, dead, dead, dead, dead, dead, dead, dead, dead, dead, dead, dead, dead, dead], lookB [(6, some ⟨44, rankD (elemsD ((elemsD x0).getD 0 .nil)) x1, 0, none⟩)]⟩ (blockK 0 (seqC P (envR B1 [] [] []) t38_h N (sub [1, 1, 1] (bodyOf fn)) (finK P fn) ))
theorem t38_lp2_step  (N n : Nat) (x0 : D) (x1 : Int) (v5 : Int) : t38_lp2 Tryd.prog Tryd.f38 N (n + 1) x0 x1 v5 =
  bif ((decide (v5 < ((elemsD x0).length : Int))) == true) then
    bif (decide (0 ≤ v5) && decide (v5 < ((elemsD x0).length : Int))) then
      bif (((intD (fieldD (rankD (elemsD ((elemsD x0).getD (v5).toNat .nil)) x1) 0)) == (intD (fieldD (rankD (elemsD ((elemsD x0).getD 0 .nil)) x1) 0))) && (((intD (fieldD (rankD (elemsD ((elemsD x0).getD (v5).toNat .nil)) x1) 1)) == (intD (fieldD (rankD (elemsD ((elemsD x0).getD 0 .nil)) x1) 1))) && true)) then
        t38_lp2 Tryd.prog Tryd.f38 N n x0 x1 (IntKind.wrap .i64 (v5 + 1))
      else some (dat 3 (.lit (.int .i64 v5)))
    else none
  else some (dat 3 (.lit (.int .i64 v5))) := by kernel_rfl
theorem t38 (N : Nat) (x0 : D) (x1 : Int) : evFn Tryd.prog (envR B1 [] [] []) t38_h N Tryd.f38 [dat 23 x0, dat 3 (.lit (.int .i64 x1))] =
  bif (decide (0 ≤ (0 : Int)) && decide ((0 : Int) < ((elemsD x0).length : Int))) then
    t38_lp2 Tryd.prog Tryd.f38 N N x0 x1 1
  else none := by kernel_rfl

/- roadbook/bag.summedUp -/
def t39_h : Hints := fun i => if i = 3 then some ([0, 1, 2, 4, 5, 6, 8, 9, 10, 11, 12, 13, 14, 15, 16, 17, 18, 19, 20, 21, 25, 26, 27, 28, 29, 30, 31, 32, 33, 34, 35, 36, 37, 38, 39], [3, 37, 900000], []) else none
def t39_lp3 (P : Program) (fn : Func) (N n : Nat) (x0 : D) (x1 : Int) (x2 : D) (v7 : List D) (v24 : Int) : Option AV := evLoop (preL t39_h (sub [1, 1, 0, 1, 0, 0] (bodyOf fn))) (evCode P (envR B1 [] [] []) t39_h N (sub [1, 1, 0, 1, 0, 0] (bodyOf fn))) n ⟨[dead, dead, dead, bxp 3 25, dead, dead, dead, ful 34 (.slice v7 []), dead, dead, dead, dead, dead, dead, dead, dead, dead, dead, dead, dead, dead, dead, dat 22 x2, dat 3 (.lit (.int .i64 ((elemsD x2).length : Int))), dat 3 (.lit (.int .i64 v24)), dead, dead, dead, dead, dead, dead, dead, dead, dead, dead, dead, dead, dead, dead, dead], lookB [(3, some ⟨25, x0, 0, none⟩), (37, none), (900000, none)]⟩ (blockK 0 (seqC P (envR B1 [] [] []) t39_h N (sub [1, 1, 1] (bodyOf fn)) (finK P fn) ))
def t39_lp3b (P : Program) (fn : Func) (N n : Nat) (x0 : D) (x1 : Int) (x2 : D) (v24 : Int) (b37 : List D) : Option AV := evLoop (preL t39_h (sub [1, 1, 0, 1, 0, 0] (bodyOf fn))) (evCode P (envR B1 [] [] []) t39_h N (sub [1, 1, 0, 1, 0, 0] (bodyOf fn))) n ⟨[dead, dead, dead, bxp 3 25, dead, dead, dead, bxp 37 34, dead, dead, dead, dead, dead, dead, dead, dead, dead, dead, dead, dead, dead, dead, dat 22 x2, dat 3 (.lit (.int .i64 ((elemsD x2).length : Int))), dat 3 (.lit (.int .i64 v24)), dead, dead, dead, dead, dead, dead, dead, dead, dead, dead, dead, dead, dead, dead, dead], lookB [(3, some ⟨25, x0, 0, none⟩), (37, some ⟨34, .slice b37 [], 2, none⟩), (900000, none)]⟩ (blockK 0 (seqC P (envR B1 [] [] []) t39_h N (sub [1, 1, 1] (bodyOf fn)) (finK P fn) ))
theorem t39_lp3b_step  (N n : Nat) (x0 : D) (x1 : Int) (x2 : D) (v24 : Int) (b37 : List D) : t39_lp3b Tryd.prog Tryd.f39 N (n + 1) x0 x1 x2 v24 b37 =
  bif decide (v24 < ((elemsD x2).length : Int)) then
    bif (decide (0 ≤ v24) && decide (v24 < ((elemsD x2).length : Int))) then
      bif colOK (bRows x0) (Lib.idxOf ((elemsD (fieldD x0 0)).map intD) (intD ((elemsD x2).getD (v24).toNat .nil))) then
        bif decide ((b37).length + 1 ≤ 2147483648) then
          t39_lp3b Tryd.prog Tryd.f39 N n x0 x1 x2 (IntKind.wrap .i64 (v24 + 1)) (b37 ++ [sumD (columnL (bRows x0) (Lib.idxOf ((elemsD (fieldD x0 0)).map intD) (intD ((elemsD x2).getD (v24).toNat .nil))))])
        else none
      else none
    else none
  else some (dat 34 (.slice b37 [])) := by kernel_rfl
theorem t39_lp3_step  (N n : Nat) (x0 : D) (x1 : Int) (x2 : D) (v7 : List D) (v24 : Int) : t39_lp3 Tryd.prog Tryd.f39 N (n + 1) x0 x1 x2 v7 v24 =
  bif decide (v24 < ((elemsD x2).length : Int)) then
    bif (decide (0 ≤ v24) && decide (v24 < ((elemsD x2).length : Int))) then
      bif colOK (bRows x0) (Lib.idxOf ((elemsD (fieldD x0 0)).map intD) (intD ((elemsD x2).getD (v24).toNat .nil))) then
        bif decide ((v7).length + 1 ≤ 2147483648) then
          t39_lp3b Tryd.prog Tryd.f39 N n x0 x1 x2 (IntKind.wrap .i64 (v24 + 1)) (v7 ++ [sumD (columnL (bRows x0) (Lib.idxOf ((elemsD (fieldD x0 0)).map intD) (intD ((elemsD x2).getD (v24).toNat .nil))))])
        else none
      else none
    else none
  else some (dat 34 (.slice v7 [])) := by kernel_rfl
theorem t39 (N : Nat) (x0 : D) (x1 : Int) (x2 : D) : evFn Tryd.prog (envR B1 [] [] []) t39_h N Tryd.f39 [dat 25 x0, dat 3 (.lit (.int .i64 x1)), dat 22 x2] =
  bif (decide (0 ≤ (0 : Int)) && decide ((0 : Int) < ((elemsD (fieldD x0 1)).length : Int))) then
    bif (decide (0 ≤ x1) && decide (x1 < ((elemsD ((elemsD (fieldD x0 1)).getD 0 .nil)).length : Int))) then
      t39_lp3 Tryd.prog Tryd.f39 N N x0 x1 x2 [(elemsD ((elemsD (fieldD x0 1)).getD 0 .nil)).getD (x1).toNat .nil, .agg [.lit (.int .i64 0), .lit (.int .i64 ((elemsD (fieldD x0 1)).length : Int))]] 0
    else none
  else none := by kernel_rfl

end Go.Proofs.YtbidfbpaeemhhaaDoor

namespace Go.Proofs.YtbidfbpaeemhhaaDoor
open Go.Ev
set_option linter.unusedVariables false
set_option maxRecDepth 10000
set_option linter.unusedSimpArgs false

def e21 : FuncId × TypeId × (List AV → Bool) × (List AV → Option D) := (21, 3, yes, ent [44, 44] (f2 fun x y => some (.lit (.int .i64 (againstI x y)))))
theorem k21 : FnOK Tryd.prog 21 Tryd.f21 := ⟨Tryd.func21, rfl, by kernel_rfl⟩
theorem c21 : ∀ args d, e21.2.2.2 args = some d → CallOK Tryd.prog 21 args (mkRes Tryd.prog 3 d) :=
  ent2 k21 fun x y d h _ _ => by
    cases h
    rw [nK, nK]
    refine fn_ok hm envB1 k21 ((t21 1 x y).trans ?_)
    rw [m3]
    show _ = some (dat 3 (.lit (.int .i64 (againstI x y))))
    unfold againstI rankEq
    cases ((intD (fieldD x 0) == intD (fieldD y 0)) && ((intD (fieldD x 1) == intD (fieldD y 1)) && true)) <;> cases lessB (valueD x) (valueD y) <;> rfl
def e37 : FuncId × TypeId × (List AV → Bool) × (List AV → Option D) := (37, 4, yes, ent [22, 3] (f2 fun x y => some (.lit (.bool (hasB (elemsD x) (intD y))))))
theorem k37 : FnOK Tryd.prog 37 Tryd.f37 := ⟨Tryd.func37, rfl, by kernel_rfl⟩
theorem c37 : ∀ args d, e37.2.2.2 args = some d → CallOK Tryd.prog 37 args (mkRes Tryd.prog 4 d) :=
  ent2 k37 fun x y d h _ _ => by
    cases h
    rw [nI, n3]
    refine fn_ok hm envB1 k37 ((t37 1 x (intD y)).trans ?_)
    rw [m4]
    show _ = some (dat 4 (.lit (.bool (hasB (elemsD x) (intD y)))))
    have : decide (Lib.idxOf ((elemsD x).map intD) (intD y) ≥ 0) = hasB (elemsD x) (intD y) := by
      unfold hasB
      rw [Bool.eq_iff_iff, decide_eq_true_eq]
      have := Lib.idxOf_nonneg_iff ((elemsD x).map intD) (intD y)
      exact Iff.of_eq this
    rw [this]

def e11 : FuncId × TypeId × (List AV → Bool) × (List AV → Option D) := (11, 4, yes, ent [25, 25] (f2 fun x y => some (.lit (.bool (likeB x y)))))
theorem k11 : FnOK Tryd.prog 11 Tryd.f11 := ⟨Tryd.func11, rfl, by kernel_rfl⟩
theorem rowI_beq (a b : D) : rowEqB (elemsD a) (elemsD b) = (rowI a == rowI b) := rfl
theorem c11 : ∀ args d, e11.2.2.2 args = some d → CallOK Tryd.prog 11 args (mkRes Tryd.prog 4 d) :=
  ent2 k11 fun x y d h ⟨_, hx⟩ ⟨_, hy⟩ => by
    cases h
    rw [nB, nB]
    obtain ⟨cs, rs, rfl, h1, h2, h3, h4⟩ := tyB hx
    obtain ⟨cs', rs', rfl, h1', h2', h3', h4'⟩ := tyB hy
    refine fn_ok hm envB1 k11 ((t11 (rs.length + 1) (bagD cs rs) (bagD cs' rs')).trans ?_)
    rw [m4, bagR, bagC, bagR, bagC]
    show _ = some (dat 4 (.lit (.bool (intsB cs cs' && (rs.map rowI == rs'.map rowI)))))
    by_cases hl : rs.length = rs'.length
    · have := l_loop (fun n v => t11_lp5 Tryd.prog Tryd.f11 (rs.length + 1) n (bagD cs rs) (bagD cs' rs') v) rs.length (fun i => !(rowI (rs.getD i .nil) == rowI (rs'.getD i .nil))) (some (dat 4 (.lit (.bool false)))) (some (dat 4 (.lit (.bool true))))
        (fun n i hi => by
          rw [t11_lp5_step, bagR, bagR, l_idx hi, l_lt hi, l_idx (by omega : i < rs'.length), cond_true, cond_true, cond_true, l_wrap h2 hi, Int.toNat_natCast, rowI_beq])
        (fun n => by rw [t11_lp5_step, bagR, l_ge (by omega), cond_false]) (rs.length + 1) 0 (Nat.zero_le _) (by omega)
      have this : t11_lp5 Tryd.prog Tryd.f11 (rs.length + 1) (rs.length + 1) (bagD cs rs) (bagD cs' rs') 0 = _ := this
      have h5 := l_any2 rowI rs rs' hl
      rw [l_nef hl, this, ← h5, Nat.sub_zero]
      cases intsB cs cs' <;> cases (List.range' 0 rs.length).any _ <;> rfl
    · have : (rs.map rowI == rs'.map rowI) = false := by
        rw [beq_eq_false_iff_ne]
        intro hh
        exact hl (by simpa using congrArg List.length hh)
      rw [l_net hl, this]
      cases intsB cs cs' <;> rfl

def e16 : FuncId × TypeId × (List AV → Bool) × (List AV → Option D) := (16, 4, yes, ent [25] (f1 fun x => some (.lit (.bool (mayBagB x)))))
theorem k16 : FnOK Tryd.prog 16 Tryd.f16 := ⟨Tryd.func16, rfl, by kernel_rfl⟩
theorem c16 : ∀ args d, e16.2.2.2 args = some d → CallOK Tryd.prog 16 args (mkRes Tryd.prog 4 d) :=
  ent1 k16 fun x d h _ => by
    cases h
    rw [nB]
    refine fn_ok hm envB1 k16 ((t16 1 x).trans ?_)
    rw [m4]
    show _ = some (dat 4 (.lit (.bool (mayBagB x))))
    unfold mayBagB bRows bCols
    have e : decide (((elemsD (fieldD x 1)).length : Int) ≤ 5000) = decide ((elemsD (fieldD x 1)).length ≤ 5000) := by
      rw [Bool.eq_iff_iff]; simp; omega
    rw [e]
    cases colsMayB (elemsD (fieldD x 0)) <;> cases decide ((elemsD (fieldD x 1)).length ≤ 5000) <;> rfl

theorem alike_loop {N : Nat} {x0 : D} {x1 : Int} (hl : (elemsD x0).length ≤ maxLen) : ∀ (n i : Nat), i ≤ (elemsD x0).length → (elemsD x0).length - i < n →
    t38_lp2 Tryd.prog Tryd.f38 N n x0 x1 (i : Int) = some (dat 3 (.lit (.int .i64 ((i + (((elemsD x0).drop i).takeWhile fun r => rankEq (rankD (elemsD r) x1) (rankD (elemsD ((elemsD x0).getD 0 .nil)) x1)).length : Nat) : Int))))
  | 0, i, _, h => by omega
  | n + 1, i, hi, h => by
    rw [t38_lp2_step]
    by_cases hlt : i < (elemsD x0).length
    · rw [l_idx hlt, l_lt hlt, Int.toNat_natCast, l_get hlt, l_wrap hl hlt, alike_loop hl n (i + 1) (by omega) (by omega), List.drop_eq_getElem_cons hlt, List.takeWhile_cons]
      have e : ∀ a b : D, ((intD (fieldD a 0) == intD (fieldD b 0)) && ((intD (fieldD a 1) == intD (fieldD b 1)) && true)) = rankEq a b := fun _ _ => rfl
      rw [e]
      cases rankEq (rankD (elemsD (elemsD x0)[i]) x1) (rankD (elemsD ((elemsD x0).getD 0 .nil)) x1) with
      | true =>
        simp only [beq_self_eq_true, cond_true, if_true, List.length_cons]
        congr 5
        omega
      | false => simp [cond_false]
    · have h2 : (elemsD x0).drop i = [] := List.drop_of_length_le (by omega)
      rw [l_ge hlt, h2]
      rfl
def e38 : FuncId × TypeId × (List AV → Bool) × (List AV → Option D) := (38, 3, preD (q2 fun x _ => decide (0 < (elemsD x).length)), ent [23, 3] (f2 fun x y => some (.lit (.int .i64 (alikeN (elemsD x) (intD y) : Int)))))
theorem k38 : FnOK Tryd.prog 38 Tryd.f38 := ⟨Tryd.func38, rfl, by kernel_rfl⟩
theorem c38 : ∀ args d, e38.2.2.1 args = true → e38.2.2.2 args = some d → CallOK Tryd.prog 38 args (mkRes Tryd.prog 3 d) :=
  ent2p k38 fun x y d hq h ⟨_, hx⟩ _ => by
    cases h
    rw [nR, n3]
    have hq : 0 < (elemsD x).length := by simpa using hq
    refine fn_ok hm envB1 k38 ((t38 ((elemsD x).length + 1) x (intD y)).trans ?_)
    rw [m3]
    have c1 : (decide ((0 : Int) ≤ 0) && decide ((0 : Int) < ((elemsD x).length : Int))) = true := by
      simp only [Bool.and_eq_true, decide_eq_true_eq]; omega
    rw [c1, cond_true]
    exact alike_loop (N := (elemsD x).length + 1) (lenR hx) ((elemsD x).length + 1) 1 (by omega) (by omega)

/-! ### summedUp -/
theorem summed_loop {N : Nat} {x0 x2 : D} {x1 : Int} (hl : (elemsD x2).length ≤ 1000) (hok : ∀ c ∈ elemsD x2, colOK (bRows x0) (placeI (bCols x0) (intD c)) = true) (F : List D) (hF : F.length = 2) : ∀ (n i : Nat), 1 ≤ i → i ≤ (elemsD x2).length → (elemsD x2).length - i < n →
    t39_lp3b Tryd.prog Tryd.f39 N n x0 x1 x2 (i : Int) (F ++ ((elemsD x2).take i).map fun c => sumD (columnL (bRows x0) (placeI (bCols x0) (intD c)))) =
      some (dat 34 (.slice (F ++ (elemsD x2).map fun c => sumD (columnL (bRows x0) (placeI (bCols x0) (intD c)))) []))
  | 0, i, _, _, h => by omega
  | n + 1, i, h1, hi, h => by
    rw [t39_lp3b_step]
    by_cases hlt : i < (elemsD x2).length
    · have hm1 : (elemsD x2).length ≤ maxLen := by unfold maxLen; omega
      have hc := hok _ (List.getElem_mem hlt)
      have hc' : colOK (bRows x0) (Lib.idxOf ((elemsD (fieldD x0 0)).map intD) (intD (elemsD x2)[i])) = true := hc
      have hlen : decide ((F ++ ((elemsD x2).take i).map fun c => sumD (columnL (bRows x0) (placeI (bCols x0) (intD c)))).length + 1 ≤ 2147483648) = true := by
        simp; omega
      rw [l_idx hlt, l_lt hlt, cond_true, cond_true, Int.toNat_natCast, l_get hlt, hc', cond_true, hlen, cond_true, l_wrap hm1 hlt]
      have e : (F ++ ((elemsD x2).take i).map (fun c => sumD (columnL (bRows x0) (placeI (bCols x0) (intD c))))) ++ [sumD (columnL (bRows x0) (Lib.idxOf ((elemsD (fieldD x0 0)).map intD) (intD (elemsD x2)[i])))] = F ++ ((elemsD x2).take (i + 1)).map fun c => sumD (columnL (bRows x0) (placeI (bCols x0) (intD c))) := by
        rw [List.take_succ_eq_append_getElem hlt, List.map_append, List.append_assoc]
        rfl
      rw [e]
      exact summed_loop hl hok F hF n (i + 1) (by omega) (by omega) (by omega)
    · have hi2 : i = (elemsD x2).length := by omega
      subst hi2
      rw [l_ge (by omega), cond_false, List.take_length]
def e39 : FuncId × TypeId × (List AV → Bool) × (List AV → Option D) := (39, 34, preD (q3 fun x y z => sumOK x (intD y) (elemsD z)), ent [25, 3, 22] (f3 fun x y z => some (.slice (summedL x (intD y) (elemsD z)) [])))
theorem k39 : FnOK Tryd.prog 39 Tryd.f39 := ⟨Tryd.func39, rfl, by kernel_rfl⟩
theorem c39 : ∀ args d, e39.2.2.1 args = true → e39.2.2.2 args = some d → CallOK Tryd.prog 39 args (mkRes Tryd.prog 34 d) :=
  ent3p k39 fun x y z d hq h ⟨_, hx⟩ _ ⟨_, hz⟩ => by
    cases h
    rw [nB, n3, nI]
    simp only [sumOK, Bool.and_eq_true, decide_eq_true_eq, List.all_eq_true] at hq
    obtain ⟨⟨⟨g1, g2⟩, g3⟩, g4⟩ := hq
    refine fn_ok hm envB1 k39 ((t39 ((elemsD z).length + 2) x (intD y) z).trans ?_)
    rw [m28]
    have c1 : (decide ((0 : Int) ≤ 0) && decide ((0 : Int) < ((elemsD (fieldD x 1)).length : Int))) = true := by
      have : 0 < (elemsD (fieldD x 1)).length := g1
      simp only [Bool.and_eq_true, decide_eq_true_eq]; omega
    have g3' := g3
    simp only [colOK, Bool.and_eq_true, decide_eq_true_eq, List.all_eq_true] at g3'
    have hm0 : (elemsD (fieldD x 1)).getD 0 .nil ∈ bRows x := by
      have h0 : 0 < (elemsD (fieldD x 1)).length := g1
      rw [l_get h0]; exact List.getElem_mem h0
    have c2 : (decide (0 ≤ intD y) && decide (intD y < ((elemsD ((elemsD (fieldD x 1)).getD 0 .nil)).length : Int))) = true := by
      simp only [Bool.and_eq_true, decide_eq_true_eq]
      exact ⟨g3'.1.1, g3'.2 _ hm0⟩
    rw [c1, cond_true, c2, cond_true, t39_lp3_step]
    have hm1 : (elemsD z).length ≤ maxLen := by unfold maxLen; omega
    show _ = some (dat 34 (.slice ([(elemsD ((bRows x).getD 0 .nil)).getD (intD y).toNat .nil, vv 0 ((bRows x).length : Int)] ++ (elemsD z).map fun c => sumD (columnL (bRows x) (placeI (bCols x) (intD c)))) []))
    by_cases hz0 : 0 < (elemsD z).length
    · have hc := g4 _ (List.getElem_mem hz0)
      have hc' : colOK (bRows x) (Lib.idxOf ((elemsD (fieldD x 0)).map intD) (intD (elemsD z)[0])) = true := hc
      have i1 : (decide ((0 : Int) ≤ 0) && decide ((0 : Int) < ((elemsD z).length : Int))) = true := l_idx (i := 0) hz0
      have i2 : decide ((0 : Int) < ((elemsD z).length : Int)) = true := l_lt (i := 0) hz0
      have w1 : IntKind.wrap .i64 ((0 : Int) + 1) = ((1 : Nat) : Int) := l_wrap (i := 0) hm1 hz0
      have t0 : ((0 : Int)).toNat = 0 := rfl
      rw [i1, i2, cond_true, cond_true, t0, l_get hz0, hc', cond_true, w1]
      have := summed_loop (N := (elemsD z).length + 2) (x0 := x) (x1 := intD y) g2 g4 [(elemsD ((bRows x).getD 0 .nil)).getD (intD y).toNat .nil, vv 0 ((bRows x).length : Int)] rfl ((elemsD z).length + 1) 1 (by omega) (by omega) (by omega)
      refine Eq.trans ?_ this
      have : (elemsD z).take 1 = [(elemsD z)[0]] := by
        rw [List.take_succ_eq_append_getElem hz0]; rfl
      rw [this]
      rfl
    · have hz1 : elemsD z = [] := List.length_eq_zero_iff.1 (by omega)
      have i2 : decide ((0 : Int) < ((elemsD z).length : Int)) = false := by rw [hz1]; rfl
      rw [i2, cond_false, hz1]
      rfl

def B2 : Tab := e21 :: e37 :: e11 :: e16 :: e38 :: e39 :: B1
theorem envB2 : EnvOK Tryd.prog (envR B2 [] [] []) :=
  envOK_cons (envOK_cons (envOK_cons (envOK_cons (envOK_cons' (envOK_cons' envB1 c39) c38) c16) c11) c37) c21

end Go.Proofs.YtbidfbpaeemhhaaDoor
