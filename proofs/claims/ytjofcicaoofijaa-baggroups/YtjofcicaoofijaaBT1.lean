/- What the evaluator comes to, function by function: by the kernel. Nothing here is trusted. -/
import Derived.Test.YtjofcicaoofijaaVQ4
import Derived.Test.YtjofcicaoofijaaVB
import Derived.Test.YtjofcicaoofijaaVH
namespace Go.Proofs.Ytjofcicaoofijaa
open Go.Ev
set_option linter.unusedVariables false
/- slices.Index[[]int,int] -/
def t14_h : Hints := fun i => if i = 2 then some ([2, 3, 4, 5, 6, 9, 10, 11, 12, 13, 14, 15, 16, 17, 18], [], []) else none
def t14_lp2 (P : Program) (fn : Func) (N n : Nat) (x0 : D) (x1 : Int) (v8 : Int) : Option AV := evLoop (preL t14_h (sub [1, 0, 1, 0, 0] (bodyOf fn))) (evCode P (envR T8 [] [] []) t14_h N (sub [1, 0, 1, 0, 0] (bodyOf fn))) n ⟨[dat 22 x0, dat 3 (.lit (.int .i64 x1)), dead, dead, dead, dead, dead, dat 3 (.lit (.int .i64 ((elemsD x0).length : Int))), dat 3 (.lit (.int .i64 v8)), dead, dead, dead, dead, dead, dead, dead, dead, dead, dead], lookB []⟩ (blockK 0 (seqC P (envR T8 [] [] []) t14_h N (sub [1, 1] (bodyOf fn)) (finK P fn) ))
theorem t14_lp2_step  (N n : Nat) (x0 : D) (x1 : Int) (v8 : Int) : t14_lp2 Try.prog Try.f14 N (n + 1) x0 x1 v8 =
  bif decide (v8 < ((elemsD x0).length : Int)) then
    bif (decide (0 ≤ v8) && decide (v8 < ((elemsD x0).length : Int))) then
      bif (x1 == (intD ((elemsD x0).getD (v8).toNat .nil))) then
        some (dat 3 (.lit (.int .i64 v8)))
      else t14_lp2 Try.prog Try.f14 N n x0 x1 (IntKind.wrap .i64 (v8 + 1))
    else none
  else some (dat 3 (.lit (.int .i64 (-1)))) := by kernel_rfl
theorem t14 (N : Nat) (x0 : D) (x1 : Int) : evFn Try.prog (envR T8 [] [] []) t14_h N Try.f14 [dat 22 x0, dat 3 (.lit (.int .i64 x1))] =
  t14_lp2 Try.prog Try.f14 N N x0 x1 0 := by kernel_rfl

/- roadbook/bag.rankAt -/
def t18_h : Hints := fun _ =>  none
theorem t18 (N : Nat) (x0 : D) (x1 : Int) : evFn Try.prog (envR T8 [] [] []) t18_h N Try.f18 [dat 32 x0, dat 3 (.lit (.int .i64 x1))] =
  bif ((decide (x1 < 0)) == false) then
    bif decide (x1 ≥ ((elemsD x0).length : Int)) then
      some (dat 46 (.agg [.lit (.int .i64 0), .lit (.int .i64 0)]))
    else bif (decide (0 ≤ x1) && decide (x1 < ((elemsD x0).length : Int))) then
        bif mayB ((elemsD x0).getD (x1).toNat .nil) then
          some (dat 46 (.agg [.lit (.int .i64 (intD (fieldD ((elemsD x0).getD (x1).toNat .nil) 0))), .lit (.int .i64 (intD (fieldD ((elemsD x0).getD (x1).toNat .nil) 1)))]))
        else some (dat 46 (.agg [.lit (.int .i64 2), .lit (.int .i64 0)]))
      else none
  else some (dat 46 (.agg [.lit (.int .i64 0), .lit (.int .i64 0)])) := by kernel_rfl

/- (roadbook/bag.rank).value -/
def t36_h : Hints := fun _ =>  none
theorem t36 (N : Nat) (x0 : D) : evFn Try.prog (envR T8 [] [] []) t36_h N Try.f36 [dat 46 x0] =
  some (dat 34 (.agg [.lit (.int .i64 (intD (fieldD x0 0))), .lit (.int .i64 (intD (fieldD x0 1)))])) := by kernel_rfl

/- roadbook/roadbookref02.Ints -/
def t24_h : Hints := fun i => if i = 4 then some ([2, 3, 4, 6, 7, 8, 9, 10, 11, 12, 13, 14, 15, 16, 17, 18, 19, 20, 21, 22, 23, 24, 25], [], []) else none
def t24_lp4 (P : Program) (fn : Func) (N n : Nat) (x0 : D) (x1 : D) (v5 : Int) : Option AV := evLoop (preL t24_h (sub [1, 1, 0, 1, 0, 0] (bodyOf fn))) (evCode P (envR T8 [] [] []) t24_h N (sub [1, 1, 0, 1, 0, 0] (bodyOf fn))) n ⟨[dat 22 x0, dat 22 x1, dead, dead, dead, dat 3 (.lit (.int .i64 v5)), dead, dead, dead, dead, dead, dead, dead, dead, dead, dead, dead, dead, dead, dead, dead, dead, dead, dead, dead, dead], lookB []⟩ (blockK 0 (seqC P (envR T8 [] [] []) t24_h N (sub [1, 1, 1] (bodyOf fn)) (finK P fn) ))
theorem t24_lp4_step  (N n : Nat) (x0 : D) (x1 : D) (v5 : Int) : t24_lp4 Try.prog Try.f24 N (n + 1) x0 x1 v5 =
  bif decide (v5 < ((elemsD x0).length : Int)) then
    bif (decide (0 ≤ v5) && decide (v5 < ((elemsD x0).length : Int))) then
      bif (decide (0 ≤ v5) && decide (v5 < ((elemsD x1).length : Int))) then
        bif ((intD ((elemsD x0).getD (v5).toNat .nil)) != (intD ((elemsD x1).getD (v5).toNat .nil))) then
          some (dat 4 (.lit (.bool false)))
        else t24_lp4 Try.prog Try.f24 N n x0 x1 (IntKind.wrap .i64 (v5 + 1))
      else none
    else none
  else some (dat 4 (.lit (.bool true))) := by kernel_rfl
theorem t24 (N : Nat) (x0 : D) (x1 : D) : evFn Try.prog (envR T8 [] [] []) t24_h N Try.f24 [dat 22 x0, dat 22 x1] =
  bif (((elemsD x0).length : Int) != ((elemsD x1).length : Int)) then
    some (dat 4 (.lit (.bool false)))
  else t24_lp4 Try.prog Try.f24 N N x0 x1 0 := by kernel_rfl

/- roadbook/roadbookref03.Row -/
def t25_h : Hints := fun i => if i = 4 then some ([2, 3, 4, 6, 7, 8, 9, 10, 11, 12, 13, 14, 15, 16, 17, 18, 19, 20, 21, 22, 23, 24, 25], [], []) else none
def t25_lp4 (P : Program) (fn : Func) (N n : Nat) (x0 : D) (x1 : D) (v5 : Int) : Option AV := evLoop (preL t25_h (sub [1, 1, 0, 1, 0, 0] (bodyOf fn))) (evCode P (envR T8 [] [] []) t25_h N (sub [1, 1, 0, 1, 0, 0] (bodyOf fn))) n ⟨[dat 32 x0, dat 32 x1, dead, dead, dead, dat 3 (.lit (.int .i64 v5)), dead, dead, dead, dead, dead, dead, dead, dead, dead, dead, dead, dead, dead, dead, dead, dead, dead, dead, dead, dead], lookB []⟩ (blockK 0 (seqC P (envR T8 [] [] []) t25_h N (sub [1, 1, 1] (bodyOf fn)) (finK P fn) ))
theorem t25_lp4_step  (N n : Nat) (x0 : D) (x1 : D) (v5 : Int) : t25_lp4 Try.prog Try.f25 N (n + 1) x0 x1 v5 =
  bif decide (v5 < ((elemsD x0).length : Int)) then
    bif (decide (0 ≤ v5) && decide (v5 < ((elemsD x0).length : Int))) then
      bif (decide (0 ≤ v5) && decide (v5 < ((elemsD x1).length : Int))) then
        bif (!(((intD (fieldD ((elemsD x0).getD (v5).toNat .nil) 0)) == (intD (fieldD ((elemsD x1).getD (v5).toNat .nil) 0))) && (((intD (fieldD ((elemsD x0).getD (v5).toNat .nil) 1)) == (intD (fieldD ((elemsD x1).getD (v5).toNat .nil) 1))) && true))) then
          some (dat 4 (.lit (.bool false)))
        else t25_lp4 Try.prog Try.f25 N n x0 x1 (IntKind.wrap .i64 (v5 + 1))
      else none
    else none
  else some (dat 4 (.lit (.bool true))) := by kernel_rfl
theorem t25 (N : Nat) (x0 : D) (x1 : D) : evFn Try.prog (envR T8 [] [] []) t25_h N Try.f25 [dat 32 x0, dat 32 x1] =
  bif (((elemsD x0).length : Int) != ((elemsD x1).length : Int)) then
    some (dat 4 (.lit (.bool false)))
  else t25_lp4 Try.prog Try.f25 N N x0 x1 0 := by kernel_rfl

/- roadbook/bag.colsMay -/
def t28_h : Hints := fun i => if i = 3 then some ([0, 1, 2, 4, 5, 9, 10, 11, 12, 13, 14, 15, 16, 17, 18, 19, 20, 21, 22, 23, 24, 25], [3], []) else none
def t28_lp3 (P : Program) (fn : Func) (N n : Nat) (x0 : D) (v8 : Int) (b3 : D) : Option AV := evLoop (preL t28_h (sub [1, 1, 0, 1, 0, 0] (bodyOf fn))) (evCode P (envR T8 [] [] []) t28_h N (sub [1, 1, 0, 1, 0, 0] (bodyOf fn))) n ⟨[dead, dead, dead, bxp 3 66, dead, dead, dat 22 x0, dat 3 (.lit (.int .i64 ((elemsD x0).length : Int))), dat 3 (.lit (.int .i64 v8)), dead, dead, dead, dead, dead, dead, dead, dead, dead, dead, dead, dead, dead, dead, dead, dead, dead], lookB [(3, some ⟨66, b3, 0, none⟩)]⟩ (blockK 0 (seqC P (envR T8 [] [] []) t28_h N (sub [1, 1, 1] (bodyOf fn)) (finK P fn) ))
theorem t28_lp3_step  (N n : Nat) (x0 : D) (v8 : Int) (b3 : D) : t28_lp3 Try.prog Try.f28 N (n + 1) x0 v8 b3 =
  bif decide (v8 < ((elemsD x0).length : Int)) then
    bif (decide (0 ≤ v8) && decide (v8 < ((elemsD x0).length : Int))) then
      bif ((decide ((intD ((elemsD x0).getD (v8).toNat .nil)) < 0)) == false) then
        bif ((decide ((intD ((elemsD x0).getD (v8).toNat .nil)) > 15)) == false) then
          bif (decide (0 ≤ (intD ((elemsD x0).getD (v8).toNat .nil))) && decide ((intD ((elemsD x0).getD (v8).toNat .nil)) < (16 : Int))) then
            bif boolD (fieldD b3 (intD ((elemsD x0).getD (v8).toNat .nil)).toNat) then
              some (dat 4 (.lit (.bool false)))
            else bif (decide (0 ≤ (intD ((elemsD x0).getD (v8).toNat .nil))) && decide ((intD ((elemsD x0).getD (v8).toNat .nil)) < (16 : Int))) then
                t28_lp3 Try.prog Try.f28 N n x0 (IntKind.wrap .i64 (v8 + 1)) (setD b3 (intD ((elemsD x0).getD (v8).toNat .nil)).toNat (.lit (.bool true)))
              else none
          else none
        else some (dat 4 (.lit (.bool false)))
      else some (dat 4 (.lit (.bool false)))
    else none
  else some (dat 4 (.lit (.bool true))) := by kernel_rfl
theorem t28 (N : Nat) (x0 : D) : evFn Try.prog (envR T8 [] [] []) t28_h N Try.f28 [dat 22 x0] =
  t28_lp3 Try.prog Try.f28 N N x0 0 (.agg [.lit (.bool false), .lit (.bool false), .lit (.bool false), .lit (.bool false), .lit (.bool false), .lit (.bool false), .lit (.bool false), .lit (.bool false), .lit (.bool false), .lit (.bool false), .lit (.bool false), .lit (.bool false), .lit (.bool false), .lit (.bool false), .lit (.bool false), .lit (.bool false)]) := by kernel_rfl

/- roadbook/bag.rowsMay -/
def t29_h : Hints := fun i => if i = 2 then some ([0, 2, 3, 4, 5, 6, 7, 11, 12, 13, 14, 15, 16, 17, 18, 19, 20, 21, 22, 23, 24, 25, 26, 27, 28, 29, 30], [1], []) else if i = 7 then some ([0, 2, 3, 4, 5, 6, 7, 11, 12, 13, 14, 15, 16, 17, 18, 19, 23, 24, 25, 26, 27, 28, 29, 30], [1], []) else none
def t29_lp2 (P : Program) (fn : Func) (N n : Nat) (x0 : D) (v10 : Int) : Option AV := evLoop (preL t29_h (sub [1, 0, 1, 0, 0] (bodyOf fn))) (evCode P (envR T8 [] [] []) t29_h N (sub [1, 0, 1, 0, 0] (bodyOf fn))) n ⟨[dead, bxp 1 25, dead, dead, dead, dead, dead, dead, dat 23 (fieldD x0 1), dat 3 (.lit (.int .i64 ((elemsD (fieldD x0 1)).length : Int))), dat 3 (.lit (.int .i64 v10)), dead, dead, dead, dead, dead, dead, dead, dead, dead, dead, dead, dead, dead, dead, dead, dead, dead, dead, dead, dead], lookB [(1, some ⟨25, x0, 0, none⟩)]⟩ (blockK 0 (seqC P (envR T8 [] [] []) t29_h N (sub [1, 1] (bodyOf fn)) (finK P fn) ))
def t29_lp7 (P : Program) (fn : Func) (N n : Nat) (x0 : D) (v10 : Int) (m0 : Nat) (v22 : Int) : Option AV := evLoop (preL t29_h (sub [1, 0, 1, 0, 0, 1, 1, 0, 0, 1, 1, 1, 0, 0] (bodyOf fn))) (evCode P (envR T8 [] [] []) t29_h N (sub [1, 0, 1, 0, 0, 1, 1, 0, 0, 1, 1, 1, 0, 0] (bodyOf fn))) n ⟨[dead, bxp 1 25, dead, dead, dead, dead, dead, dead, dat 23 (fieldD x0 1), dat 3 (.lit (.int .i64 ((elemsD (fieldD x0 1)).length : Int))), dat 3 (.lit (.int .i64 v10)), dead, dead, dead, dead, dead, dead, dead, dead, dead, dat 32 ((elemsD (fieldD x0 1)).getD (v10).toNat .nil), dat 3 (.lit (.int .i64 ((elemsD ((elemsD (fieldD x0 1)).getD (v10).toNat .nil)).length : Int))), dat 3 (.lit (.int .i64 v22)), dead, dead, dead, dead, dead, dead, dead, dead], lookB [(1, some ⟨25, x0, 0, none⟩)]⟩ (blockK 2 (blockK 1 (seqC P (envR T8 [] [] []) t29_h N (sub [1, 0, 1, 0, 0, 1, 1, 1] (bodyOf fn)) (seqK (fun s => evLoop (preL t29_h (sub [1, 0, 1, 0, 0] (bodyOf fn))) (evCode P (envR T8 [] [] []) t29_h N (sub [1, 0, 1, 0, 0] (bodyOf fn))) m0 ((preL t29_h (sub [1, 0, 1, 0, 0] (bodyOf fn))) s) (blockK 0 (seqC P (envR T8 [] [] []) t29_h N (sub [1, 1] (bodyOf fn)) (finK P fn) ))) (blockK 0 (seqC P (envR T8 [] [] []) t29_h N (sub [1, 1] (bodyOf fn)) (finK P fn) ))) )))
theorem t29_lp7_step  (N n : Nat) (x0 : D) (v10 : Int) (m0 : Nat) (v22 : Int) : t29_lp7 Try.prog Try.f29 N (n + 1) x0 v10 m0 v22 =
  bif decide (v22 < ((elemsD ((elemsD (fieldD x0 1)).getD (v10).toNat .nil)).length : Int)) then
    bif (decide (0 ≤ v22) && decide (v22 < ((elemsD ((elemsD (fieldD x0 1)).getD (v10).toNat .nil)).length : Int))) then
      bif (!(mayB ((elemsD ((elemsD (fieldD x0 1)).getD (v10).toNat .nil)).getD (v22).toNat .nil))) then
        some (dat 4 (.lit (.bool false)))
      else t29_lp7 Try.prog Try.f29 N n x0 v10 m0 (IntKind.wrap .i64 (v22 + 1))
    else none
  else t29_lp2 Try.prog Try.f29 N m0 x0 (IntKind.wrap .i64 (v10 + 1)) := by kernel_rfl
theorem t29_lp2_step  (N n : Nat) (x0 : D) (v10 : Int) : t29_lp2 Try.prog Try.f29 N (n + 1) x0 v10 =
  bif decide (v10 < ((elemsD (fieldD x0 1)).length : Int)) then
    bif (decide (0 ≤ v10) && decide (v10 < ((elemsD (fieldD x0 1)).length : Int))) then
      bif (((elemsD ((elemsD (fieldD x0 1)).getD (v10).toNat .nil)).length : Int) != ((elemsD (fieldD x0 0)).length : Int)) then
        some (dat 4 (.lit (.bool false)))
      else t29_lp7 Try.prog Try.f29 N N x0 v10 n 0
    else none
  else some (dat 4 (.lit (.bool true))) := by kernel_rfl
theorem t29 (N : Nat) (x0 : D) : evFn Try.prog (envR T8 [] [] []) t29_h N Try.f29 [dat 25 x0] =
  t29_lp2 Try.prog Try.f29 N N x0 0 := by kernel_rfl

/- roadbook/bag.column -/
def t32_h : Hints := fun i => if i = 3 then some ([0, 2, 3, 4, 6, 7, 8, 9, 10, 11, 12, 16, 17, 18, 19, 20, 21, 22, 23, 24, 25, 26, 27, 28], [11], []) else none
def t32_lp3 (P : Program) (fn : Func) (N n : Nat) (x0 : D) (x1 : Int) (v15 : Int) (b11 : List D) : Option AV := evLoop (preL t32_h (sub [1, 1, 0, 1, 0, 0] (bodyOf fn))) (evCode P (envR T8 [] [] []) t32_h N (sub [1, 1, 0, 1, 0, 0] (bodyOf fn))) n ⟨[dead, dat 3 (.lit (.int .i64 x1)), dead, dead, dead, bxp 11 32, dead, dead, dead, dead, dead, dead, dead, dat 23 (fieldD x0 1), dat 3 (.lit (.int .i64 ((elemsD (fieldD x0 1)).length : Int))), dat 3 (.lit (.int .i64 v15)), dead, dead, dead, dead, dead, dead, dead, dead, dead, dead, dead, dead, dead], lookB [(11, some ⟨32, .slice b11 [], 2, none⟩)]⟩ (blockK 0 (seqC P (envR T8 [] [] []) t32_h N (sub [1, 1, 1] (bodyOf fn)) (finK P fn) ))
theorem t32_lp3_step  (N n : Nat) (x0 : D) (x1 : Int) (v15 : Int) (b11 : List D) : t32_lp3 Try.prog Try.f32 N (n + 1) x0 x1 v15 b11 =
  bif decide (v15 < ((elemsD (fieldD x0 1)).length : Int)) then
    bif (decide (0 ≤ v15) && decide (v15 < ((elemsD (fieldD x0 1)).length : Int))) then
      bif (decide (0 ≤ x1) && decide (x1 < ((elemsD ((elemsD (fieldD x0 1)).getD (v15).toNat .nil)).length : Int))) then
        bif (decide (0 ≤ v15) && decide (v15 < (b11.length : Int))) then
          t32_lp3 Try.prog Try.f32 N n x0 x1 (IntKind.wrap .i64 (v15 + 1)) (b11.set (v15).toNat ((elemsD ((elemsD (fieldD x0 1)).getD (v15).toNat .nil)).getD (x1).toNat .nil))
        else none
      else none
    else none
  else some (dat 32 (.slice b11 [])) := by kernel_rfl
theorem t32 (N : Nat) (x0 : D) (x1 : Int) : evFn Try.prog (envR T8 [] [] []) t32_h N Try.f32 [dat 25 x0, dat 3 (.lit (.int .i64 x1))] =
  bif (decide (0 ≤ ((elemsD (fieldD x0 1)).length : Int)) && decide (((elemsD (fieldD x0 1)).length : Int) ≤ 2147483648)) then
    t32_lp3 Try.prog Try.f32 N N x0 x1 0 (List.replicate (((elemsD (fieldD x0 1)).length : Int)).toNat (.agg [.lit (.int .i64 0), .lit (.int .i64 0)]))
  else none := by kernel_rfl

/- roadbook/roadbooklaw03.few -/
def t5_h : Hints := fun i => if i = 4 then some ([0, 1, 3, 4, 6, 7, 8, 9, 10, 11, 12, 13, 14, 15, 16, 17, 18, 19, 20, 21, 22, 23, 24, 25, 26, 27, 28, 29, 30], [2], []) else none
def t5_lp4 (P : Program) (fn : Func) (N n : Nat) (x0 : D) (x1 : Int) (v5 : Int) : Option AV := evLoop (preL t5_h (sub [1, 1, 0, 1, 0, 0] (bodyOf fn))) (evCode P (envR T8 [] [] []) t5_h N (sub [1, 1, 0, 1, 0, 0] (bodyOf fn))) n ⟨[dead, dead, bxp 2 25, dead, dead, dat 3 (.lit (.int .i64 v5)), dead, dead, dead, dead, dead, dead, dead, dead, dead, dead, dead, dead, dead, dead, dead, dead, dead, dead, dead, dead, dead, dead, dead, dead, dead], lookB [(2, some ⟨25, x0, 0, none⟩)]⟩ (blockK 0 (seqC P (envR T8 [] [] []) t5_h N (sub [1, 1, 1] (bodyOf fn)) (finK P fn) ))
theorem t5_lp4_step  (N n : Nat) (x0 : D) (x1 : Int) (v5 : Int) : t5_lp4 Try.prog Try.f5 N (n + 1) x0 x1 v5 =
  bif decide (v5 < ((elemsD (fieldD x0 1)).length : Int)) then
    bif (decide (0 ≤ v5) && decide (v5 < ((elemsD (fieldD x0 1)).length : Int))) then
      bif decide (((elemsD ((elemsD (fieldD x0 1)).getD (v5).toNat .nil)).length : Int) > 20) then
        some (dat 4 (.lit (.bool false)))
      else t5_lp4 Try.prog Try.f5 N n x0 x1 (IntKind.wrap .i64 (v5 + 1))
    else none
  else some (dat 4 (.lit (.bool true))) := by kernel_rfl
theorem t5 (N : Nat) (x0 : D) (x1 : Int) : evFn Try.prog (envR T8 [] [] []) t5_h N Try.f5 [dat 25 x0, dat 3 (.lit (.int .i64 x1))] =
  bif ((decide (((elemsD (fieldD x0 1)).length : Int) > x1)) == false) then
    bif decide (((elemsD (fieldD x0 0)).length : Int) > 20) then
      some (dat 4 (.lit (.bool false)))
    else t5_lp4 Try.prog Try.f5 N N x0 x1 0
  else some (dat 4 (.lit (.bool false))) := by kernel_rfl

/- roadbook/roadbooklaw03.Three -/
def t10_h : Hints := fun _ =>  none
theorem t10 (N : Nat)  : evFn Try.prog (envR T8 [] [] []) t10_h N Try.f10 [] =
  some (dat 25 (.agg [.slice [.lit (.int .i64 0), .lit (.int .i64 1)] [], .slice [.slice [.agg [.lit (.int .i64 0), .lit (.int .i64 1)], .agg [.lit (.int .i64 0), .lit (.int .i64 2)]] [], .slice [.agg [.lit (.int .i64 0), .lit (.int .i64 3)], .agg [.lit (.int .i64 0), .lit (.int .i64 4)]] [], .slice [.agg [.lit (.int .i64 0), .lit (.int .i64 1)], .agg [.lit (.int .i64 0), .lit (.int .i64 5)]] []] []])) := by kernel_rfl

/- roadbook/bag.groupCols -/
def t17_h : Hints := fun i => if i = 3 then some ([0, 1, 2, 3, 4, 6, 7, 8, 9, 12, 13, 14, 15, 16, 17, 18, 19, 20], [18, 900000], []) else none
def t17_lp3 (P : Program) (fn : Func) (N n : Nat) (x0 : Int) (x1 : Int) (v5 : List D) (v11 : Int) : Option AV := evLoop (preL t17_h (sub [1, 1, 0, 1, 0, 0] (bodyOf fn))) (evCode P (envR T8 [] [] []) t17_h N (sub [1, 1, 0, 1, 0, 0] (bodyOf fn))) n ⟨[dead, dead, dead, dead, dead, ful 22 (.slice v5 []), dead, dead, dead, dead, dat 3 (.lit (.int .i64 (IntKind.wrap .i64 (1 + x1)))), dat 3 (.lit (.int .i64 v11)), dead, dead, dead, dead, dead, dead, dead, dead, dead], lookB [(18, none), (900000, none)]⟩ (blockK 0 (seqC P (envR T8 [] [] []) t17_h N (sub [1, 1, 1] (bodyOf fn)) (finK P fn) ))
def t17_lp3b (P : Program) (fn : Func) (N n : Nat) (x0 : Int) (x1 : Int) (v11 : Int) (b18 : List D) : Option AV := evLoop (preL t17_h (sub [1, 1, 0, 1, 0, 0] (bodyOf fn))) (evCode P (envR T8 [] [] []) t17_h N (sub [1, 1, 0, 1, 0, 0] (bodyOf fn))) n ⟨[dead, dead, dead, dead, dead, bxp 18 22, dead, dead, dead, dead, dat 3 (.lit (.int .i64 (IntKind.wrap .i64 (1 + x1)))), dat 3 (.lit (.int .i64 v11)), dead, dead, dead, dead, dead, dead, dead, dead, dead], lookB [(18, some ⟨22, .slice b18 [], 2, none⟩), (900000, none)]⟩ (blockK 0 (seqC P (envR T8 [] [] []) t17_h N (sub [1, 1, 1] (bodyOf fn)) (finK P fn) ))
theorem t17_lp3b_step  (N n : Nat) (x0 : Int) (x1 : Int) (v11 : Int) (b18 : List D) : t17_lp3b Try.prog Try.f17 N (n + 1) x0 x1 v11 b18 =
  bif decide (v11 < (IntKind.wrap .i64 (1 + x1))) then
    bif decide ((b18).length + 1 ≤ 2147483648) then
      t17_lp3b Try.prog Try.f17 N n x0 x1 (IntKind.wrap .i64 (v11 + 1)) (b18 ++ [.lit (.int .i64 (IntKind.wrap .i64 (16 + v11)))])
    else none
  else some (dat 22 (.slice b18 [])) := by kernel_rfl
theorem t17_lp3_step  (N n : Nat) (x0 : Int) (x1 : Int) (v5 : List D) (v11 : Int) : t17_lp3 Try.prog Try.f17 N (n + 1) x0 x1 v5 v11 =
  bif decide (v11 < (IntKind.wrap .i64 (1 + x1))) then
    bif decide ((v5).length + 1 ≤ 2147483648) then
      t17_lp3b Try.prog Try.f17 N n x0 x1 (IntKind.wrap .i64 (v11 + 1)) (v5 ++ [.lit (.int .i64 (IntKind.wrap .i64 (16 + v11)))])
    else none
  else some (dat 22 (.slice v5 [])) := by kernel_rfl
theorem t17 (N : Nat) (x0 : Int) (x1 : Int) : evFn Try.prog (envR T8 [] [] []) t17_h N Try.f17 [dat 3 (.lit (.int .i64 x0)), dat 3 (.lit (.int .i64 x1))] =
  t17_lp3 Try.prog Try.f17 N N x0 x1 [.lit (.int .i64 x0)] 0 := by kernel_rfl

/- slices.Clone[[]roadbook/api.Val,roadbook/api.Val] -/
def t22_n_h : Hints := fun _ =>  none
theorem t22_n (N : Nat)  : evFnM Try.prog (envR T8 [] [] []) t22_n_h N Try.f22 [⟨1, 32, .slice [] [], 0, 2, 0, []⟩] =
  some (dat 32 (.slice [] [])) := by kernel_rfl

def t22_s_h : Hints := fun _ => none
theorem t22_s (N : Nat) (x0 : D) : evFnM Try.prog (envR T8 [] [] []) t22_s_h N Try.f22 [⟨1, 32, x0, 0, 3, 0, []⟩] =
  bif decide (0 + (elemsD x0).length ≤ 2147483648) then
    some (dat 32 (.slice ([] ++ (elemsD x0)) []))
  else none := by kernel_rfl
/- slices.Clone[[]int,int] -/
def t23_n_h : Hints := fun _ =>  none
theorem t23_n (N : Nat)  : evFnM Try.prog (envR T8 [] [] []) t23_n_h N Try.f23 [⟨1, 22, .slice [] [], 0, 2, 0, []⟩] =
  some (dat 22 (.slice [] [])) := by kernel_rfl

def t23_s_h : Hints := fun _ => none
theorem t23_s (N : Nat) (x0 : D) : evFnM Try.prog (envR T8 [] [] []) t23_s_h N Try.f23 [⟨1, 22, x0, 0, 3, 0, []⟩] =
  bif decide (0 + (elemsD x0).length ≤ 2147483648) then
    some (dat 22 (.slice ([] ++ (elemsD x0)) []))
  else none := by kernel_rfl
end Go.Proofs.Ytjofcicaoofijaa
