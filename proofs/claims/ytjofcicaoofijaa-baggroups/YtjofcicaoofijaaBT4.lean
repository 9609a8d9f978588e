/- What the evaluator comes to, function by function: by the kernel. Nothing here is trusted. -/
import Derived.Test.YtjofcicaoofijaaBP3
namespace Go.Proofs.Ytjofcicaoofijaa
open Go.Ev
set_option linter.unusedVariables false
/- slices.insertionSortCmpFunc[roadbook/bag.ranked] -/
def t42_h : Hints := fun i => if i = 1 then some ([4, 5, 6, 7, 9, 10, 11, 12, 13, 14, 15, 16, 17, 18, 19, 20, 21, 22, 23, 24, 25, 26, 27, 28, 29, 30, 31, 32, 33, 34, 35, 36, 37, 38, 39, 40, 41, 42, 43, 44, 45, 46, 47, 48, 49, 50, 51, 52], [1000000], []) else if i = 4 then some ([4, 5, 6, 7, 10, 11, 12, 13, 14, 15, 16, 17, 18, 19, 20, 21, 22, 23, 24, 25, 26, 27, 28, 29, 30, 31, 32, 33, 34, 35, 36, 37, 38, 39, 40, 41, 42, 43, 44, 45, 46, 47, 48, 49, 50, 51, 52], [1000000], []) else none
def t42_lp1 (P : Program) (fn : Func) (N n : Nat) (x1 : Int) (x2 : Int) (es : List D) (v8 : Int) (b1000000 : List D) : Option (AV × List (Option Ent)) := evLoop (preL t42_h (sub [1, 0, 0] (bodyOf fn))) (evCode P (envR B3 [] R3 []) t42_h N (sub [1, 0, 0] (bodyOf fn))) n ⟨[bxp 1000000 44, dat 3 (.lit (.int .i64 x1)), dat 3 (.lit (.int .i64 x2)), dat 52 (.held (.func (.func 20) #[] #[])), dead, dead, dead, dead, dat 3 (.lit (.int .i64 v8)), dead, dead, dead, dead, dead, dead, dead, dead, dead, dead, dead, dead, dead, dead, dead, dead, dead, dead, dead, dead, dead, dead, dead, dead, dead, dead, dead, dead, dead, dead, dead, dead, dead, dead, dead, dead, dead, dead, dead, dead, dead, dead, dead, dead], lookB [(1000000, some ⟨44, .slice b1000000 [], 3, none⟩)]⟩ (blockK 0 (finH P fn 1))
def t42_lp4 (P : Program) (fn : Func) (N n : Nat) (x1 : Int) (x2 : Int) (es : List D) (v8 : Int) (b1000000 : List D) (m0 : Nat) (v9 : Int) (b1000000q : List D) : Option (AV × List (Option Ent)) := evLoop (preL t42_h (sub [1, 0, 0, 1, 0, 0, 1, 0, 0] (bodyOf fn))) (evCode P (envR B3 [] R3 []) t42_h N (sub [1, 0, 0, 1, 0, 0, 1, 0, 0] (bodyOf fn))) n ⟨[bxp 1000000 44, dat 3 (.lit (.int .i64 x1)), dat 3 (.lit (.int .i64 x2)), dat 52 (.held (.func (.func 20) #[] #[])), dead, dead, dead, dead, dat 3 (.lit (.int .i64 v8)), dat 3 (.lit (.int .i64 v9)), dead, dead, dead, dead, dead, dead, dead, dead, dead, dead, dead, dead, dead, dead, dead, dead, dead, dead, dead, dead, dead, dead, dead, dead, dead, dead, dead, dead, dead, dead, dead, dead, dead, dead, dead, dead, dead, dead, dead, dead, dead, dead, dead], lookB [(1000000, some ⟨44, .slice b1000000q [], 3, none⟩)]⟩ (blockK 2 (blockK 1 (seqC P (envR B3 [] R3 []) t42_h N (sub [1, 0, 0, 1, 1] (bodyOf fn)) (seqK (fun s => evLoop (preL t42_h (sub [1, 0, 0] (bodyOf fn))) (evCode P (envR B3 [] R3 []) t42_h N (sub [1, 0, 0] (bodyOf fn))) m0 ((preL t42_h (sub [1, 0, 0] (bodyOf fn))) s) (blockK 0 (finH P fn 1))) (blockK 0 (finH P fn 1))) )))
theorem t42_lp4_step  (N n : Nat) (x1 : Int) (x2 : Int) (es : List D) (v8 : Int) (b1000000 : List D) (m0 : Nat) (v9 : Int) (b1000000q : List D) : t42_lp4 Try.prog Try.f42 N (n + 1) x1 x2 es v8 b1000000 m0 v9 b1000000q =
  bif ((decide (v9 > x1)) == true) then
    bif (decide (0 ≤ v9) && decide (v9 < (b1000000q.length : Int))) then
      bif (decide (0 ≤ (IntKind.wrap .i64 (v9 - 1))) && decide ((IntKind.wrap .i64 (v9 - 1)) < (b1000000q.length : Int))) then
        bif decide ((againstI (fieldD (b1000000q.getD (v9).toNat .nil) 0) (fieldD (b1000000q.getD (IntKind.wrap .i64 (v9 - 1)).toNat .nil) 0)) < 0) then
          bif (decide (0 ≤ (IntKind.wrap .i64 (v9 - 1))) && decide ((IntKind.wrap .i64 (v9 - 1)) < (b1000000q.length : Int))) then
            bif (decide (0 ≤ v9) && decide (v9 < (b1000000q.length : Int))) then
              bif (decide (0 ≤ v9) && decide (v9 < (b1000000q.length : Int))) then
                bif (decide (0 ≤ (IntKind.wrap .i64 (v9 - 1))) && decide ((IntKind.wrap .i64 (v9 - 1)) < ((b1000000q.set (v9).toNat (b1000000q.getD (IntKind.wrap .i64 (v9 - 1)).toNat .nil)).length : Int))) then
                  t42_lp4 Try.prog Try.f42 N n x1 x2 es v8 b1000000 m0 (IntKind.wrap .i64 (v9 - 1)) ((b1000000q.set (v9).toNat (b1000000q.getD (IntKind.wrap .i64 (v9 - 1)).toNat .nil)).set (IntKind.wrap .i64 (v9 - 1)).toNat (b1000000q.getD (v9).toNat .nil))
                else none
              else none
            else none
          else none
        else t42_lp1 Try.prog Try.f42 N m0 x1 x2 es (IntKind.wrap .i64 (v8 + 1)) b1000000q
      else none
    else none
  else t42_lp1 Try.prog Try.f42 N m0 x1 x2 es (IntKind.wrap .i64 (v8 + 1)) b1000000q := by kernel_rfl
theorem t42_lp1_step  (N n : Nat) (x1 : Int) (x2 : Int) (es : List D) (v8 : Int) (b1000000 : List D) : t42_lp1 Try.prog Try.f42 N (n + 1) x1 x2 es v8 b1000000 =
  bif decide (v8 < x2) then
    t42_lp4 Try.prog Try.f42 N N x1 x2 es v8 b1000000 n v8 b1000000
  else some (tupA [] (.agg []), [some ⟨44, .slice b1000000 [], 3, none⟩]) := by kernel_rfl
theorem t42 (N : Nat) (x1 : Int) (x2 : Int) (es : List D) : evFnH Try.prog (envR B3 [] R3 []) t42_h N Try.f42 [bxp 1000000 44, dat 3 (.lit (.int .i64 x1)), dat 3 (.lit (.int .i64 x2)), dat 52 (.held (.func (.func 20) #[] #[]))] [⟨44, .slice es [], 3, none⟩] =
  t42_lp1 Try.prog Try.f42 N N x1 x2 es (IntKind.wrap .i64 (x1 + 1)) es := by kernel_rfl

/- slices.swapRangeCmpFunc[roadbook/bag.ranked] -/
def t46_h : Hints := fun i => if i = 1 then some ([4, 5, 6, 7, 8, 9, 11, 12, 13, 14, 15, 16, 17, 18, 19, 20, 21, 22, 23, 24, 25, 26, 27, 28, 29, 30, 31, 32, 33, 34, 35, 36, 37], [1000000], []) else none
def t46_lp1 (P : Program) (fn : Func) (N n : Nat) (x1 : Int) (x2 : Int) (x3 : Int) (es : List D) (v10 : Int) (b1000000 : List D) : Option (AV × List (Option Ent)) := evLoop (preL t46_h (sub [1, 0, 0] (bodyOf fn))) (evCode P (envR B3 [] R3 []) t46_h N (sub [1, 0, 0] (bodyOf fn))) n ⟨[bxp 1000000 44, dat 3 (.lit (.int .i64 x1)), dat 3 (.lit (.int .i64 x2)), dat 3 (.lit (.int .i64 x3)), dead, dead, dead, dead, dead, dead, dat 3 (.lit (.int .i64 v10)), dead, dead, dead, dead, dead, dead, dead, dead, dead, dead, dead, dead, dead, dead, dead, dead, dead, dead, dead, dead, dead, dead, dead, dead, dead, dead, dead], lookB [(1000000, some ⟨44, .slice b1000000 [], 3, none⟩)]⟩ (blockK 0 (finH P fn 1))
theorem t46_lp1_step  (N n : Nat) (x1 : Int) (x2 : Int) (x3 : Int) (es : List D) (v10 : Int) (b1000000 : List D) : t46_lp1 Try.prog Try.f46 N (n + 1) x1 x2 x3 es v10 b1000000 =
  bif decide (v10 < x3) then
    bif (decide (0 ≤ (IntKind.wrap .i64 (x2 + v10))) && decide ((IntKind.wrap .i64 (x2 + v10)) < (b1000000.length : Int))) then
      bif (decide (0 ≤ (IntKind.wrap .i64 (x1 + v10))) && decide ((IntKind.wrap .i64 (x1 + v10)) < (b1000000.length : Int))) then
        bif (decide (0 ≤ (IntKind.wrap .i64 (x1 + v10))) && decide ((IntKind.wrap .i64 (x1 + v10)) < (b1000000.length : Int))) then
          bif (decide (0 ≤ (IntKind.wrap .i64 (x2 + v10))) && decide ((IntKind.wrap .i64 (x2 + v10)) < ((b1000000.set (IntKind.wrap .i64 (x1 + v10)).toNat (b1000000.getD (IntKind.wrap .i64 (x2 + v10)).toNat .nil)).length : Int))) then
            t46_lp1 Try.prog Try.f46 N n x1 x2 x3 es (IntKind.wrap .i64 (v10 + 1)) ((b1000000.set (IntKind.wrap .i64 (x1 + v10)).toNat (b1000000.getD (IntKind.wrap .i64 (x2 + v10)).toNat .nil)).set (IntKind.wrap .i64 (x2 + v10)).toNat (b1000000.getD (IntKind.wrap .i64 (x1 + v10)).toNat .nil))
          else none
        else none
      else none
    else none
  else some (tupA [] (.agg []), [some ⟨44, .slice b1000000 [], 3, none⟩]) := by kernel_rfl
theorem t46 (N : Nat) (x1 : Int) (x2 : Int) (x3 : Int) (es : List D) : evFnH Try.prog (envR B3 [] R3 []) t46_h N Try.f46 [bxp 1000000 44, dat 3 (.lit (.int .i64 x1)), dat 3 (.lit (.int .i64 x2)), dat 3 (.lit (.int .i64 x3)), dat 52 (.held (.func (.func 20) #[] #[]))] [⟨44, .slice es [], 3, none⟩] =
  t46_lp1 Try.prog Try.f46 N N x1 x2 x3 es 0 es := by kernel_rfl

/- slices.IsSortedFunc[[][]roadbook/api.Val,[]roadbook/api.Val] -/
def t26_h : Hints := fun i => if i = 2 then some ([2, 3, 4, 6, 7, 8, 9, 10, 11, 12, 13, 14, 15, 16, 17, 18, 19, 20, 21, 22, 23, 24], [1000000], []) else none
def t26_lp2 (P : Program) (fn : Func) (N n : Nat) (x0 : D) (q : Int) (v5 : Int) : Option (AV × List (Option Ent)) := evLoop (preL t26_h (sub [1, 0, 1, 0, 0] (bodyOf fn))) (evCode P (envR B3 [] R3 []) t26_h N (sub [1, 0, 1, 0, 0] (bodyOf fn))) n ⟨[dat 23 x0, clo 57 27 [1000000], dead, dead, dead, dat 3 (.lit (.int .i64 v5)), dead, dead, dead, dead, dead, dead, dead, dead, dead, dead, dead, dead, dead, dead, dead, dead, dead, dead, dead], lookB [(1000000, some ⟨3, .lit (.int .i64 q), 0, none⟩)]⟩ (blockK 0 (seqC P (envR B3 [] R3 []) t26_h N (sub [1, 1] (bodyOf fn)) (finH P fn 1) ))
theorem t26_lp2_step  (N n : Nat) (x0 : D) (q : Int) (v5 : Int) : t26_lp2 Try.prog Try.f26 N (n + 1) x0 q v5 =
  bif decide (v5 > 0) then
    bif (decide (0 ≤ v5) && decide (v5 < ((elemsD x0).length : Int))) then
      bif (decide (0 ≤ (IntKind.wrap .i64 (v5 - 1))) && decide ((IntKind.wrap .i64 (v5 - 1)) < ((elemsD x0).length : Int))) then
        bif decide ((againstI (rankD (elemsD ((elemsD x0).getD (v5).toNat .nil)) q) (rankD (elemsD ((elemsD x0).getD (IntKind.wrap .i64 (v5 - 1)).toNat .nil)) q)) < 0) then
          some (dat 4 (.lit (.bool false)), [some ⟨3, .lit (.int .i64 q), 0, none⟩])
        else t26_lp2 Try.prog Try.f26 N n x0 q (IntKind.wrap .i64 (v5 - 1))
      else none
    else none
  else some (dat 4 (.lit (.bool true)), [some ⟨3, .lit (.int .i64 q), 0, none⟩]) := by kernel_rfl
theorem t26 (N : Nat) (x0 : D) (q : Int) : evFnH Try.prog (envR B3 [] R3 []) t26_h N Try.f26 [dat 23 x0, clo 57 27 [1000000]] [⟨3, .lit (.int .i64 q), 0, none⟩] =
  t26_lp2 Try.prog Try.f26 N N x0 q (IntKind.wrap .i64 (((elemsD x0).length : Int) - 1)) := by kernel_rfl

end Go.Proofs.Ytjofcicaoofijaa
