/- What the evaluator comes to, function by function: by the kernel. Nothing here is trusted. -/
import Derived.Test.YtjofcicaoofijaaBD
namespace Go.Proofs.Ytjofcicaoofijaa
open Go.Ev
set_option linter.unusedVariables false
/- slices.stableCmpFunc[roadbook/bag.ranked] -/
def t34_h : Hints := fun i => if i = 2 then some ([3, 4, 5, 9, 10, 11, 12, 13, 14, 15, 16, 17, 18, 19, 20, 21, 22, 23, 24, 25, 26, 27, 28, 29, 30, 31, 32, 33, 34, 35, 36, 37, 38, 39, 40, 41, 42, 43, 44, 45, 46, 47, 48, 49, 50, 51, 52, 53, 54, 55, 56, 57, 58, 59, 60, 61, 62], [1000000], []) else if i = 7 then some ([3, 4, 5, 7, 8, 9, 10, 11, 12, 13, 14, 15, 16, 17, 18, 19, 20, 21, 22, 23, 24, 25, 26, 27, 28, 29, 30, 31, 32, 33, 34, 35, 36, 37, 38, 39, 40, 41, 42, 43, 44, 45, 46, 47, 48, 49, 50, 51, 52, 53, 54, 55, 56, 57, 58, 59, 60, 61, 62], [1000000], []) else if i = 9 then some ([3, 4, 5, 9, 10, 11, 12, 13, 14, 15, 16, 17, 18, 19, 20, 21, 22, 23, 24, 25, 26, 27, 28, 29, 30, 31, 32, 33, 34, 35, 36, 37, 38, 39, 40, 41, 42, 43, 44, 45, 46, 47, 48, 49, 50, 51, 52, 53, 54, 55, 56, 57, 58, 59, 60, 61, 62], [1000000], []) else none
def t34_lp2 (P : Program) (fn : Func) (N n : Nat) (x1 : Int) (es : List D) (v7 : Int) (v8 : Int) (b1000000 : List D) : Option (AV × List (Option Ent)) := evLoop (preL t34_h (sub [1, 1, 0, 0, 0] (bodyOf fn))) (evCode P (envR B3 (H5 kBig) R3 []) t34_h N (sub [1, 1, 0, 0, 0] (bodyOf fn))) n ⟨[bxp 1000000 44, dat 3 (.lit (.int .i64 x1)), dat 52 (.held (.func (.func 20) #[] #[])), dead, dead, dead, dat 3 (.lit (.int .i64 20)), dat 3 (.lit (.int .i64 v7)), dat 3 (.lit (.int .i64 v8)), dead, dead, dead, dead, dead, dead, dead, dead, dead, dead, dead, dead, dead, dead, dead, dead, dead, dead, dead, dead, dead, dead, dead, dead, dead, dead, dead, dead, dead, dead, dead, dead, dead, dead, dead, dead, dead, dead, dead, dead, dead, dead, dead, dead, dead, dead, dead, dead, dead, dead, dead, dead, dead, dead], lookB [(1000000, some ⟨44, .slice b1000000 [], 3, none⟩)]⟩ (blockK 0 (seqC P (envR B3 (H5 kBig) R3 []) t34_h N (sub [1, 1, 1] (bodyOf fn)) (finH P fn 1) ))
def t34_lp7 (P : Program) (fn : Func) (N n : Nat) (x1 : Int) (es : List D) (v7 : Int) (v8 : Int) (b1000000 : List D) (m0 : Nat) (v6 : Int) (b1000000q : List D) : Option (AV × List (Option Ent)) := evLoop (preL t34_h (sub [1, 1, 1, 1, 0, 0] (bodyOf fn))) (evCode P (envR B3 (H5 kBig) R3 []) t34_h N (sub [1, 1, 1, 1, 0, 0] (bodyOf fn))) n ⟨[bxp 1000000 44, dat 3 (.lit (.int .i64 x1)), dat 52 (.held (.func (.func 20) #[] #[])), dead, dead, dead, dat 3 (.lit (.int .i64 v6)), dead, dead, dead, dead, dead, dead, dead, dead, dead, dead, dead, dead, dead, dead, dead, dead, dead, dead, dead, dead, dead, dead, dead, dead, dead, dead, dead, dead, dead, dead, dead, dead, dead, dead, dead, dead, dead, dead, dead, dead, dead, dead, dead, dead, dead, dead, dead, dead, dead, dead, dead, dead, dead, dead, dead, dead], lookB [(1000000, some ⟨44, .slice b1000000q [], 3, none⟩)]⟩ (blockK 2 (finH P fn 1))
def t34_lp9 (P : Program) (fn : Func) (N n : Nat) (x1 : Int) (es : List D) (v7 : Int) (v8 : Int) (b1000000 : List D) (m0 : Nat) (v6 : Int) (b1000000q : List D) (m1 : Nat) (v7q : Int) (v8q : Int) (b1000000qq : List D) : Option (AV × List (Option Ent)) := evLoop (preL t34_h (sub [1, 1, 1, 1, 0, 0, 1, 0, 1, 0, 0, 0] (bodyOf fn))) (evCode P (envR B3 (H5 kBig) R3 []) t34_h N (sub [1, 1, 1, 1, 0, 0, 1, 0, 1, 0, 0, 0] (bodyOf fn))) n ⟨[bxp 1000000 44, dat 3 (.lit (.int .i64 x1)), dat 52 (.held (.func (.func 20) #[] #[])), dead, dead, dead, dat 3 (.lit (.int .i64 v6)), dat 3 (.lit (.int .i64 v7q)), dat 3 (.lit (.int .i64 v8q)), dead, dead, dead, dead, dead, dead, dead, dead, dead, dead, dead, dead, dead, dead, dead, dead, dead, dead, dead, dead, dead, dead, dead, dead, dead, dead, dead, dead, dead, dead, dead, dead, dead, dead, dead, dead, dead, dead, dead, dead, dead, dead, dead, dead, dead, dead, dead, dead, dead, dead, dead, dead, dead, dead], lookB [(1000000, some ⟨44, .slice b1000000qq [], 3, none⟩)]⟩ (blockK 4 (seqC P (envR B3 (H5 kBig) R3 []) t34_h N (sub [1, 1, 1, 1, 0, 0, 1, 0, 1, 1] (bodyOf fn)) (blockK 3 (seqK (fun s => evLoop (preL t34_h (sub [1, 1, 1, 1, 0, 0] (bodyOf fn))) (evCode P (envR B3 (H5 kBig) R3 []) t34_h N (sub [1, 1, 1, 1, 0, 0] (bodyOf fn))) m1 ((preL t34_h (sub [1, 1, 1, 1, 0, 0] (bodyOf fn))) s) (blockK 2 (finH P fn 1))) (blockK 2 (finH P fn 1)))) ))
theorem t34_lp9_step  (N n : Nat) (x1 : Int) (es : List D) (v7 : Int) (v8 : Int) (b1000000 : List D) (m0 : Nat) (v6 : Int) (b1000000q : List D) (m1 : Nat) (v7q : Int) (v8q : Int) (b1000000qq : List D) : t34_lp9 Try.prog Try.f34 N (n + 1) x1 es v7 v8 b1000000 m0 v6 b1000000q m1 v7q v8q b1000000qq =
  bif decide (v8q ≤ x1) then
    bif symOK kBig b1000000qq v7q (IntKind.wrap .i64 (v7q + v6)) v8q then
      t34_lp9 Try.prog Try.f34 N n x1 es v7 v8 b1000000 m0 v6 b1000000q m1 v8q (IntKind.wrap .i64 (v8q + (IntKind.wrap .i64 (2 * v6)))) (insL b1000000qq v7q v8q)
    else none
  else bif decide ((IntKind.wrap .i64 (v7q + v6)) < x1) then
      bif symOK kBig b1000000qq v7q (IntKind.wrap .i64 (v7q + v6)) x1 then
        t34_lp7 Try.prog Try.f34 N m1 x1 es v7 v8 b1000000 m0 (IntKind.wrap .i64 (v6 * 2)) (insL b1000000qq v7q x1)
      else none
    else t34_lp7 Try.prog Try.f34 N m1 x1 es v7 v8 b1000000 m0 (IntKind.wrap .i64 (v6 * 2)) b1000000qq := by kernel_rfl
theorem t34_lp7_step  (N n : Nat) (x1 : Int) (es : List D) (v7 : Int) (v8 : Int) (b1000000 : List D) (m0 : Nat) (v6 : Int) (b1000000q : List D) : t34_lp7 Try.prog Try.f34 N (n + 1) x1 es v7 v8 b1000000 m0 v6 b1000000q =
  bif decide (v6 < x1) then
    t34_lp9 Try.prog Try.f34 N N x1 es v7 v8 b1000000 m0 v6 b1000000q n 0 (IntKind.wrap .i64 (2 * v6)) b1000000q
  else some (tupA [] (.agg []), [some ⟨44, .slice b1000000q [], 3, none⟩]) := by kernel_rfl
theorem t34_lp2_step  (N n : Nat) (x1 : Int) (es : List D) (v7 : Int) (v8 : Int) (b1000000 : List D) : t34_lp2 Try.prog Try.f34 N (n + 1) x1 es v7 v8 b1000000 =
  bif decide (v8 ≤ x1) then
    bif insOK b1000000 v7 v8 then
      t34_lp2 Try.prog Try.f34 N n x1 es v8 (IntKind.wrap .i64 (v8 + 20)) (insL b1000000 v7 v8)
    else none
  else bif insOK b1000000 v7 x1 then
      t34_lp7 Try.prog Try.f34 N N x1 es v7 v8 b1000000 n 20 (insL b1000000 v7 x1)
    else none := by kernel_rfl
theorem t34 (N : Nat) (x1 : Int) (es : List D) : evFnH Try.prog (envR B3 (H5 kBig) R3 []) t34_h N Try.f34 [bxp 1000000 44, dat 3 (.lit (.int .i64 x1)), dat 52 (.held (.func (.func 20) #[] #[]))] [⟨44, .slice es [], 3, none⟩] =
  t34_lp2 Try.prog Try.f34 N N x1 es 0 20 es := by kernel_rfl

/- slices.SortStableFunc[[]roadbook/bag.ranked,roadbook/bag.ranked] -/
def t19_h : Hints := fun _ =>  none
theorem t19 (N : Nat) (es : List D) : evFnH Try.prog (envR B3 H6 R3 []) t19_h N Try.f19 [bxp 1000000 44, dat 52 (.held (.func (.func 20) #[] #[]))] [⟨44, .slice es [], 3, none⟩] =
  bif stbOK es (es.length : Int) then
    some (tupA [] (.agg []), [some ⟨44, .slice (sortK keyE es) [], 3, none⟩])
  else none := by kernel_rfl

/- roadbook/bag.Sort -/
def t7_h : Hints := fun i => if i = 4 then some ([0, 1, 3, 7, 8, 9, 10, 11, 12, 13, 14, 15, 16, 17, 18, 19, 20, 24, 25, 26, 27, 28, 29, 30, 31, 32, 33, 34, 35, 36, 37, 38, 39, 40, 41, 42, 43, 44, 45, 46, 47, 48, 49, 50, 51, 52, 53, 54, 55, 56, 57, 58, 59, 60], [2, 4, 19], []) else if i = 11 then some ([0, 1, 3, 5, 6, 7, 8, 10, 11, 12, 13, 14, 15, 16, 17, 18, 19, 20, 21, 22, 23, 24, 25, 26, 27, 28, 29, 30, 31, 32, 33, 34, 35, 36, 37, 38, 39, 40, 41, 45, 46, 47, 48, 49, 50, 51, 52, 53, 54, 55, 56, 57, 58, 59, 60], [2, 4, 19, 41], []) else none
def t7_lp4 (P : Program) (fn : Func) (N n : Nat) (x0 : D) (x1 : Int) (v23 : Int) (b19 : List D) : Option AV := evLoop (preL t7_h (sub [1, 1, 1, 0, 1, 0, 0] (bodyOf fn))) (evCode P (envR B3 H7 R3 []) t7_h N (sub [1, 1, 1, 0, 1, 0, 0] (bodyOf fn))) n ⟨[dead, dead, bxp 2 25, dead, bxp 4 25, dat 3 (.lit (.int .i64 (Lib.idxOf ((elemsD (fieldD x0 0)).map intD) x1))), bxp 19 44, dead, dead, dead, dead, dead, dead, dead, dead, dead, dead, dead, dead, dead, dead, dat 23 (fieldD x0 1), dat 3 (.lit (.int .i64 ((elemsD (fieldD x0 1)).length : Int))), dat 3 (.lit (.int .i64 v23)), dead, dead, dead, dead, dead, dead, dead, dead, dead, dead, dead, dead, dead, dead, dead, dead, dead, dead, dead, dead, dead, dead, dead, dead, dead, dead, dead, dead, dead, dead, dead, dead, dead, dead, dead, dead, dead], lookB [(2, some ⟨25, x0, 0, none⟩), (4, some ⟨25, .agg [.slice [] [], .slice [] []], 0, none⟩), (19, some ⟨44, .slice b19 [], 2, none⟩)]⟩ (blockK 0 (seqC P (envR B3 H7 R3 []) t7_h N (sub [1, 1, 1, 1] (bodyOf fn)) (finK P fn) ))
def t7_lp11 (P : Program) (fn : Func) (N n : Nat) (x0 : D) (x1 : Int) (v23 : Int) (b19 : List D) (m0 : Nat) (v44 : Int) (b41 : List D) : Option AV := evLoop (preL t7_h (sub [1, 1, 1, 1, 1, 1, 0, 1, 0, 0] (bodyOf fn))) (evCode P (envR B3 H7 R3 []) t7_h N (sub [1, 1, 1, 1, 1, 1, 0, 1, 0, 0] (bodyOf fn))) n ⟨[dead, dead, bxp 2 25, dead, bxp 4 25, dead, dead, dead, dead, bxp 41 23, dead, dead, dead, dead, dead, dead, dead, dead, dead, dead, dead, dead, dead, dead, dead, dead, dead, dead, dead, dead, dead, dead, dead, dead, dead, dead, dead, dead, dead, dead, dead, dead, bxp 19 44, dat 3 (.lit (.int .i64 ((sortK keyE b19).length : Int))), dat 3 (.lit (.int .i64 v44)), dead, dead, dead, dead, dead, dead, dead, dead, dead, dead, dead, dead, dead, dead, dead, dead], lookB [(2, some ⟨25, x0, 0, none⟩), (4, some ⟨25, .agg [.slice [] [], .slice [] []], 0, none⟩), (19, some ⟨44, .slice (sortK keyE b19) [], 2, none⟩), (41, some ⟨23, .slice b41 [], 2, none⟩)]⟩ (blockK 2 (seqC P (envR B3 H7 R3 []) t7_h N (sub [1, 1, 1, 1, 1, 1, 1] (bodyOf fn)) (finK P fn) ))
theorem t7_lp11_step  (N n : Nat) (x0 : D) (x1 : Int) (v23 : Int) (b19 : List D) (m0 : Nat) (v44 : Int) (b41 : List D) : t7_lp11 Try.prog Try.f7 N (n + 1) x0 x1 v23 b19 m0 v44 b41 =
  bif decide (v44 < ((sortK keyE b19).length : Int)) then
    bif (decide (0 ≤ v44) && decide (v44 < ((sortK keyE b19).length : Int))) then
      bif decide ((elemsD (fieldD ((sortK keyE b19).getD (v44).toNat .nil) 1)).length ≤ 2147483648) then
        bif (decide (0 ≤ v44) && decide (v44 < (b41.length : Int))) then
          t7_lp11 Try.prog Try.f7 N n x0 x1 v23 b19 m0 (IntKind.wrap .i64 (v44 + 1)) (b41.set (v44).toNat (fieldD ((sortK keyE b19).getD (v44).toNat .nil) 1))
        else none
      else none
    else none
  else bif decide ((elemsD (fieldD x0 0)).length ≤ 2147483648) then
      some (dat 25 (.agg [fieldD x0 0, .slice b41 []]))
    else none := by kernel_rfl
theorem t7_lp4_step  (N n : Nat) (x0 : D) (x1 : Int) (v23 : Int) (b19 : List D) : t7_lp4 Try.prog Try.f7 N (n + 1) x0 x1 v23 b19 =
  bif decide (v23 < ((elemsD (fieldD x0 1)).length : Int)) then
    bif (decide (0 ≤ v23) && decide (v23 < ((elemsD (fieldD x0 1)).length : Int))) then
      bif (decide (0 ≤ v23) && decide (v23 < (b19.length : Int))) then
        t7_lp4 Try.prog Try.f7 N n x0 x1 (IntKind.wrap .i64 (v23 + 1)) (b19.set (v23).toNat (.agg [rankD (elemsD ((elemsD (fieldD x0 1)).getD (v23).toNat .nil)) (Lib.idxOf ((elemsD (fieldD x0 0)).map intD) x1), (elemsD (fieldD x0 1)).getD (v23).toNat .nil]))
      else none
    else none
  else bif decide (b19.length ≤ 2147483648) then
      bif (decide (0 ≤ ((sortK keyE b19).length : Int)) && decide (((sortK keyE b19).length : Int) ≤ 2147483648)) then
        t7_lp11 Try.prog Try.f7 N N x0 x1 v23 b19 n 0 (List.replicate (((sortK keyE b19).length : Int)).toNat (.slice [] []))
      else none
    else none := by kernel_rfl
theorem t7 (N : Nat) (x0 : D) (x1 : Int) : evFn Try.prog (envR B3 H7 R3 []) t7_h N Try.f7 [dat 25 x0, dat 3 (.lit (.int .i64 x1))] =
  bif (decide (0 ≤ ((elemsD (fieldD x0 1)).length : Int)) && decide (((elemsD (fieldD x0 1)).length : Int) ≤ 2147483648)) then
    t7_lp4 Try.prog Try.f7 N N x0 x1 0 (List.replicate (((elemsD (fieldD x0 1)).length : Int)).toNat (.agg [.agg [.lit (.int .i64 0), .lit (.int .i64 0)], .slice [] []]))
  else none := by kernel_rfl

end Go.Proofs.Ytjofcicaoofijaa
