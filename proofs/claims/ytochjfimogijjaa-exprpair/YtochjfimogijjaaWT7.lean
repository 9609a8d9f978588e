/- What the evaluator comes to, function by function: by the kernel. Nothing here is trusted. -/
import Derived.Test.YtochjfimogijjaaWP6
namespace Go.Proofs.Ytochjfimogijjaa
open Go.Ev
set_option linter.unusedVariables false
/- roadbook/expr.Eval$1 -/
def t37_h : Hints := fun i => if i = 8 then some ([0, 1, 2, 7, 8, 9, 10, 11, 12, 13, 14, 15, 16, 17, 18, 19, 20, 21, 22, 23, 24, 25, 26, 30, 31, 32, 33, 34, 35, 36, 37, 38, 39, 40, 41, 42, 43, 44, 45], [4, 5, 25, 1000000, 1000001, 1000002], []) else none
def t37_lp8 (P : Program) (fn : Func) (K : Nat) (N n : Nat) (x0 : D) (cols : D) (row : D) (v29 : Int) (b25 : List D) : Option (AV × List (Option Ent)) := evLoop (preL t37_h (sub [1, 1, 1, 0, 1, 0, 0] (bodyOf fn))) (evCode P (envH U4 (H5 K)) t37_h N (sub [1, 1, 1, 0, 1, 0, 0] (bodyOf fn))) n ⟨[dead, dead, dead, bxp 1000002 50, bxp 4 26, bxp 5 23, bxp 25 28, dead, dead, dead, dead, dead, dead, dead, dead, dead, dead, dead, dead, dead, dead, dead, dead, dead, dead, dead, dead, dat 24 (fieldD x0 3), dat 3 (.lit (.int .i64 ((elemsD (fieldD x0 3)).length : Int))), dat 3 (.lit (.int .i64 v29)), dead, dead, dead, dead, dead, dead, dead, dead, dead, dead, dead, dead, dead, dead, dead, dead], lookB [(4, some ⟨26, x0, 0, none⟩), (5, some ⟨23, .agg [.lit (.int .i64 0), .lit (.int .i64 0)], 0, none⟩), (25, some ⟨28, .slice b25 [], 2, none⟩), (1000000, some ⟨27, cols, 0, none⟩), (1000001, some ⟨28, row, 0, none⟩), (1000002, some ⟨50, .nil, 0, some (clo 50 37 [1000000, 1000001, 1000002])⟩)]⟩ (blockK 1 (seqC P (envH U4 (H5 K)) t37_h N (sub [1, 1, 1, 1] (bodyOf fn)) (finH P fn 3) ))
theorem t37_lp8_step (K : Nat) (N n : Nat) (x0 : D) (cols : D) (row : D) (v29 : Int) (b25 : List D) : t37_lp8 Try.prog Try.f37 K N (n + 1) x0 cols row v29 b25 =
  bif decide (v29 < ((elemsD (fieldD x0 3)).length : Int)) then
    bif (decide (0 ≤ v29) && decide (v29 < ((elemsD (fieldD x0 3)).length : Int))) then
      bif okK K ((elemsD (fieldD x0 3)).getD (v29).toNat .nil) then
        bif (decide (0 ≤ v29) && decide (v29 < (b25.length : Int))) then
          t37_lp8 Try.prog Try.f37 K N n x0 cols row (IntKind.wrap .i64 (v29 + 1)) (b25.set (v29).toNat (evalK (elemsD cols) (elemsD row) K ((elemsD (fieldD x0 3)).getD (v29).toNat .nil)))
        else none
      else none
    else none
  else bif (decide (0 ≤ (intD (fieldD x0 0))) && decide ((intD (fieldD x0 0)) < 11)) then
      bif comeOK (formT (intD (fieldD x0 0))) (.slice b25 []) then
        some (dat 23 (comeD (formT (intD (fieldD x0 0))) (.slice b25 [])), [some ⟨27, cols, 0, none⟩, some ⟨28, row, 0, none⟩, some ⟨50, .nil, 0, some (clo 50 37 [1000000, 1000001, 1000002])⟩])
      else none
    else none := by kernel_rfl
theorem t37 (K : Nat) (N : Nat) (x0 : D) (cols : D) (row : D) : evFnH Try.prog (envH U4 (H5 K)) t37_h N Try.f37 [dat 26 x0, bxp 1000000 27, bxp 1000001 28, bxp 1000002 50] [⟨27, cols, 0, none⟩, ⟨28, row, 0, none⟩, ⟨50, .nil, 0, some (clo 50 37 [1000000, 1000001, 1000002])⟩] =
  bif ((intD (fieldD x0 0)) == 0) then
    some (dat 23 (fieldD x0 2), [some ⟨27, cols, 0, none⟩, some ⟨28, row, 0, none⟩, some ⟨50, .nil, 0, some (clo 50 37 [1000000, 1000001, 1000002])⟩])
  else bif ((intD (fieldD x0 0)) == 1) then
      some (dat 23 (atD (intD (fieldD x0 1)) (elemsD cols) (elemsD row)), [some ⟨27, cols, 0, none⟩, some ⟨28, row, 0, none⟩, some ⟨50, .nil, 0, some (clo 50 37 [1000000, 1000001, 1000002])⟩])
    else bif (decide (0 ≤ ((elemsD (fieldD x0 3)).length : Int)) && decide (((elemsD (fieldD x0 3)).length : Int) ≤ 2147483648)) then
        t37_lp8 Try.prog Try.f37 K N N x0 cols row 0 (List.replicate (((elemsD (fieldD x0 3)).length : Int)).toNat (.agg [.lit (.int .i64 0), .lit (.int .i64 0)]))
      else none := by kernel_rfl

end Go.Proofs.Ytochjfimogijjaa
