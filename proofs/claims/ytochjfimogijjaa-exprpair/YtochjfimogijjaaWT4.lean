/- What the evaluator comes to, function by function: by the kernel. Nothing here is trusted. -/
import Derived.Test.YtochjfimogijjaaWP3
namespace Go.Proofs.Ytochjfimogijjaa
open Go.Ev
set_option linter.unusedVariables false
/- roadbook/expr.through$1 -/
def t44_m_h : Hints := fun i => if i = 4 then some ([0, 2, 4, 5, 6, 7, 8, 9, 10, 11, 12, 13, 14, 18, 19, 20, 21, 22, 23, 24, 25, 26, 27], [1000000, 1000001, 1000002], []) else none
def t44_m_lp4 (P : Program) (fn : Func) (K : Nat) (N n : Nat) (x0 : D) (x1 : Int) (q : Int) (v17 : Int) (b1000002 : Int) : Option (AV × List (Option Ent)) := evLoop (preL t44_m_h (sub [1, 1, 0, 1, 0, 0] (bodyOf fn))) (evCode P (envH U2 (H2 K)) t44_m_h N (sub [1, 1, 0, 1, 0, 0] (bodyOf fn))) n ⟨[dead, dat 3 (.lit (.int .i64 x1)), dead, bxp 1000001 30, dead, dead, dead, dead, dead, dead, dead, dead, dead, dead, dead, dat 24 (fieldD x0 3), dat 3 (.lit (.int .i64 ((elemsD (fieldD x0 3)).length : Int))), dat 3 (.lit (.int .i64 v17)), dead, dead, dead, dead, dead, dead, dead, dead, dead, dead], lookB [(1000000, some ⟨30, .nil, 0, some (clo 30 28 [1000002])⟩), (1000001, some ⟨30, .nil, 0, some (clo 30 44 [1000000, 1000001])⟩), (1000002, some ⟨3, .lit (.int .i64 b1000002), 0, none⟩)]⟩ (blockK 0 (seqC P (envH U2 (H2 K)) t44_m_h N (sub [1, 1, 1] (bodyOf fn)) (finH P fn 3) ))
theorem t44_m_lp4_step (K : Nat) (N n : Nat) (x0 : D) (x1 : Int) (q : Int) (v17 : Int) (b1000002 : Int) : t44_m_lp4 Try.prog Try.f44 K N (n + 1) x0 x1 q v17 b1000002 =
  bif decide (v17 < ((elemsD (fieldD x0 3)).length : Int)) then
    bif (decide (0 ≤ v17) && decide (v17 < ((elemsD (fieldD x0 3)).length : Int))) then
      bif mayPre K (IntKind.wrap .i64 (x1 + 1)) b1000002 then
        bif (!((mayAll K ((elemsD (fieldD x0 3)).getD (v17).toNat .nil) (IntKind.wrap .i64 (x1 + 1)) b1000002).1)) then
          some (dat 4 (.lit (.bool false)), [some ⟨30, .nil, 0, some (clo 30 28 [1000002])⟩, some ⟨30, .nil, 0, some (clo 30 44 [1000000, 1000001])⟩, some ⟨3, .lit (.int .i64 ((mayAll K ((elemsD (fieldD x0 3)).getD (v17).toNat .nil) (IntKind.wrap .i64 (x1 + 1)) b1000002).2)), 0, none⟩])
        else t44_m_lp4 Try.prog Try.f44 K N n x0 x1 q (IntKind.wrap .i64 (v17 + 1)) ((mayAll K ((elemsD (fieldD x0 3)).getD (v17).toNat .nil) (IntKind.wrap .i64 (x1 + 1)) b1000002).2)
      else none
    else none
  else some (dat 4 (.lit (.bool true)), [some ⟨30, .nil, 0, some (clo 30 28 [1000002])⟩, some ⟨30, .nil, 0, some (clo 30 44 [1000000, 1000001])⟩, some ⟨3, .lit (.int .i64 b1000002), 0, none⟩]) := by kernel_rfl
theorem t44_m (K : Nat) (N : Nat) (x0 : D) (x1 : Int) (q : Int) : evFnH Try.prog (envH U2 (H2 K)) t44_m_h N Try.f44 [dat 26 x0, dat 3 (.lit (.int .i64 x1)), bxp 1000000 30, bxp 1000001 30] [⟨30, .nil, 0, some (clo 30 28 [1000002])⟩, ⟨30, .nil, 0, some (clo 30 44 [1000000, 1000001])⟩, ⟨3, .lit (.int .i64 q), 0, none⟩] =
  bif (decide (0 ≤ q) && decide (q ≤ 1000)) then
    bif (!(seeMay x0 x1 q)) then
      some (dat 4 (.lit (.bool false)), [some ⟨30, .nil, 0, some (clo 30 28 [1000002])⟩, some ⟨30, .nil, 0, some (clo 30 44 [1000000, 1000001])⟩, some ⟨3, .lit (.int .i64 (q + 1)), 0, none⟩])
    else t44_m_lp4 Try.prog Try.f44 K N N x0 x1 q 0 (q + 1)
  else none := by kernel_rfl

/- roadbook/expr.through$1 -/
def t44_c_h : Hints := fun i => if i = 4 then some ([0, 2, 4, 5, 6, 7, 8, 9, 10, 11, 12, 13, 14, 18, 19, 20, 21, 22, 23, 24, 25, 26, 27], [1000000, 1000001, 1000002, 1000003], []) else none
def t44_c_lp4 (P : Program) (fn : Func) (K : Nat) (N n : Nat) (x0 : D) (x1 : Int) (es : List D) (v17 : Int) (b1000003 : List D) : Option (AV × List (Option Ent)) := evLoop (preL t44_c_h (sub [1, 1, 0, 1, 0, 0] (bodyOf fn))) (evCode P (envH U2 (H2 K)) t44_c_h N (sub [1, 1, 0, 1, 0, 0] (bodyOf fn))) n ⟨[dead, dat 3 (.lit (.int .i64 x1)), dead, bxp 1000001 30, dead, dead, dead, dead, dead, dead, dead, dead, dead, dead, dead, dat 24 (fieldD x0 3), dat 3 (.lit (.int .i64 ((elemsD (fieldD x0 3)).length : Int))), dat 3 (.lit (.int .i64 v17)), dead, dead, dead, dead, dead, dead, dead, dead, dead, dead], lookB [(1000000, some ⟨30, .nil, 0, some (clo 30 34 [1000002])⟩), (1000001, some ⟨30, .nil, 0, some (clo 30 44 [1000000, 1000001])⟩), (1000002, some ⟨27, .nil, 0, some (bxp 1000003 27)⟩), (1000003, some ⟨27, .slice b1000003 [], 1, none⟩)]⟩ (blockK 0 (seqC P (envH U2 (H2 K)) t44_c_h N (sub [1, 1, 1] (bodyOf fn)) (finH P fn 4) ))
theorem t44_c_lp4_step (K : Nat) (N n : Nat) (x0 : D) (x1 : Int) (es : List D) (v17 : Int) (b1000003 : List D) : t44_c_lp4 Try.prog Try.f44 K N (n + 1) x0 x1 es v17 b1000003 =
  bif decide (v17 < ((elemsD (fieldD x0 3)).length : Int)) then
    bif (decide (0 ≤ v17) && decide (v17 < ((elemsD (fieldD x0 3)).length : Int))) then
      bif colsPre K ((elemsD (fieldD x0 3)).getD (v17).toNat .nil) (IntKind.wrap .i64 (x1 + 1)) b1000003 then
        t44_c_lp4 Try.prog Try.f44 K N n x0 x1 es (IntKind.wrap .i64 (v17 + 1)) (b1000003 ++ colsK K ((elemsD (fieldD x0 3)).getD (v17).toNat .nil))
      else none
    else none
  else some (dat 4 (.lit (.bool true)), [some ⟨30, .nil, 0, some (clo 30 34 [1000002])⟩, some ⟨30, .nil, 0, some (clo 30 44 [1000000, 1000001])⟩, some ⟨27, .nil, 0, some (bxp 1000003 27)⟩, some ⟨27, .slice b1000003 [], 1, none⟩]) := by kernel_rfl
theorem t44_c (K : Nat) (N : Nat) (x0 : D) (x1 : Int) (es : List D) : evFnH Try.prog (envH U2 (H2 K)) t44_c_h N Try.f44 [dat 26 x0, dat 3 (.lit (.int .i64 x1)), bxp 1000000 30, bxp 1000001 30] [⟨30, .nil, 0, some (clo 30 34 [1000002])⟩, ⟨30, .nil, 0, some (clo 30 44 [1000000, 1000001])⟩, ⟨27, .nil, 0, some (bxp 1000003 27)⟩, ⟨27, .slice es [], 4, none⟩] =
  bif decide (es.length ≤ 1000) then
    t44_c_lp4 Try.prog Try.f44 K N N x0 x1 es 0 (es ++ (bif opI x0 == 1 then [litI (colI x0)] else []))
  else none := by kernel_rfl

end Go.Proofs.Ytochjfimogijjaa
