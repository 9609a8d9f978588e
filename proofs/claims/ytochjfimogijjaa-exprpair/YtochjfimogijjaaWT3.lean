/- What the evaluator comes to, function by function: by the kernel. Nothing here is trusted. -/
import Derived.Test.YtochjfimogijjaaWP2
namespace Go.Proofs.Ytochjfimogijjaa
open Go.Ev
set_option linter.unusedVariables false
/- roadbook/expr.May$1 -/
def t28_h : Hints := fun _ =>  none
theorem t28 (N : Nat) (x0 : D) (x1 : Int) (q : Int) : evFnH Try.prog (envH U2 []) t28_h N Try.f28 [dat 26 x0, dat 3 (.lit (.int .i64 x1)), bxp 1000000 3] [⟨3, .lit (.int .i64 q), 0, none⟩] =
  bif ((decide ((IntKind.wrap .i64 (q + 1)) ≤ 30)) == true) then
    bif ((decide (x1 ≤ 6)) == true) then
      some (dat 4 (.lit (.bool (fitsB x0))), [some ⟨3, .lit (.int .i64 (IntKind.wrap .i64 (q + 1))), 0, none⟩])
    else some (dat 4 (.lit (.bool false)), [some ⟨3, .lit (.int .i64 (IntKind.wrap .i64 (q + 1))), 0, none⟩])
  else some (dat 4 (.lit (.bool false)), [some ⟨3, .lit (.int .i64 (IntKind.wrap .i64 (q + 1))), 0, none⟩]) := by kernel_rfl

/- roadbook/expr.Cols$1 -/
def t34_h : Hints := fun _ =>  none
theorem t34 (N : Nat) (x0 : D) (x1 : Int) (es : List D) : evFnH Try.prog (envH U2 []) t34_h N Try.f34 [dat 26 x0, dat 3 (.lit (.int .i64 x1)), bxp 1000000 27] [⟨27, .nil, 0, some (bxp 1000001 27)⟩, ⟨27, .slice es [], 4, none⟩] =
  bif ((intD (fieldD x0 0)) == 1) then
    bif decide ((es).length + 1 ≤ 2147483648) then
      some (dat 4 (.lit (.bool true)), [some ⟨27, .nil, 0, some (bxp 1000001 27)⟩, some ⟨27, .slice (es ++ [.lit (.int .i64 (intD (fieldD x0 1)))]) [], 1, none⟩])
    else none
  else some (dat 4 (.lit (.bool true)), [some ⟨27, .nil, 0, some (bxp 1000001 27)⟩, some ⟨27, .slice es [], 4, none⟩]) := by kernel_rfl

end Go.Proofs.Ytochjfimogijjaa
