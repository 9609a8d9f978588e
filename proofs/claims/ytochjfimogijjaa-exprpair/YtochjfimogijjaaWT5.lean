/- What the evaluator comes to, function by function: by the kernel. Nothing here is trusted. -/
import Derived.Test.YtochjfimogijjaaWP4
namespace Go.Proofs.Ytochjfimogijjaa
open Go.Ev
set_option linter.unusedVariables false
/- roadbook/expr.through -/
def t27_m_h : Hints := fun _ =>  none
theorem t27_m (N : Nat) (x0 : D) (q : Int) : evFnH Try.prog (envH U2 (H2 7)) t27_m_h N Try.f27 [dat 26 x0, clo 30 28 [1000000]] [⟨3, .lit (.int .i64 q), 0, none⟩] =
  bif mayPre 7 1 q then
    some (dat 4 (.lit (.bool ((mayAll 7 x0 1 q).1))), [some ⟨3, .lit (.int .i64 ((mayAll 7 x0 1 q).2)), 0, none⟩])
  else none := by kernel_rfl

/- roadbook/expr.through -/
def t27_c_h : Hints := fun _ =>  none
theorem t27_c (N : Nat) (x0 : D) (es : List D) : evFnH Try.prog (envH U2 (H2 7)) t27_c_h N Try.f27 [dat 26 x0, clo 30 34 [1000000]] [⟨27, .nil, 0, some (bxp 1000001 27)⟩, ⟨27, .slice es [], 4, none⟩] =
  bif colsPre 7 x0 1 es then
    some (dat 4 (.lit (.bool true)), [some ⟨27, .nil, 0, some (bxp 1000001 27)⟩, some ⟨27, .slice (es ++ colsK 7 x0) [], 1, none⟩])
  else none := by kernel_rfl

end Go.Proofs.Ytochjfimogijjaa
