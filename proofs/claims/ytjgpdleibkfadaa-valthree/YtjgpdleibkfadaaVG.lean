/- The laws of layer 1: what a call of each answers. Nothing here is trusted. -/
import Derived.Test.YtjgpdleibkfadaaVF
namespace Go.Proofs.Ytjgpdleibkfadaa
open Go.Ev
set_option linter.unusedVariables false

theorem k3 : FnOK Try.prog 3 Try.f3 := ⟨Try.func3, rfl, by kernel_rfl⟩
theorem k4 : FnOK Try.prog 4 Try.f4 := ⟨Try.func4, rfl, by kernel_rfl⟩
theorem k5 : FnOK Try.prog 5 Try.f5 := ⟨Try.func5, rfl, by kernel_rfl⟩
theorem k6 : FnOK Try.prog 6 Try.f6 := ⟨Try.func6, rfl, by kernel_rfl⟩
theorem k10 : FnOK Try.prog 10 Try.f10 := ⟨Try.func10, rfl, by kernel_rfl⟩

theorem law_ok {hh : Hints} {fuel : Nat} {f : FuncId} {fn : Func} {args : List AV} (hf : FnOK Try.prog f fn) (h : evFn Try.prog (envOf T8) hh fuel fn args = TT) : CallOK Try.prog f args (dat 4 (.lit (.bool true))) := by
  have := fn_ok hm env8 hf (t := 4) (d := .lit (.bool true)) (h.trans (by rw [m4]; rfl))
  rw [m4] at this
  exact this

theorem law3 (x y : D) : CallOK Try.prog 3 [dat 23 x, dat 23 y] (dat 4 (.lit (.bool true))) := law_ok k3 (g3 1 x y)
theorem law4 (x y : D) : CallOK Try.prog 4 [dat 28 x, dat 23 y] (dat 4 (.lit (.bool true))) := law_ok k4 (g4 1 x y)
theorem law5 (x y z : D) : CallOK Try.prog 5 [dat 23 x, dat 23 y, dat 23 z] (dat 4 (.lit (.bool true))) := law_ok k5 (g5 1 x y z)
theorem law6 {n m : Nat} {x y : D} (hx : Ty Try.prog n 3 x) (hy : Ty Try.prog m 3 y) : CallOK Try.prog 6 [dat 3 x, dat 3 y] (dat 4 (.lit (.bool true))) := by
  refine CallOK.norm ?_
  show CallOK Try.prog 6 [dat 3 (normD Try.prog 3 x), dat 3 (normD Try.prog 3 y)] _
  rw [n3, n3]
  exact law_ok k6 (g6 1 (intD x) (intD y) (ty3 hx) (ty3 hy))
theorem law10 (x y : D) : CallOK Try.prog 10 [dat 23 x, dat 23 y] (dat 4 (.lit (.bool true))) := law_ok k10 (g10 x y)

end Go.Proofs.Ytjgpdleibkfadaa
