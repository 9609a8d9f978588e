/- The laws of layer 1 that make slices: what a call of each answers. Nothing here is trusted. -/
import Derived.Test.YtjgpdleibkfadaaVF2
namespace Go.Proofs.Ytjgpdleibkfadaa
open Go.Ev
set_option linter.unusedVariables false

theorem k7 : FnOK Try.prog 7 Try.f7 := ⟨Try.func7, rfl, by kernel_rfl⟩
theorem k8 : FnOK Try.prog 8 Try.f8 := ⟨Try.func8, rfl, by kernel_rfl⟩
theorem k9 : FnOK Try.prog 9 Try.f9 := ⟨Try.func9, rfl, by kernel_rfl⟩

theorem law_ok2 {hh : Hints} {fuel : Nat} {f : FuncId} {fn : Func} {args : List AV} (hf : FnOK Try.prog f fn) (h : evFn Try.prog (envOf T8) hh fuel fn args = TT) : CallOK Try.prog f args (dat 4 (.lit (.bool true))) := by
  have := fn_ok hm env8 hf (t := 4) (d := .lit (.bool true)) (h.trans (by rw [m4]; rfl))
  rw [m4] at this
  exact this

theorem law7 (x : D) : CallOK Try.prog 7 [dat 28 x] (dat 4 (.lit (.bool true))) := law_ok2 k7 (g7 x)
theorem law8 (x : D) : CallOK Try.prog 8 [dat 28 x] (dat 4 (.lit (.bool true))) := law_ok2 k8 (g8 x)
theorem law9 (x : D) : CallOK Try.prog 9 [dat 37 x] (dat 4 (.lit (.bool true))) := law_ok2 k9 (g9 x)

end Go.Proofs.Ytjgpdleibkfadaa
