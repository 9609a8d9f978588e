/- Layer 2: Eval and Keeps. Nothing here is trusted. -/
import Derived.Test.YtochjfimogijjaaWT8
namespace Go.Proofs.Ytochjfimogijjaa
open Go.Ev
set_option linter.unusedVariables false
set_option linter.unusedSimpArgs false

theorem k19 : FnOK Try.prog 19 Try.f19 := ⟨Try.func19, rfl, by kernel_rfl⟩
theorem c19 : ∀ args d, e19.2.2.2 args = some d → CallOK Try.prog 19 args (mkRes Try.prog 23 d) :=
  ent3 k19 fun x y z d h _ _ _ => by
    cases h
    rw [n26, n27, n28]
    refine fn_ok hm (envH5 7) k19 ((t19 1 x y z).trans ?_)
    rw [m23]
    unfold evalE
    cases hmay : mayE x with
    | false => rfl
    | true =>
      rw [mayE_ok hmay]
      rfl
theorem envU5 : EnvOK Try.prog (envH U5 []) := envOK_cons envU4 c19
def e21 : FuncId × TypeId × (List AV → Bool) × (List AV → Option D) := (21, 4, yes, ent [26, 27, 28] (f3 fun x y z => some (.lit (.bool (keepsE x (elemsD y) (elemsD z))))))
theorem k21 : FnOK Try.prog 21 Try.f21 := ⟨Try.func21, rfl, by kernel_rfl⟩
theorem c21 : ∀ args d, e21.2.2.2 args = some d → CallOK Try.prog 21 args (mkRes Try.prog 4 d) :=
  ent3 k21 fun x y z d h _ _ _ => by
    cases h
    rw [n26, n27, n28]
    refine fn_ok hm envU5 k21 ((t21 1 x y z).trans ?_)
    rw [m4]
    rfl
def U6 : Tab := e21 :: U5
theorem envU6 : EnvOK Try.prog (envH U6 []) := envOK_cons envU5 c21

/-! ### How many parts; has it a column: by levels -/
def e26 (K : Nat) : FuncId × TypeId × (List AV → Bool) × (List AV → Option D) := (26, 3, fun xs => decide (0 ≤ intD (xs.getD 1 dead).d) && decide (intD (xs.getD 1 dead).d < (K : Int)) && decide (K ≤ 1001), ent [26, 3] (f2 fun x y => some (.lit (.int .i64 (sizeK K x (intD y))))))
def e23 (K : Nat) : FuncId × TypeId × (List AV → Bool) × (List AV → Option D) := (23, 4, fun xs => okK K (xs.getD 0 dead).d, ent [26, 3] (f2 fun x y => some (.lit (.bool (hasK K x (intD y))))))
def U7 (K : Nat) : Tab := e23 K :: e26 K :: U6

end Go.Proofs.Ytochjfimogijjaa
