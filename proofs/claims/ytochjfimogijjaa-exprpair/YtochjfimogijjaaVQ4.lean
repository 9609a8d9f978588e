/- Layer 1: what calls these. Nothing here is trusted. -/
import Derived.Test.YtochjfimogijjaaVQ3
namespace Go.Proofs.Ytochjfimogijjaa
open Go.Ev
set_option linter.unusedVariables false
set_option linter.unusedSimpArgs false

theorem k81 : FnOK Try.prog 81 Try.f81 := ⟨Try.func81, rfl, by kernel_rfl⟩
theorem u40 : Try.prog.underlying 80 = some (.func #[3, 3] #[3, 4] false) := by kernel_rfl

theorem reckon_of {fits : Bool} {v w : Int} {x y : D} (hw : fits = true → w = v) :
    (bif (!(isNum (ifNum 0 [x, y]))) then some (dat 23 (ifNum 0 [x, y]))
     else bif (!fits) then some (dat 23 (.agg [.lit (.int .i64 2), .lit (.int .i64 0)])) else some (dat 23 (.agg [.lit (.int .i64 0), .lit (.int .i64 w)]))) = some (dat 23 (reck fits v x y)) := by
  unfold ifNum reck
  cases [x, y].any isErr <;> cases [x, y].any isNul <;> cases fits <;> try rfl
  rw [hw rfl]
  rfl

theorem c81 : ∀ args d, e81.2.2.2 args = some d → CallOK Try.prog 81 args (mkRes Try.prog 23 d) :=
  ent3 k81 fun x y z d h ⟨_, hx⟩ _ _ => by
    rw [n40, n23, n23]
    split at h
    · rename_i hf
      cases h
      rw [ty25 u40 hx hf]
      refine fn_ok hm env5 k81 ((t81_82 1 y z).trans ?_)
      rw [m23]
      exact reckon_of wrap_in
    · rename_i hf
      cases h
      rw [ty25 u40 hx hf]
      refine fn_ok hm env5 k81 ((t81_83 1 y z).trans ?_)
      rw [m23]
      exact reckon_of wrap_in
    · rename_i hf
      cases h
      rw [ty25 u40 hx hf]
      refine fn_ok hm env5 k81 ((t81_84 1 y z).trans ?_)
      rw [m23]
      exact reckon_of wrap_in
    · rename_i hf
      cases h
      rw [ty25 u40 hx hf]
      refine fn_ok hm env5 k81 ((t81_85 1 y z).trans ?_)
      rw [m23]
      exact reckon_of fun _ => rfl
    · cases h

theorem k56 : FnOK Try.prog 56 Try.f56 := ⟨Try.func56, rfl, by kernel_rfl⟩
theorem c56 : ∀ args d, e56.2.2.2 args = some d → CallOK Try.prog 56 args (mkRes Try.prog 23 d) :=
  ent2 k56 fun x y d h _ _ => by
    cases h
    rw [n23, n23]
    refine fn_ok hm env5 k56 ((t56 1 x y).trans ?_)
    rw [m23]
    rfl
theorem k57 : FnOK Try.prog 57 Try.f57 := ⟨Try.func57, rfl, by kernel_rfl⟩
theorem c57 : ∀ args d, e57.2.2.2 args = some d → CallOK Try.prog 57 args (mkRes Try.prog 23 d) :=
  ent2 k57 fun x y d h _ _ => by
    cases h
    rw [n23, n23]
    refine fn_ok hm env5 k57 ((t57 1 x y).trans ?_)
    rw [m23]
    rfl
theorem k58 : FnOK Try.prog 58 Try.f58 := ⟨Try.func58, rfl, by kernel_rfl⟩
theorem c58 : ∀ args d, e58.2.2.2 args = some d → CallOK Try.prog 58 args (mkRes Try.prog 23 d) :=
  ent1 k58 fun x d h _ => by
    cases h
    rw [n28]
    refine fn_ok hm env5 k58 ((t58 1 x).trans ?_)
    rw [m23]
    unfold andD
    cases (elemsD x).any isFal <;> rfl
theorem k59 : FnOK Try.prog 59 Try.f59 := ⟨Try.func59, rfl, by kernel_rfl⟩
theorem c59 : ∀ args d, e59.2.2.2 args = some d → CallOK Try.prog 59 args (mkRes Try.prog 23 d) :=
  ent1 k59 fun x d h _ => by
    cases h
    rw [n28]
    refine fn_ok hm env5 k59 ((t59 1 x).trans ?_)
    rw [m23]
    unfold orD
    cases (elemsD x).any isTru <;> rfl
theorem k60 : FnOK Try.prog 60 Try.f60 := ⟨Try.func60, rfl, by kernel_rfl⟩
theorem c60 : ∀ args d, e60.2.2.2 args = some d → CallOK Try.prog 60 args (mkRes Try.prog 23 d) :=
  ent1 k60 fun x d h _ => by
    cases h
    rw [n23]
    refine fn_ok hm env5 k60 ((t60 1 x).trans ?_)
    rw [m23]
    rfl

theorem env6 : EnvOK Try.prog (envOf T6) := (envOK_cons (envOK_cons (envOK_cons (envOK_cons (envOK_cons (envOK_cons env5 c60) c59) c58) c57) c56) c81)

theorem k52 : FnOK Try.prog 52 Try.f52 := ⟨Try.func52, rfl, by kernel_rfl⟩
theorem c52 : ∀ args d, e52.2.2.2 args = some d → CallOK Try.prog 52 args (mkRes Try.prog 23 d) :=
  ent2 k52 fun x y d h _ _ => by
    cases h
    rw [n23, n23]
    refine fn_ok hm env6 k52 ((t52 1 x y).trans ?_)
    rw [m23]
theorem k53 : FnOK Try.prog 53 Try.f53 := ⟨Try.func53, rfl, by kernel_rfl⟩
theorem c53 : ∀ args d, e53.2.2.2 args = some d → CallOK Try.prog 53 args (mkRes Try.prog 23 d) :=
  ent2 k53 fun x y d h _ _ => by
    cases h
    rw [n23, n23]
    refine fn_ok hm env6 k53 ((t53 1 x y).trans ?_)
    rw [m23]
theorem k54 : FnOK Try.prog 54 Try.f54 := ⟨Try.func54, rfl, by kernel_rfl⟩
theorem c54 : ∀ args d, e54.2.2.2 args = some d → CallOK Try.prog 54 args (mkRes Try.prog 23 d) :=
  ent2 k54 fun x y d h _ _ => by
    cases h
    rw [n23, n23]
    refine fn_ok hm env6 k54 ((t54 1 x y).trans ?_)
    rw [m23]
theorem k55 : FnOK Try.prog 55 Try.f55 := ⟨Try.func55, rfl, by kernel_rfl⟩
theorem c55 : ∀ args d, e55.2.2.2 args = some d → CallOK Try.prog 55 args (mkRes Try.prog 23 d) :=
  ent2 k55 fun x y d h _ _ => by
    cases h
    rw [n23, n23]
    refine fn_ok hm env6 k55 ((t55 1 x y).trans ?_)
    rw [m23]

theorem env7 : EnvOK Try.prog (envOf T7) := (envOK_cons (envOK_cons (envOK_cons (envOK_cons env6 c55) c54) c53) c52)

theorem env8 : EnvOK Try.prog (envOf T8) := env7

end Go.Proofs.Ytochjfimogijjaa
