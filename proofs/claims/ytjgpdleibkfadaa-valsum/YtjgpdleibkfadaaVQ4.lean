/- Layer 1: what calls these. Nothing here is trusted. -/
import Derived.Test.YtjgpdleibkfadaaVQ3
namespace Go.Proofs.Ytjgpdleibkfadaa
open Go.Ev
set_option linter.unusedVariables false
set_option linter.unusedSimpArgs false

theorem k41 : FnOK Try.prog 41 Try.f41 := ⟨Try.func41, rfl, by kernel_rfl⟩
theorem u40 : Try.prog.underlying 40 = some (.func #[3, 3] #[3, 4] false) := by kernel_rfl

theorem reckon_of {fits : Bool} {v w : Int} {x y : D} (hw : fits = true → w = v) :
    (bif (!(isNum (ifNum 0 [x, y]))) then some (dat 23 (ifNum 0 [x, y]))
     else bif (!fits) then some (dat 23 (.agg [.lit (.int .i64 2), .lit (.int .i64 0)])) else some (dat 23 (.agg [.lit (.int .i64 0), .lit (.int .i64 w)]))) = some (dat 23 (reck fits v x y)) := by
  unfold ifNum reck
  cases [x, y].any isErr <;> cases [x, y].any isNul <;> cases fits <;> try rfl
  rw [hw rfl]
  rfl

theorem c41 : ∀ args d, e41.2.2.2 args = some d → CallOK Try.prog 41 args (mkRes Try.prog 23 d) :=
  ent3 k41 fun x y z d h ⟨_, hx⟩ _ _ => by
    rw [n40, n23, n23]
    split at h
    · rename_i hf
      cases h
      rw [ty25 u40 hx hf]
      refine fn_ok hm env5 k41 ((t41_42 1 y z).trans ?_)
      rw [m23]
      exact reckon_of wrap_in
    · rename_i hf
      cases h
      rw [ty25 u40 hx hf]
      refine fn_ok hm env5 k41 ((t41_45 1 y z).trans ?_)
      rw [m23]
      exact reckon_of wrap_in
    · rename_i hf
      cases h
      rw [ty25 u40 hx hf]
      refine fn_ok hm env5 k41 ((t41_46 1 y z).trans ?_)
      rw [m23]
      exact reckon_of wrap_in
    · rename_i hf
      cases h
      rw [ty25 u40 hx hf]
      refine fn_ok hm env5 k41 ((t41_47 1 y z).trans ?_)
      rw [m23]
      exact reckon_of fun _ => rfl
    · cases h

theorem k24 : FnOK Try.prog 24 Try.f24 := ⟨Try.func24, rfl, by kernel_rfl⟩
theorem c24 : ∀ args d, e24.2.2.2 args = some d → CallOK Try.prog 24 args (mkRes Try.prog 23 d) :=
  ent2 k24 fun x y d h _ _ => by
    cases h
    rw [n23, n23]
    refine fn_ok hm env5 k24 ((t24 1 x y).trans ?_)
    rw [m23]
    rfl
theorem k26 : FnOK Try.prog 26 Try.f26 := ⟨Try.func26, rfl, by kernel_rfl⟩
theorem c26 : ∀ args d, e26.2.2.2 args = some d → CallOK Try.prog 26 args (mkRes Try.prog 23 d) :=
  ent2 k26 fun x y d h _ _ => by
    cases h
    rw [n23, n23]
    refine fn_ok hm env5 k26 ((t26 1 x y).trans ?_)
    rw [m23]
    rfl
theorem k28 : FnOK Try.prog 28 Try.f28 := ⟨Try.func28, rfl, by kernel_rfl⟩
theorem c28 : ∀ args d, e28.2.2.2 args = some d → CallOK Try.prog 28 args (mkRes Try.prog 23 d) :=
  ent1 k28 fun x d h _ => by
    cases h
    rw [n28]
    refine fn_ok hm env5 k28 ((t28 1 x).trans ?_)
    rw [m23]
    unfold andD
    cases (elemsD x).any isFal <;> rfl
theorem k30 : FnOK Try.prog 30 Try.f30 := ⟨Try.func30, rfl, by kernel_rfl⟩
theorem c30 : ∀ args d, e30.2.2.2 args = some d → CallOK Try.prog 30 args (mkRes Try.prog 23 d) :=
  ent1 k30 fun x d h _ => by
    cases h
    rw [n28]
    refine fn_ok hm env5 k30 ((t30 1 x).trans ?_)
    rw [m23]
    unfold orD
    cases (elemsD x).any isTru <;> rfl
theorem k34 : FnOK Try.prog 34 Try.f34 := ⟨Try.func34, rfl, by kernel_rfl⟩
theorem c34 : ∀ args d, e34.2.2.2 args = some d → CallOK Try.prog 34 args (mkRes Try.prog 23 d) :=
  ent1 k34 fun x d h _ => by
    cases h
    rw [n23]
    refine fn_ok hm env5 k34 ((t34 1 x).trans ?_)
    rw [m23]
    rfl

theorem env6 : EnvOK Try.prog (envOf T6) :=
  envOK_cons (envOK_cons (envOK_cons (envOK_cons (envOK_cons (envOK_cons env5 c34) c30) c28) c26) c24) c41

theorem k16 : FnOK Try.prog 16 Try.f16 := ⟨Try.func16, rfl, by kernel_rfl⟩
theorem c16 : ∀ args d, e16.2.2.2 args = some d → CallOK Try.prog 16 args (mkRes Try.prog 23 d) :=
  ent2 k16 fun x y d h _ _ => by
    cases h
    rw [n23, n23]
    refine fn_ok hm env6 k16 ((t16 1 x y).trans ?_)
    rw [m23]
theorem k18 : FnOK Try.prog 18 Try.f18 := ⟨Try.func18, rfl, by kernel_rfl⟩
theorem c18 : ∀ args d, e18.2.2.2 args = some d → CallOK Try.prog 18 args (mkRes Try.prog 23 d) :=
  ent2 k18 fun x y d h _ _ => by
    cases h
    rw [n23, n23]
    refine fn_ok hm env6 k18 ((t18 1 x y).trans ?_)
    rw [m23]
theorem k20 : FnOK Try.prog 20 Try.f20 := ⟨Try.func20, rfl, by kernel_rfl⟩
theorem c20 : ∀ args d, e20.2.2.2 args = some d → CallOK Try.prog 20 args (mkRes Try.prog 23 d) :=
  ent2 k20 fun x y d h _ _ => by
    cases h
    rw [n23, n23]
    refine fn_ok hm env6 k20 ((t20 1 x y).trans ?_)
    rw [m23]
theorem k22 : FnOK Try.prog 22 Try.f22 := ⟨Try.func22, rfl, by kernel_rfl⟩
theorem c22 : ∀ args d, e22.2.2.2 args = some d → CallOK Try.prog 22 args (mkRes Try.prog 23 d) :=
  ent2 k22 fun x y d h _ _ => by
    cases h
    rw [n23, n23]
    refine fn_ok hm env6 k22 ((t22 1 x y).trans ?_)
    rw [m23]

theorem env7 : EnvOK Try.prog (envOf T7) :=
  envOK_cons (envOK_cons (envOK_cons (envOK_cons env6 c22) c20) c18) c16

theorem k11 : FnOK Try.prog 11 Try.f11 := ⟨Try.func11, rfl, by kernel_rfl⟩
theorem c11 : ∀ args d, e11.2.2.2 args = some d → CallOK Try.prog 11 args (mkRes Try.prog 4 d) :=
  ent0 fun d h => by
    cases h
    refine fn_ok hm env7 k11 ((t11 1).trans ?_)
    rw [m4]
    kernel_rfl
theorem env8 : EnvOK Try.prog (envOf T8) := envOK_cons env7 c11

end Go.Proofs.Ytjgpdleibkfadaa
