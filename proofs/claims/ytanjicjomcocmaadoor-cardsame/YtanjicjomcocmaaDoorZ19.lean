/- Trees of functions, and lemmas. Nothing here is trusted. -/
import Derived.Test.YtanjicjomcocmaaDoorZ18
namespace Go.Proofs.YtanjicjomcocmaaDoor
open Go.Ev
set_option linter.unusedVariables false
set_option linter.unusedSimpArgs false
theorem k86 : FnOK Tryd.prog 86 Tryd.f86 := ⟨Tryd.func86, rfl, by kernel_rfl⟩
theorem u40 : Tryd.prog.underlying 110 = some (.func #[3, 3] #[3, 4] false) := by kernel_rfl

theorem reckon_of {fits : Bool} {v w : Int} {x y : D} (hw : fits = true -> w = v) :
  (bif (!(isNum (ifNum 0 [x, y]))) then some (dat 38 (ifNum 0 [x, y]))
   else bif (!fits) then some (dat 38 (.agg [.lit (.int .i64 2), .lit (.int .i64 0)])) else some (dat 38 (.agg [.lit (.int .i64 0), .lit (.int .i64 w)]))) = some (dat 38 (reck fits v x y)) := by
 unfold ifNum reck
 cases [x, y].any isErr <;> cases [x, y].any isNul <;> cases fits <;> try rfl
 rw [hw rfl]
 rfl

theorem c86 : ∀ args d, e86.2.2.2 args = some d -> CallOK Tryd.prog 86 args (mkRes Tryd.prog 38 d) :=
 ent3 k86 fun x y z d h ⟨_, hx⟩ _ _ => by
  rw [n40, n23, n23]
  split at h
  ·rename_i hf
   cases h
   rw [ty25 u40 hx hf]
   refine fn_ok hm env5 k86 ((t86_87 1 y z).trans ?_)
   rw [m23]
   exact reckon_of wrap_in
  ·rename_i hf
   cases h
   rw [ty25 u40 hx hf]
   refine fn_ok hm env5 k86 ((t86_88 1 y z).trans ?_)
   rw [m23]
   exact reckon_of wrap_in
  ·rename_i hf
   cases h
   rw [ty25 u40 hx hf]
   refine fn_ok hm env5 k86 ((t86_89 1 y z).trans ?_)
   rw [m23]
   exact reckon_of wrap_in
  ·rename_i hf
   cases h
   rw [ty25 u40 hx hf]
   refine fn_ok hm env5 k86 ((t86_90 1 y z).trans ?_)
   rw [m23]
   exact reckon_of fun _ => rfl
  ·cases h

theorem k75 : FnOK Tryd.prog 75 Tryd.f75 := ⟨Tryd.func75, rfl, by kernel_rfl⟩
theorem c75 : ∀ args d, e75.2.2.2 args = some d -> CallOK Tryd.prog 75 args (mkRes Tryd.prog 38 d) :=
 ent2 k75 fun x y d h _ _ => by
  cases h
  rw [n23, n23]
  refine fn_ok hm env5 k75 ((t75 1 x y).trans ?_)
  rw [m23]
  rfl
theorem k76 : FnOK Tryd.prog 76 Tryd.f76 := ⟨Tryd.func76, rfl, by kernel_rfl⟩
theorem c76 : ∀ args d, e76.2.2.2 args = some d -> CallOK Tryd.prog 76 args (mkRes Tryd.prog 38 d) :=
 ent2 k76 fun x y d h _ _ => by
  cases h
  rw [n23, n23]
  refine fn_ok hm env5 k76 ((t76 1 x y).trans ?_)
  rw [m23]
  rfl
theorem k77 : FnOK Tryd.prog 77 Tryd.f77 := ⟨Tryd.func77, rfl, by kernel_rfl⟩
theorem c77 : ∀ args d, e77.2.2.2 args = some d -> CallOK Tryd.prog 77 args (mkRes Tryd.prog 38 d) :=
 ent1 k77 fun x d h _ => by
  cases h
  rw [n28]
  refine fn_ok hm env5 k77 ((t77 1 x).trans ?_)
  rw [m23]
  unfold andD
  cases (elemsD x).any isFal <;> rfl
theorem k78 : FnOK Tryd.prog 78 Tryd.f78 := ⟨Tryd.func78, rfl, by kernel_rfl⟩
theorem c78 : ∀ args d, e78.2.2.2 args = some d -> CallOK Tryd.prog 78 args (mkRes Tryd.prog 38 d) :=
 ent1 k78 fun x d h _ => by
  cases h
  rw [n28]
  refine fn_ok hm env5 k78 ((t78 1 x).trans ?_)
  rw [m23]
  unfold orD
  cases (elemsD x).any isTru <;> rfl
theorem k79 : FnOK Tryd.prog 79 Tryd.f79 := ⟨Tryd.func79, rfl, by kernel_rfl⟩
theorem c79 : ∀ args d, e79.2.2.2 args = some d -> CallOK Tryd.prog 79 args (mkRes Tryd.prog 38 d) :=
 ent1 k79 fun x d h _ => by
  cases h
  rw [n23]
  refine fn_ok hm env5 k79 ((t79 1 x).trans ?_)
  rw [m23]
  rfl

theorem env6 : EnvOK Tryd.prog (envOf T6) := (envOK_cons (envOK_cons (envOK_cons (envOK_cons (envOK_cons (envOK_cons env5 c79) c78) c77) c76) c75) c86)

theorem k71 : FnOK Tryd.prog 71 Tryd.f71 := ⟨Tryd.func71, rfl, by kernel_rfl⟩
theorem c71 : ∀ args d, e71.2.2.2 args = some d -> CallOK Tryd.prog 71 args (mkRes Tryd.prog 38 d) :=
 ent2 k71 fun x y d h _ _ => by
  cases h
  rw [n23, n23]
  refine fn_ok hm env6 k71 ((t71 1 x y).trans ?_)
  rw [m23]
theorem k72 : FnOK Tryd.prog 72 Tryd.f72 := ⟨Tryd.func72, rfl, by kernel_rfl⟩
theorem c72 : ∀ args d, e72.2.2.2 args = some d -> CallOK Tryd.prog 72 args (mkRes Tryd.prog 38 d) :=
 ent2 k72 fun x y d h _ _ => by
  cases h
  rw [n23, n23]
  refine fn_ok hm env6 k72 ((t72 1 x y).trans ?_)
  rw [m23]
theorem k73 : FnOK Tryd.prog 73 Tryd.f73 := ⟨Tryd.func73, rfl, by kernel_rfl⟩
theorem c73 : ∀ args d, e73.2.2.2 args = some d -> CallOK Tryd.prog 73 args (mkRes Tryd.prog 38 d) :=
 ent2 k73 fun x y d h _ _ => by
  cases h
  rw [n23, n23]
  refine fn_ok hm env6 k73 ((t73 1 x y).trans ?_)
  rw [m23]
theorem k74 : FnOK Tryd.prog 74 Tryd.f74 := ⟨Tryd.func74, rfl, by kernel_rfl⟩
theorem c74 : ∀ args d, e74.2.2.2 args = some d -> CallOK Tryd.prog 74 args (mkRes Tryd.prog 38 d) :=
 ent2 k74 fun x y d h _ _ => by
  cases h
  rw [n23, n23]
  refine fn_ok hm env6 k74 ((t74 1 x y).trans ?_)
  rw [m23]

theorem env7 : EnvOK Tryd.prog (envOf T7) := (envOK_cons (envOK_cons (envOK_cons (envOK_cons env6 c74) c73) c72) c71)

theorem env8 : EnvOK Tryd.prog (envOf T8) := env7
end Go.Proofs.YtanjicjomcocmaaDoor
