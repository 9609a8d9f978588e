/- Layer 2: what the laws lean on. Nothing here is trusted. -/
import Derived.Test.YtochjfimogijjaaWTA
namespace Go.Proofs.Ytochjfimogijjaa
open Go.Ev
set_option linter.unusedVariables false
set_option linter.unusedSimpArgs false

theorem m26 (x : D) : mkRes Try.prog 26 x = dat 26 x := by kernel_rfl
theorem k25 : FnOK Try.prog 25 Try.f25 := ⟨Try.func25, rfl, by kernel_rfl⟩
theorem c25 : ∀ args d, e25.2.2.2 args = some d → CallOK Try.prog 25 args (mkRes Try.prog 26 d) :=
  ent0 fun d h => by
    cases h
    refine fn_ok hm envU6 k25 ((t25 1).trans ?_)
    rw [m26]
    rfl
theorem envU8 : EnvOK Try.prog (envH U8 []) := envOK_cons envU6 c25

theorem small_cols : colsE smallD = [.lit (.int .i64 3)] := by
  have h1 : mayE smallD = true := rfl
  have h2 : colsK 7 smallD = [litI 3] := rfl
  unfold colsE
  rw [h1, h2, cond_true]
  have h3 : sortD [litI 3] = [litI 3] := by
    unfold sortD sortI
    simp [litI, intD]
  rw [h3]
  rfl
def e8 : FuncId × TypeId × (List AV → Bool) × (List AV → Option D) := (8, 4, yes, ent [] (f0 (some (.lit (.bool true)))))
theorem k8 : FnOK Try.prog 8 Try.f8 := ⟨Try.func8, rfl, by kernel_rfl⟩
theorem c8 : ∀ args d, e8.2.2.2 args = some d → CallOK Try.prog 8 args (mkRes Try.prog 4 d) :=
  ent0 fun d h => by
    cases h
    refine fn_ok hm envU8 k8 ((t8 1).trans ?_)
    rw [m4, small_cols]
    rfl
def e9 : FuncId × TypeId × (List AV → Bool) × (List AV → Option D) := (9, 4, fun xs => decide (0 ≤ intD (xs.getD 1 dead).d) && decide (intD (xs.getD 1 dead).d ≤ 1000), ent [26, 3] (f2 fun x y => some (.lit (.bool (fewB x (intD y))))))
theorem k9 : FnOK Try.prog 9 Try.f9 := ⟨Try.func9, rfl, by kernel_rfl⟩
theorem c9 : ∀ args d, e9.2.2.1 args = true → e9.2.2.2 args = some d → CallOK Try.prog 9 args (mkRes Try.prog 4 d) :=
  entp2 k9 (q := fun x y => decide (0 ≤ intD y) && decide (intD y ≤ 1000)) (fun _ => rfl) fun x y d hq h _ ⟨_, hy⟩ => by
    cases h
    rw [n26, n3]
    simp only [Bool.and_eq_true, decide_eq_true_eq] at hq
    obtain ⟨z, rfl, _⟩ := ty3' hy
    have hq : 0 ≤ z ∧ z ≤ 1000 := hq
    refine fn_ok hm (envU7 1001) k9 ((t9 1 x z).trans ?_)
    rw [m4]
    have h1 : (decide (0 ≤ z) && decide (z < (1001 : Int)) && decide (1001 ≤ 1001)) = true := by
      simp only [Bool.and_eq_true, decide_eq_true_eq]
      omega
    rw [h1]
    rfl
def U9 : Tab := e8 :: e9 :: e23 7 :: U6
theorem envU9 : EnvOK Try.prog (envH U9 []) := envOK_cons (envOK_cons' (envOK_cons' envU6 (c23 6 (envU7 6))) c9) c8

end Go.Proofs.Ytochjfimogijjaa
