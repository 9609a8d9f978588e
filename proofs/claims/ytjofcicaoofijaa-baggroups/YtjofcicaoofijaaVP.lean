/- Layer 1, function by function: what each answers, whatever the world and the order. Nothing here is trusted. -/
import Derived.Test.YtjofcicaoofijaaVT
namespace Go.Proofs.Ytjofcicaoofijaa
open Go.Ev
set_option linter.unusedVariables false
set_option linter.unusedSimpArgs false

theorem hm : Try.prog.follows .mixedOrders = true := by kernel_rfl
theorem n23 (x : D) : normD Try.prog 34 x = x := by kernel_rfl
theorem n28 (x : D) : normD Try.prog 32 x = x := by kernel_rfl
theorem n25 (x : D) : normD Try.prog 62 x = x := by kernel_rfl
theorem n3 (x : D) : normD Try.prog 3 x = .lit (.int .i64 (intD x)) := by kernel_rfl
theorem n4 (x : D) : normD Try.prog 4 x = .lit (.bool (boolD x)) := by kernel_rfl
theorem m23 (x : D) : mkRes Try.prog 34 x = dat 34 x := by kernel_rfl
theorem m28 (x : D) : mkRes Try.prog 32 x = dat 32 x := by kernel_rfl
theorem m3 (x : D) : mkRes Try.prog 3 x = dat 3 (.lit (.int .i64 (intD x))) := by kernel_rfl
theorem m4 (x : D) : mkRes Try.prog 4 x = dat 4 (.lit (.bool (boolD x))) := by kernel_rfl
theorem m49 (x : D) : mkRes Try.prog 68 x = tupA [3, 4] x := by kernel_rfl
theorem u23 : ∃ f g : Field, Try.prog.underlying 34 = some (.struct #[f, g]) ∧ f.type = 3 ∧ g.type = 3 := ⟨_, _, Try.underlying34, rfl, rfl⟩
theorem u3 : Try.prog.underlying 3 = some (.int .i64) := by kernel_rfl
theorem u28 : Try.prog.underlying 32 = some (.slice 34) := by kernel_rfl
theorem u25 : Try.prog.underlying 62 = some (.func #[34] #[4] false) := by kernel_rfl

theorem ty3 {n : Nat} {x : D} (h : Ty Try.prog n 3 x) : inR (intD x) = true := by
  cases n with
  | zero => exact h.elim
  | succ n =>
    unfold Ty at h
    rw [u3] at h
    split at h <;> try (exact h.elim)
    all_goals try (simp_all; done)
    rename_i k k' z heq
    cases heq
    obtain ⟨rfl, hw⟩ := h
    exact wf_inR hw

theorem ty3' {n : Nat} {x : D} (h : Ty Try.prog n 3 x) : ∃ z, x = .lit (.int .i64 z) ∧ inR z = true := by
  cases n with
  | zero => exact h.elim
  | succ n =>
    unfold Ty at h
    rw [u3] at h
    split at h <;> try (exact h.elim)
    all_goals try (simp_all; done)
    rename_i k k' z heq
    cases heq
    obtain ⟨rfl, hw⟩ := h
    exact ⟨z, rfl, wf_inR hw⟩

theorem ty23 {n : Nat} {x : D} (h : Ty Try.prog n 34 x) : ∃ k m, x = vv k m ∧ inR k = true ∧ inR m = true := by
  obtain ⟨f, g, hu, hf, hg⟩ := u23
  cases n with
  | zero => exact h.elim
  | succ n =>
    unfold Ty at h
    rw [hu] at h
    split at h <;> try (exact h.elim)
    all_goals try (simp_all; done)
    rename_i fs ps heq
    cases heq
    obtain ⟨hl, hp⟩ := h
    match ps, hl with
    | [a, b], _ =>
      have h0 := hp 0 f rfl
      have h1 := hp 1 g rfl
      rw [hf] at h0
      rw [hg] at h1
      obtain ⟨k, ek, hk⟩ := ty3' h0
      obtain ⟨m, em, hm⟩ := ty3' h1
      simp at ek em
      subst ek em
      exact ⟨k, m, rfl, hk, hm⟩

theorem ty28 {n : Nat} {x : D} (h : Ty Try.prog n 32 x) : ∃ es, x = .slice es [] ∧ es.length ≤ maxLen ∧ ∀ y ∈ es, ∃ k m, y = vv k m ∧ inR k = true ∧ inR m = true := by
  cases n with
  | zero => exact h.elim
  | succ n =>
    unfold Ty at h
    rw [u28] at h
    split at h <;> try (exact h.elim)
    all_goals try (simp_all; done)
    rename_i e es sp heq
    cases heq
    obtain ⟨rfl, hl, hp⟩ := h
    exact ⟨es, rfl, hl, fun y hy => ty23 (hp y hy)⟩

theorem kk_vv (k m : Int) : kk (vv k m) = k := rfl
theorem nn_vv (k m : Int) : nn (vv k m) = m := rfl

theorem env0 : EnvOK Try.prog (envOf T0) := envOK_nil

/-! ### Leaves -/
theorem k33 : FnOK Try.prog 33 Try.f33 := ⟨Try.func33, rfl, by kernel_rfl⟩
theorem c33 : ∀ args d, ent [34] (f1 fun x => some (.lit (.bool (mayB x)))) args = some d → CallOK Try.prog 33 args (mkRes Try.prog 4 d) :=
  ent1 k33 fun x d h _ => by
    cases h
    rw [n23]
    refine fn_ok hm env0 k33 ((t33 1 x).trans ?_)
    rw [m4]
    simp only [boolD, mayB, kk, nn]
    cases (intD (fieldD x 0) == 0) <;> cases (intD (fieldD x 0) == 1) <;> cases (intD (fieldD x 0) == 2) <;> rfl
theorem k30 : FnOK Try.prog 30 Try.f30 := ⟨Try.func30, rfl, by kernel_rfl⟩
theorem c30 : ∀ args d, ent [3] (f1 fun x => some (.agg [.lit (.int .i64 0), .lit (.int .i64 (intD x))])) args = some d → CallOK Try.prog 30 args (mkRes Try.prog 34 d) :=
  ent1 k30 fun x d h _ => by
    cases h
    rw [n3]
    refine fn_ok hm env0 k30 ((t30 1 (intD x)).trans ?_)
    rw [m23]
theorem k39 : FnOK Try.prog 39 Try.f39 := ⟨Try.func39, rfl, by kernel_rfl⟩
theorem c39 : ∀ args d, ent [] (f0 (some (.agg [.lit (.int .i64 2), .lit (.int .i64 0)]))) args = some d → CallOK Try.prog 39 args (mkRes Try.prog 34 d) :=
  ent0 fun d h => by
    cases h
    refine fn_ok hm env0 k39 ((t39 1).trans ?_)
    rw [m23]
theorem k41 : FnOK Try.prog 41 Try.f41 := ⟨Try.func41, rfl, by kernel_rfl⟩
theorem c41 : ∀ args d, ent [3, 3] (f2 fun x y => some (.agg [.lit (.int .i64 (IntKind.wrap .i64 ((intD x) + (intD y)))), .lit (.bool (addOK (intD x) (intD y)))])) args = some d → CallOK Try.prog 41 args (mkRes Try.prog 68 d) :=
  ent2 k41 fun x y d h ⟨_, hx⟩ ⟨_, hy⟩ => by
    cases h
    rw [n3, n3]
    refine fn_ok hm env0 k41 ((t41 1 (intD x) (intD y)).trans ?_)
    rw [m49, plus_fits (ty3 hx) (ty3 hy)]
    rfl
theorem k40 : FnOK Try.prog 40 Try.f40 := ⟨Try.func40, rfl, by kernel_rfl⟩
theorem c40 : ∀ args d, ent [34] (f1 fun x => some (.lit (.bool (isNum x)))) args = some d → CallOK Try.prog 40 args (mkRes Try.prog 4 d) :=
  ent1 k40 fun x d h _ => by
    cases h
    rw [n23]
    refine fn_ok hm env0 k40 ((t40 1 x).trans ?_)
    rw [m4]
    rfl

theorem env1 : EnvOK Try.prog (envOf T1) := (envOK_cons (envOK_cons (envOK_cons (envOK_cons (envOK_cons env0 c40) c41) c39) c30) c33)

end Go.Proofs.Ytjofcicaoofijaa
