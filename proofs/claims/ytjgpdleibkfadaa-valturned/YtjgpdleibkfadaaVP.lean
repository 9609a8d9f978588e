/- Layer 1, function by function: what each answers, whatever the world and the order. Nothing here is trusted. -/
import Derived.Test.YtjgpdleibkfadaaVT
namespace Go.Proofs.Ytjgpdleibkfadaa
open Go.Ev
set_option linter.unusedVariables false
set_option linter.unusedSimpArgs false

theorem hm : Try.prog.follows .mixedOrders = true := by kernel_rfl
theorem n23 (x : D) : normD Try.prog 23 x = x := by kernel_rfl
theorem n28 (x : D) : normD Try.prog 28 x = x := by kernel_rfl
theorem n25 (x : D) : normD Try.prog 25 x = x := by kernel_rfl
theorem n40 (x : D) : normD Try.prog 40 x = x := by kernel_rfl
theorem n3 (x : D) : normD Try.prog 3 x = .lit (.int .i64 (intD x)) := by kernel_rfl
theorem n4 (x : D) : normD Try.prog 4 x = .lit (.bool (boolD x)) := by kernel_rfl
theorem m23 (x : D) : mkRes Try.prog 23 x = dat 23 x := by kernel_rfl
theorem m28 (x : D) : mkRes Try.prog 28 x = dat 28 x := by kernel_rfl
theorem m3 (x : D) : mkRes Try.prog 3 x = dat 3 (.lit (.int .i64 (intD x))) := by kernel_rfl
theorem m4 (x : D) : mkRes Try.prog 4 x = dat 4 (.lit (.bool (boolD x))) := by kernel_rfl
theorem m41 (x : D) : mkRes Try.prog 41 x = tupA [23, 4] x := by kernel_rfl
theorem m49 (x : D) : mkRes Try.prog 49 x = tupA [3, 4] x := by kernel_rfl
theorem u23 : ∃ f g : Field, Try.prog.underlying 23 = some (.struct #[f, g]) ∧ f.type = 3 ∧ g.type = 3 := ⟨_, _, Try.underlying23, rfl, rfl⟩
theorem u3 : Try.prog.underlying 3 = some (.int .i64) := by kernel_rfl
theorem u28 : Try.prog.underlying 28 = some (.slice 23) := by kernel_rfl
theorem u25 : Try.prog.underlying 25 = some (.func #[23] #[4] false) := by kernel_rfl

theorem ty3 {n : Nat} {x : D} (h : Ty Try.prog n 3 x) : inR (intD x) = true := by
  cases n with
  | zero => exact h.elim
  | succ n =>
    unfold Ty at h
    rw [u3] at h
    split at h <;> try (exact h.elim)
    all_goals try (simp_all; done)
    rename_i k k' z heq
    cases heq
    obtain ⟨rfl, hw⟩ := h
    exact wf_inR hw

theorem ty3' {n : Nat} {x : D} (h : Ty Try.prog n 3 x) : ∃ z, x = .lit (.int .i64 z) ∧ inR z = true := by
  cases n with
  | zero => exact h.elim
  | succ n =>
    unfold Ty at h
    rw [u3] at h
    split at h <;> try (exact h.elim)
    all_goals try (simp_all; done)
    rename_i k k' z heq
    cases heq
    obtain ⟨rfl, hw⟩ := h
    exact ⟨z, rfl, wf_inR hw⟩

theorem ty23 {n : Nat} {x : D} (h : Ty Try.prog n 23 x) : ∃ k m, x = vv k m ∧ inR k = true ∧ inR m = true := by
  obtain ⟨f, g, hu, hf, hg⟩ := u23
  cases n with
  | zero => exact h.elim
  | succ n =>
    unfold Ty at h
    rw [hu] at h
    split at h <;> try (exact h.elim)
    all_goals try (simp_all; done)
    rename_i fs ps heq
    cases heq
    obtain ⟨hl, hp⟩ := h
    match ps, hl with
    | [a, b], _ =>
      have h0 := hp 0 f rfl
      have h1 := hp 1 g rfl
      rw [hf] at h0
      rw [hg] at h1
      obtain ⟨k, ek, hk⟩ := ty3' h0
      obtain ⟨m, em, hm⟩ := ty3' h1
      simp at ek em
      subst ek em
      exact ⟨k, m, rfl, hk, hm⟩

theorem ty28 {n : Nat} {x : D} (h : Ty Try.prog n 28 x) : ∃ es, x = .slice es [] ∧ es.length ≤ maxLen ∧ ∀ y ∈ es, ∃ k m, y = vv k m ∧ inR k = true ∧ inR m = true := by
  cases n with
  | zero => exact h.elim
  | succ n =>
    unfold Ty at h
    rw [u28] at h
    split at h <;> try (exact h.elim)
    all_goals try (simp_all; done)
    rename_i e es sp heq
    cases heq
    obtain ⟨rfl, hl, hp⟩ := h
    exact ⟨es, rfl, hl, fun y hy => ty23 (hp y hy)⟩

theorem kk_vv (k m : Int) : kk (vv k m) = k := rfl
theorem nn_vv (k m : Int) : nn (vv k m) = m := rfl

theorem env0 : EnvOK Try.prog (envOf T0) := envOK_nil

/-! ### Leaves -/
theorem k12 : FnOK Try.prog 12 Try.f12 := ⟨Try.func12, rfl, by kernel_rfl⟩
theorem c12 : ∀ args d, ent [23] (f1 fun x => some (.lit (.bool (mayB x)))) args = some d → CallOK Try.prog 12 args (mkRes Try.prog 4 d) :=
  ent1 k12 fun x d h _ => by
    cases h
    rw [n23]
    refine fn_ok hm env0 k12 ((t12 1 x).trans ?_)
    rw [m4]
    simp only [boolD, mayB, kk, nn]
    cases (intD (fieldD x 0) == 0) <;> cases (intD (fieldD x 0) == 1) <;> cases (intD (fieldD x 0) == 2) <;> rfl
theorem k13 : FnOK Try.prog 13 Try.f13 := ⟨Try.func13, rfl, by kernel_rfl⟩
theorem c13 : ∀ args d, ent [23] (f1 fun x => some (.lit (.bool (mayB x)))) args = some d → CallOK Try.prog 13 args (mkRes Try.prog 4 d) :=
  ent1 k13 fun x d h _ => by
    cases h
    rw [n23]
    refine fn_ok hm env0 k13 ((t13 1 x).trans ?_)
    rw [m4]
    simp only [boolD, mayB, kk, nn]
    cases (intD (fieldD x 0) == 0) <;> cases (intD (fieldD x 0) == 1) <;> cases (intD (fieldD x 0) == 2) <;> rfl
theorem k38 : FnOK Try.prog 38 Try.f38 := ⟨Try.func38, rfl, by kernel_rfl⟩
theorem c38 : ∀ args d, ent [3] (f1 fun x => some (.agg [.lit (.int .i64 0), .lit (.int .i64 (intD x))])) args = some d → CallOK Try.prog 38 args (mkRes Try.prog 23 d) :=
  ent1 k38 fun x d h _ => by
    cases h
    rw [n3]
    refine fn_ok hm env0 k38 ((t38 1 (intD x)).trans ?_)
    rw [m23]
theorem k54 : FnOK Try.prog 54 Try.f54 := ⟨Try.func54, rfl, by kernel_rfl⟩
theorem c54 : ∀ args d, ent [] (f0 (some (.agg [.lit (.int .i64 2), .lit (.int .i64 0)]))) args = some d → CallOK Try.prog 54 args (mkRes Try.prog 23 d) :=
  ent0 fun d h => by
    cases h
    refine fn_ok hm env0 k54 ((t54 1).trans ?_)
    rw [m23]
theorem k49 : FnOK Try.prog 49 Try.f49 := ⟨Try.func49, rfl, by kernel_rfl⟩
theorem c49 : ∀ args d, ent [4] (f1 fun x => some (.lit (.int .i64 (truthI (boolD x))))) args = some d → CallOK Try.prog 49 args (mkRes Try.prog 3 d) :=
  ent1 k49 fun x d h _ => by
    cases h
    rw [n4]
    refine fn_ok hm env0 k49 ((t49 1 (boolD x)).trans ?_)
    rw [m3]
    simp only [intD, truthI]
    cases boolD x <;> rfl
theorem k50 : FnOK Try.prog 50 Try.f50 := ⟨Try.func50, rfl, by kernel_rfl⟩
theorem c50 : ∀ args d, ent [4] (f1 fun x => some (.agg [.lit (.int .i64 0), .lit (.int .i64 (truthI (boolD x)))])) args = some d → CallOK Try.prog 50 args (mkRes Try.prog 23 d) :=
  ent1 k50 fun x d h _ => by
    cases h
    rw [n4]
    refine fn_ok hm env0 k50 ((t50 1 (boolD x)).trans ?_)
    rw [m23]
    simp only [truthI]
    cases boolD x <;> rfl
theorem k36 : FnOK Try.prog 36 Try.f36 := ⟨Try.func36, rfl, by kernel_rfl⟩
theorem c36 : ∀ args d, ent [23] (f1 fun x => some (.lit (.bool (isTru x)))) args = some d → CallOK Try.prog 36 args (mkRes Try.prog 4 d) :=
  ent1 k36 fun x d h _ => by
    cases h
    rw [n23]
    refine fn_ok hm env0 k36 ((t36 1 x).trans ?_)
    rw [m4]
    simp only [boolD, isTru, kk, nn]
    cases (intD (fieldD x 0) == 0) <;> rfl
theorem k37 : FnOK Try.prog 37 Try.f37 := ⟨Try.func37, rfl, by kernel_rfl⟩
theorem c37 : ∀ args d, ent [23] (f1 fun x => some (.lit (.bool (isTru x)))) args = some d → CallOK Try.prog 37 args (mkRes Try.prog 4 d) :=
  ent1 k37 fun x d h _ => by
    cases h
    rw [n23]
    refine fn_ok hm env0 k37 ((t37 1 x).trans ?_)
    rw [m4]
    simp only [boolD, isTru, kk, nn]
    cases (intD (fieldD x 0) == 0) <;> rfl
theorem k42 : FnOK Try.prog 42 Try.f42 := ⟨Try.func42, rfl, by kernel_rfl⟩
theorem c42 : ∀ args d, ent [3, 3] (f2 fun x y => some (.agg [.lit (.int .i64 (IntKind.wrap .i64 ((intD x) + (intD y)))), .lit (.bool (addOK (intD x) (intD y)))])) args = some d → CallOK Try.prog 42 args (mkRes Try.prog 49 d) :=
  ent2 k42 fun x y d h ⟨_, hx⟩ ⟨_, hy⟩ => by
    cases h
    rw [n3, n3]
    refine fn_ok hm env0 k42 ((t42 1 (intD x) (intD y)).trans ?_)
    rw [m49, plus_fits (ty3 hx) (ty3 hy)]
    rfl
theorem k45 : FnOK Try.prog 45 Try.f45 := ⟨Try.func45, rfl, by kernel_rfl⟩
theorem c45 : ∀ args d, ent [3, 3] (f2 fun x y => some (.agg [.lit (.int .i64 (IntKind.wrap .i64 ((intD x) - (intD y)))), .lit (.bool (subOK (intD x) (intD y)))])) args = some d → CallOK Try.prog 45 args (mkRes Try.prog 49 d) :=
  ent2 k45 fun x y d h ⟨_, hx⟩ ⟨_, hy⟩ => by
    cases h
    rw [n3, n3]
    refine fn_ok hm env0 k45 ((t45 1 (intD x) (intD y)).trans ?_)
    rw [m49, minus_fits (ty3 hx) (ty3 hy)]
    rfl
theorem k46 : FnOK Try.prog 46 Try.f46 := ⟨Try.func46, rfl, by kernel_rfl⟩
theorem c46 : ∀ args d, ent [3, 3] (f2 fun x y => some (.agg [.lit (.int .i64 (IntKind.wrap .i64 ((intD x) * (intD y)))), .lit (.bool (mulOK (intD x) (intD y)))])) args = some d → CallOK Try.prog 46 args (mkRes Try.prog 49 d) :=
  ent2 k46 fun x y d h ⟨_, hx⟩ ⟨_, hy⟩ => by
    cases h
    rw [n3, n3]
    refine fn_ok hm env0 k46 ((t46 1 (intD x) (intD y)).trans ?_)
    have hx' := ty3 hx
    have hy' := ty3 hy
    generalize intD x = a at *
    generalize intD y = b at *
    rw [m49]
    by_cases h0 : a = 0
    · subst h0
      simp [mulOK, inR]
    · have h0' : (a == 0) = false := by simpa using h0
      by_cases h1 : a = -1
      · subst h1
        have : (b != (-9223372036854775808)) = mulOK (-1) b := by
          rw [inR_iff] at hy'
          unfold mulOK
          cases hm' : inR (-1 * b)
          · rw [inR_not] at hm'
            have : b = -9223372036854775808 := by omega
            simp [this]
          · rw [inR_iff] at hm'
            have : b ≠ -9223372036854775808 := by omega
            simpa using this
        rw [this]
        rfl
      · have h1' : (a == (-1)) = false := by simpa using h1
        rw [h0', h1', quot_fits hx' hy' h0 h1]
        rfl
theorem k47 : FnOK Try.prog 47 Try.f47 := ⟨Try.func47, rfl, by kernel_rfl⟩
theorem c47 : ∀ args d, ent [3, 3] (f2 fun x y => some (.agg [.lit (.int .i64 (divV (intD x) (intD y))), .lit (.bool (divOK (intD x) (intD y)))])) args = some d → CallOK Try.prog 47 args (mkRes Try.prog 49 d) :=
  ent2 k47 fun x y d h ⟨_, hx⟩ ⟨_, hy⟩ => by
    cases h
    rw [n3, n3]
    refine fn_ok hm env0 k47 ((t47 1 (intD x) (intD y)).trans ?_)
    have hx' := ty3 hx
    have hy' := ty3 hy
    generalize intD x = a at *
    generalize intD y = b at *
    rw [m49]
    unfold divV divOK
    by_cases h0 : b = 0
    · subst h0; rfl
    · have h0' : (b == 0) = false := by simpa using h0
      have ht := tdiv_fits hx' h0
      rw [h0', ht]
      cases ha : (a == -9223372036854775808) <;> cases hb : (b == -1) <;> simp [ha, hb] at ht ⊢
      all_goals rw [wrap_in ht]
theorem k44 : FnOK Try.prog 44 Try.f44 := ⟨Try.func44, rfl, by kernel_rfl⟩
theorem c44 : ∀ args d, ent [23, 23] (f2 fun x y => some (.slice [x, y] [])) args = some d → CallOK Try.prog 44 args (mkRes Try.prog 28 d) :=
  ent2 k44 fun x y d h _ _ => by
    cases h
    rw [n23, n23]
    refine fn_ok hm env0 k44 ((t44 1 x y).trans ?_)
    rw [m28]
theorem k55 : FnOK Try.prog 55 Try.f55 := ⟨Try.func55, rfl, by kernel_rfl⟩
theorem c55 : ∀ args d, ent [23] (f1 fun x => some (.lit (.bool (isNum x)))) args = some d → CallOK Try.prog 55 args (mkRes Try.prog 4 d) :=
  ent1 k55 fun x d h _ => by
    cases h
    rw [n23]
    refine fn_ok hm env0 k55 ((t55 1 x).trans ?_)
    rw [m4]
    rfl

theorem env1 : EnvOK Try.prog (envOf T1) :=
  envOK_cons (envOK_cons (envOK_cons (envOK_cons (envOK_cons (envOK_cons (envOK_cons (envOK_cons (envOK_cons (envOK_cons (envOK_cons (envOK_cons (envOK_cons (envOK_cons env0 c55) c44) c47) c46) c45) c42) c37) c36) c50) c49) c54) c38) c13) c12

end Go.Proofs.Ytjgpdleibkfadaa
