/- Layer 1, function by function: what each answers, whatever the world and the order. Nothing here is trusted. -/
import Derived.Test.YtochjfimogijjaaVT
namespace Go.Proofs.Ytochjfimogijjaa
open Go.Ev
set_option linter.unusedVariables false
set_option linter.unusedSimpArgs false

theorem hm : Try.prog.follows .mixedOrders = true := by kernel_rfl
theorem n23 (x : D) : normD Try.prog 23 x = x := by kernel_rfl
theorem n28 (x : D) : normD Try.prog 28 x = x := by kernel_rfl
theorem n25 (x : D) : normD Try.prog 42 x = x := by kernel_rfl
theorem n40 (x : D) : normD Try.prog 80 x = x := by kernel_rfl
theorem n3 (x : D) : normD Try.prog 3 x = .lit (.int .i64 (intD x)) := by kernel_rfl
theorem n4 (x : D) : normD Try.prog 4 x = .lit (.bool (boolD x)) := by kernel_rfl
theorem m23 (x : D) : mkRes Try.prog 23 x = dat 23 x := by kernel_rfl
theorem m28 (x : D) : mkRes Try.prog 28 x = dat 28 x := by kernel_rfl
theorem m3 (x : D) : mkRes Try.prog 3 x = dat 3 (.lit (.int .i64 (intD x))) := by kernel_rfl
theorem m4 (x : D) : mkRes Try.prog 4 x = dat 4 (.lit (.bool (boolD x))) := by kernel_rfl
theorem m41 (x : D) : mkRes Try.prog 84 x = tupA [23, 4] x := by kernel_rfl
theorem m49 (x : D) : mkRes Try.prog 73 x = tupA [3, 4] x := by kernel_rfl
theorem u23 : ∃ f g : Field, Try.prog.underlying 23 = some (.struct #[f, g]) ∧ f.type = 3 ∧ g.type = 3 := ⟨_, _, Try.underlying23, rfl, rfl⟩
theorem u3 : Try.prog.underlying 3 = some (.int .i64) := by kernel_rfl
theorem u28 : Try.prog.underlying 28 = some (.slice 23) := by kernel_rfl
theorem u25 : Try.prog.underlying 42 = some (.func #[23] #[4] false) := by kernel_rfl

theorem ty3 {n : Nat} {x : D} (h : Ty Try.prog n 3 x) : inR (intD x) = true := by
  cases n with
  | zero => exact h.elim
  | succ n =>
    unfold Ty at h
    rw [u3] at h
    split at h <;> try (exact h.elim)
    all_goals try (simp_all; done)
    rename_i k k' z heq
    cases heq
    obtain ⟨rfl, hw⟩ := h
    exact wf_inR hw

theorem ty3' {n : Nat} {x : D} (h : Ty Try.prog n 3 x) : ∃ z, x = .lit (.int .i64 z) ∧ inR z = true := by
  cases n with
  | zero => exact h.elim
  | succ n =>
    unfold Ty at h
    rw [u3] at h
    split at h <;> try (exact h.elim)
    all_goals try (simp_all; done)
    rename_i k k' z heq
    cases heq
    obtain ⟨rfl, hw⟩ := h
    exact ⟨z, rfl, wf_inR hw⟩

theorem ty23 {n : Nat} {x : D} (h : Ty Try.prog n 23 x) : ∃ k m, x = vv k m ∧ inR k = true ∧ inR m = true := by
  obtain ⟨f, g, hu, hf, hg⟩ := u23
  cases n with
  | zero => exact h.elim
  | succ n =>
    unfold Ty at h
    rw [hu] at h
    split at h <;> try (exact h.elim)
    all_goals try (simp_all; done)
    rename_i fs ps heq
    cases heq
    obtain ⟨hl, hp⟩ := h
    match ps, hl with
    | [a, b], _ =>
      have h0 := hp 0 f rfl
      have h1 := hp 1 g rfl
      rw [hf] at h0
      rw [hg] at h1
      obtain ⟨k, ek, hk⟩ := ty3' h0
      obtain ⟨m, em, hm⟩ := ty3' h1
      simp at ek em
      subst ek em
      exact ⟨k, m, rfl, hk, hm⟩

theorem ty28 {n : Nat} {x : D} (h : Ty Try.prog n 28 x) : ∃ es, x = .slice es [] ∧ es.length ≤ maxLen ∧ ∀ y ∈ es, ∃ k m, y = vv k m ∧ inR k = true ∧ inR m = true := by
  cases n with
  | zero => exact h.elim
  | succ n =>
    unfold Ty at h
    rw [u28] at h
    split at h <;> try (exact h.elim)
    all_goals try (simp_all; done)
    rename_i e es sp heq
    cases heq
    obtain ⟨rfl, hl, hp⟩ := h
    exact ⟨es, rfl, hl, fun y hy => ty23 (hp y hy)⟩

theorem kk_vv (k m : Int) : kk (vv k m) = k := rfl
theorem nn_vv (k m : Int) : nn (vv k m) = m := rfl

theorem env0 : EnvOK Try.prog (envOf T0) := envOK_nil

/-! ### Leaves -/
theorem k24 : FnOK Try.prog 24 Try.f24 := ⟨Try.func24, rfl, by kernel_rfl⟩
theorem c24 : ∀ args d, ent [23] (f1 fun x => some (.lit (.bool (mayB x)))) args = some d → CallOK Try.prog 24 args (mkRes Try.prog 4 d) :=
  ent1 k24 fun x d h _ => by
    cases h
    rw [n23]
    refine fn_ok hm env0 k24 ((t24 1 x).trans ?_)
    rw [m4]
    simp only [boolD, mayB, kk, nn]
    cases (intD (fieldD x 0) == 0) <;> cases (intD (fieldD x 0) == 1) <;> cases (intD (fieldD x 0) == 2) <;> rfl
theorem k48 : FnOK Try.prog 48 Try.f48 := ⟨Try.func48, rfl, by kernel_rfl⟩
theorem c48 : ∀ args d, ent [23] (f1 fun x => some (.lit (.bool (mayB x)))) args = some d → CallOK Try.prog 48 args (mkRes Try.prog 4 d) :=
  ent1 k48 fun x d h _ => by
    cases h
    rw [n23]
    refine fn_ok hm env0 k48 ((t48 1 x).trans ?_)
    rw [m4]
    simp only [boolD, mayB, kk, nn]
    cases (intD (fieldD x 0) == 0) <;> cases (intD (fieldD x 0) == 1) <;> cases (intD (fieldD x 0) == 2) <;> rfl
theorem k45 : FnOK Try.prog 45 Try.f45 := ⟨Try.func45, rfl, by kernel_rfl⟩
theorem c45 : ∀ args d, ent [3] (f1 fun x => some (.agg [.lit (.int .i64 0), .lit (.int .i64 (intD x))])) args = some d → CallOK Try.prog 45 args (mkRes Try.prog 23 d) :=
  ent1 k45 fun x d h _ => by
    cases h
    rw [n3]
    refine fn_ok hm env0 k45 ((t45 1 (intD x)).trans ?_)
    rw [m23]
theorem k101 : FnOK Try.prog 101 Try.f101 := ⟨Try.func101, rfl, by kernel_rfl⟩
theorem c101 : ∀ args d, ent [] (f0 (some (.agg [.lit (.int .i64 2), .lit (.int .i64 0)]))) args = some d → CallOK Try.prog 101 args (mkRes Try.prog 23 d) :=
  ent0 fun d h => by
    cases h
    refine fn_ok hm env0 k101 ((t101 1).trans ?_)
    rw [m23]
theorem k87 : FnOK Try.prog 87 Try.f87 := ⟨Try.func87, rfl, by kernel_rfl⟩
theorem c87 : ∀ args d, ent [4] (f1 fun x => some (.lit (.int .i64 (truthI (boolD x))))) args = some d → CallOK Try.prog 87 args (mkRes Try.prog 3 d) :=
  ent1 k87 fun x d h _ => by
    cases h
    rw [n4]
    refine fn_ok hm env0 k87 ((t87 1 (boolD x)).trans ?_)
    rw [m3]
    simp only [intD, truthI]
    cases boolD x <;> rfl
theorem k92 : FnOK Try.prog 92 Try.f92 := ⟨Try.func92, rfl, by kernel_rfl⟩
theorem c92 : ∀ args d, ent [4] (f1 fun x => some (.agg [.lit (.int .i64 0), .lit (.int .i64 (truthI (boolD x)))])) args = some d → CallOK Try.prog 92 args (mkRes Try.prog 23 d) :=
  ent1 k92 fun x d h _ => by
    cases h
    rw [n4]
    refine fn_ok hm env0 k92 ((t92 1 (boolD x)).trans ?_)
    rw [m23]
    simp only [truthI]
    cases boolD x <;> rfl
theorem k42 : FnOK Try.prog 42 Try.f42 := ⟨Try.func42, rfl, by kernel_rfl⟩
theorem c42 : ∀ args d, ent [23] (f1 fun x => some (.lit (.bool (isTru x)))) args = some d → CallOK Try.prog 42 args (mkRes Try.prog 4 d) :=
  ent1 k42 fun x d h _ => by
    cases h
    rw [n23]
    refine fn_ok hm env0 k42 ((t42 1 x).trans ?_)
    rw [m4]
    simp only [boolD, isTru, kk, nn]
    cases (intD (fieldD x 0) == 0) <;> rfl
theorem k43 : FnOK Try.prog 43 Try.f43 := ⟨Try.func43, rfl, by kernel_rfl⟩
theorem c43 : ∀ args d, ent [23] (f1 fun x => some (.lit (.bool (isTru x)))) args = some d → CallOK Try.prog 43 args (mkRes Try.prog 4 d) :=
  ent1 k43 fun x d h _ => by
    cases h
    rw [n23]
    refine fn_ok hm env0 k43 ((t43 1 x).trans ?_)
    rw [m4]
    simp only [boolD, isTru, kk, nn]
    cases (intD (fieldD x 0) == 0) <;> rfl
theorem k82 : FnOK Try.prog 82 Try.f82 := ⟨Try.func82, rfl, by kernel_rfl⟩
theorem c82 : ∀ args d, ent [3, 3] (f2 fun x y => some (.agg [.lit (.int .i64 (IntKind.wrap .i64 ((intD x) + (intD y)))), .lit (.bool (addOK (intD x) (intD y)))])) args = some d → CallOK Try.prog 82 args (mkRes Try.prog 73 d) :=
  ent2 k82 fun x y d h ⟨_, hx⟩ ⟨_, hy⟩ => by
    cases h
    rw [n3, n3]
    refine fn_ok hm env0 k82 ((t82 1 (intD x) (intD y)).trans ?_)
    rw [m49, plus_fits (ty3 hx) (ty3 hy)]
    rfl
theorem k83 : FnOK Try.prog 83 Try.f83 := ⟨Try.func83, rfl, by kernel_rfl⟩
theorem c83 : ∀ args d, ent [3, 3] (f2 fun x y => some (.agg [.lit (.int .i64 (IntKind.wrap .i64 ((intD x) - (intD y)))), .lit (.bool (subOK (intD x) (intD y)))])) args = some d → CallOK Try.prog 83 args (mkRes Try.prog 73 d) :=
  ent2 k83 fun x y d h ⟨_, hx⟩ ⟨_, hy⟩ => by
    cases h
    rw [n3, n3]
    refine fn_ok hm env0 k83 ((t83 1 (intD x) (intD y)).trans ?_)
    rw [m49, minus_fits (ty3 hx) (ty3 hy)]
    rfl
theorem k84 : FnOK Try.prog 84 Try.f84 := ⟨Try.func84, rfl, by kernel_rfl⟩
theorem c84 : ∀ args d, ent [3, 3] (f2 fun x y => some (.agg [.lit (.int .i64 (IntKind.wrap .i64 ((intD x) * (intD y)))), .lit (.bool (mulOK (intD x) (intD y)))])) args = some d → CallOK Try.prog 84 args (mkRes Try.prog 73 d) :=
  ent2 k84 fun x y d h ⟨_, hx⟩ ⟨_, hy⟩ => by
    cases h
    rw [n3, n3]
    refine fn_ok hm env0 k84 ((t84 1 (intD x) (intD y)).trans ?_)
    have hx' := ty3 hx
    have hy' := ty3 hy
    generalize intD x = a at *
    generalize intD y = b at *
    rw [m49]
    by_cases h0 : a = 0
    · subst h0
      simp [mulOK, inR]
    · have h0' : (a == 0) = false := by simpa using h0
      by_cases h1 : a = -1
      · subst h1
        have : (b != (-9223372036854775808)) = mulOK (-1) b := by
          rw [inR_iff] at hy'
          unfold mulOK
          cases hm' : inR (-1 * b)
          · rw [inR_not] at hm'
            have : b = -9223372036854775808 := by omega
            simp [this]
          · rw [inR_iff] at hm'
            have : b ≠ -9223372036854775808 := by omega
            simpa using this
        rw [this]
        rfl
      · have h1' : (a == (-1)) = false := by simpa using h1
        rw [h0', h1', quot_fits hx' hy' h0 h1]
        rfl
theorem k85 : FnOK Try.prog 85 Try.f85 := ⟨Try.func85, rfl, by kernel_rfl⟩
theorem c85 : ∀ args d, ent [3, 3] (f2 fun x y => some (.agg [.lit (.int .i64 (divV (intD x) (intD y))), .lit (.bool (divOK (intD x) (intD y)))])) args = some d → CallOK Try.prog 85 args (mkRes Try.prog 73 d) :=
  ent2 k85 fun x y d h ⟨_, hx⟩ ⟨_, hy⟩ => by
    cases h
    rw [n3, n3]
    refine fn_ok hm env0 k85 ((t85 1 (intD x) (intD y)).trans ?_)
    have hx' := ty3 hx
    have hy' := ty3 hy
    generalize intD x = a at *
    generalize intD y = b at *
    rw [m49]
    unfold divV divOK
    by_cases h0 : b = 0
    · subst h0; rfl
    · have h0' : (b == 0) = false := by simpa using h0
      have ht := tdiv_fits hx' h0
      rw [h0', ht]
      cases ha : (a == -9223372036854775808) <;> cases hb : (b == -1) <;> simp [ha, hb] at ht ⊢
      all_goals rw [wrap_in ht]
theorem k91 : FnOK Try.prog 91 Try.f91 := ⟨Try.func91, rfl, by kernel_rfl⟩
theorem c91 : ∀ args d, ent [23, 23] (f2 fun x y => some (.slice [x, y] [])) args = some d → CallOK Try.prog 91 args (mkRes Try.prog 28 d) :=
  ent2 k91 fun x y d h _ _ => by
    cases h
    rw [n23, n23]
    refine fn_ok hm env0 k91 ((t91 1 x y).trans ?_)
    rw [m28]
theorem k100 : FnOK Try.prog 100 Try.f100 := ⟨Try.func100, rfl, by kernel_rfl⟩
theorem c100 : ∀ args d, ent [23] (f1 fun x => some (.lit (.bool (isNum x)))) args = some d → CallOK Try.prog 100 args (mkRes Try.prog 4 d) :=
  ent1 k100 fun x d h _ => by
    cases h
    rw [n23]
    refine fn_ok hm env0 k100 ((t100 1 x).trans ?_)
    rw [m4]
    rfl

theorem env1 : EnvOK Try.prog (envOf T1) := (envOK_cons (envOK_cons (envOK_cons (envOK_cons (envOK_cons (envOK_cons (envOK_cons (envOK_cons (envOK_cons (envOK_cons (envOK_cons (envOK_cons (envOK_cons (envOK_cons env0 c100) c91) c85) c84) c83) c82) c43) c42) c92) c87) c101) c45) c48) c24)

end Go.Proofs.Ytochjfimogijjaa
