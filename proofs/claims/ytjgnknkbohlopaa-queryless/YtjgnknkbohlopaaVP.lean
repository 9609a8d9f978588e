/- Layer 1, function by function: what each answers, whatever the world and the order. Nothing here is trusted. -/
import Derived.Test.YtjgnknkbohlopaaVT
namespace Go.Proofs.Ytjgnknkbohlopaa
open Go.Ev
set_option linter.unusedVariables false
set_option linter.unusedSimpArgs false

theorem hm : Try.prog.follows .mixedOrders = true := by kernel_rfl
theorem n23 (x : D) : normD Try.prog 38 x = x := by kernel_rfl
theorem n28 (x : D) : normD Try.prog 73 x = x := by kernel_rfl
theorem n25 (x : D) : normD Try.prog 80 x = x := by kernel_rfl
theorem n40 (x : D) : normD Try.prog 111 x = x := by kernel_rfl
theorem n3 (x : D) : normD Try.prog 3 x = .lit (.int .i64 (intD x)) := by kernel_rfl
theorem n4 (x : D) : normD Try.prog 4 x = .lit (.bool (boolD x)) := by kernel_rfl
theorem m23 (x : D) : mkRes Try.prog 38 x = dat 38 x := by kernel_rfl
theorem m28 (x : D) : mkRes Try.prog 73 x = dat 73 x := by kernel_rfl
theorem m3 (x : D) : mkRes Try.prog 3 x = dat 3 (.lit (.int .i64 (intD x))) := by kernel_rfl
theorem m4 (x : D) : mkRes Try.prog 4 x = dat 4 (.lit (.bool (boolD x))) := by kernel_rfl
theorem m49 (x : D) : mkRes Try.prog 96 x = tupA [3, 4] x := by kernel_rfl
theorem u23 : ∃ f g : Field, Try.prog.underlying 38 = some (.struct #[f, g]) ∧ f.type = 3 ∧ g.type = 3 := ⟨_, _, Try.underlying38, rfl, rfl⟩
theorem u3 : Try.prog.underlying 3 = some (.int .i64) := by kernel_rfl
theorem u28 : Try.prog.underlying 73 = some (.slice 38) := by kernel_rfl
theorem u25 : Try.prog.underlying 80 = some (.func #[38] #[4] false) := by kernel_rfl

theorem ty3 {n : Nat} {x : D} (h : Ty Try.prog n 3 x) : inR (intD x) = true := by
  cases n with
  | zero => exact h.elim
  | succ n =>
    unfold Ty at h
    rw [u3] at h
    split at h <;> try (exact h.elim)
    all_goals try (simp_all; done)
    rename_i k k' z heq
    cases heq
    obtain ⟨rfl, hw⟩ := h
    exact wf_inR hw

theorem ty3' {n : Nat} {x : D} (h : Ty Try.prog n 3 x) : ∃ z, x = .lit (.int .i64 z) ∧ inR z = true := by
  cases n with
  | zero => exact h.elim
  | succ n =>
    unfold Ty at h
    rw [u3] at h
    split at h <;> try (exact h.elim)
    all_goals try (simp_all; done)
    rename_i k k' z heq
    cases heq
    obtain ⟨rfl, hw⟩ := h
    exact ⟨z, rfl, wf_inR hw⟩

theorem ty23 {n : Nat} {x : D} (h : Ty Try.prog n 38 x) : ∃ k m, x = vv k m ∧ inR k = true ∧ inR m = true := by
  obtain ⟨f, g, hu, hf, hg⟩ := u23
  cases n with
  | zero => exact h.elim
  | succ n =>
    unfold Ty at h
    rw [hu] at h
    split at h <;> try (exact h.elim)
    all_goals try (simp_all; done)
    rename_i fs ps heq
    cases heq
    obtain ⟨hl, hp⟩ := h
    match ps, hl with
    | [a, b], _ =>
      have h0 := hp 0 f rfl
      have h1 := hp 1 g rfl
      rw [hf] at h0
      rw [hg] at h1
      obtain ⟨k, ek, hk⟩ := ty3' h0
      obtain ⟨m, em, hm⟩ := ty3' h1
      simp at ek em
      subst ek em
      exact ⟨k, m, rfl, hk, hm⟩

theorem ty28 {n : Nat} {x : D} (h : Ty Try.prog n 73 x) : ∃ es, x = .slice es [] ∧ es.length ≤ maxLen ∧ ∀ y ∈ es, ∃ k m, y = vv k m ∧ inR k = true ∧ inR m = true := by
  cases n with
  | zero => exact h.elim
  | succ n =>
    unfold Ty at h
    rw [u28] at h
    split at h <;> try (exact h.elim)
    all_goals try (simp_all; done)
    rename_i e es sp heq
    cases heq
    obtain ⟨rfl, hl, hp⟩ := h
    exact ⟨es, rfl, hl, fun y hy => ty23 (hp y hy)⟩

theorem kk_vv (k m : Int) : kk (vv k m) = k := rfl
theorem nn_vv (k m : Int) : nn (vv k m) = m := rfl

theorem env0 : EnvOK Try.prog (envOf T0) := envOK_nil

/-! ### Leaves -/
theorem k54 : FnOK Try.prog 54 Try.f54 := ⟨Try.func54, rfl, by kernel_rfl⟩
theorem c54 : ∀ args d, ent [38] (f1 fun x => some (.lit (.bool (mayB x)))) args = some d → CallOK Try.prog 54 args (mkRes Try.prog 4 d) :=
  ent1 k54 fun x d h _ => by
    cases h
    rw [n23]
    refine fn_ok hm env0 k54 ((t54 1 x).trans ?_)
    rw [m4]
    simp only [boolD, mayB, kk, nn]
    cases (intD (fieldD x 0) == 0) <;> cases (intD (fieldD x 0) == 1) <;> cases (intD (fieldD x 0) == 2) <;> rfl
theorem k55 : FnOK Try.prog 55 Try.f55 := ⟨Try.func55, rfl, by kernel_rfl⟩
theorem c55 : ∀ args d, ent [3] (f1 fun x => some (.agg [.lit (.int .i64 0), .lit (.int .i64 (intD x))])) args = some d → CallOK Try.prog 55 args (mkRes Try.prog 38 d) :=
  ent1 k55 fun x d h _ => by
    cases h
    rw [n3]
    refine fn_ok hm env0 k55 ((t55 1 (intD x)).trans ?_)
    rw [m23]
theorem k99 : FnOK Try.prog 99 Try.f99 := ⟨Try.func99, rfl, by kernel_rfl⟩
theorem c99 : ∀ args d, ent [] (f0 (some (.agg [.lit (.int .i64 2), .lit (.int .i64 0)]))) args = some d → CallOK Try.prog 99 args (mkRes Try.prog 38 d) :=
  ent0 fun d h => by
    cases h
    refine fn_ok hm env0 k99 ((t99 1).trans ?_)
    rw [m23]
theorem k93 : FnOK Try.prog 93 Try.f93 := ⟨Try.func93, rfl, by kernel_rfl⟩
theorem c93 : ∀ args d, ent [4] (f1 fun x => some (.lit (.int .i64 (truthI (boolD x))))) args = some d → CallOK Try.prog 93 args (mkRes Try.prog 3 d) :=
  ent1 k93 fun x d h _ => by
    cases h
    rw [n4]
    refine fn_ok hm env0 k93 ((t93 1 (boolD x)).trans ?_)
    rw [m3]
    simp only [intD, truthI]
    cases boolD x <;> rfl
theorem k96 : FnOK Try.prog 96 Try.f96 := ⟨Try.func96, rfl, by kernel_rfl⟩
theorem c96 : ∀ args d, ent [38] (f1 fun x => some (.lit (.bool (isTru x)))) args = some d → CallOK Try.prog 96 args (mkRes Try.prog 4 d) :=
  ent1 k96 fun x d h _ => by
    cases h
    rw [n23]
    refine fn_ok hm env0 k96 ((t96 1 x).trans ?_)
    rw [m4]
    simp only [boolD, isTru, kk, nn]
    cases (intD (fieldD x 0) == 0) <;> rfl
theorem k88 : FnOK Try.prog 88 Try.f88 := ⟨Try.func88, rfl, by kernel_rfl⟩
theorem c88 : ∀ args d, ent [3, 3] (f2 fun x y => some (.agg [.lit (.int .i64 (IntKind.wrap .i64 ((intD x) + (intD y)))), .lit (.bool (addOK (intD x) (intD y)))])) args = some d → CallOK Try.prog 88 args (mkRes Try.prog 96 d) :=
  ent2 k88 fun x y d h ⟨_, hx⟩ ⟨_, hy⟩ => by
    cases h
    rw [n3, n3]
    refine fn_ok hm env0 k88 ((t88 1 (intD x) (intD y)).trans ?_)
    rw [m49, plus_fits (ty3 hx) (ty3 hy)]
    rfl
theorem k89 : FnOK Try.prog 89 Try.f89 := ⟨Try.func89, rfl, by kernel_rfl⟩
theorem c89 : ∀ args d, ent [3, 3] (f2 fun x y => some (.agg [.lit (.int .i64 (IntKind.wrap .i64 ((intD x) - (intD y)))), .lit (.bool (subOK (intD x) (intD y)))])) args = some d → CallOK Try.prog 89 args (mkRes Try.prog 96 d) :=
  ent2 k89 fun x y d h ⟨_, hx⟩ ⟨_, hy⟩ => by
    cases h
    rw [n3, n3]
    refine fn_ok hm env0 k89 ((t89 1 (intD x) (intD y)).trans ?_)
    rw [m49, minus_fits (ty3 hx) (ty3 hy)]
    rfl
theorem k90 : FnOK Try.prog 90 Try.f90 := ⟨Try.func90, rfl, by kernel_rfl⟩
theorem c90 : ∀ args d, ent [3, 3] (f2 fun x y => some (.agg [.lit (.int .i64 (IntKind.wrap .i64 ((intD x) * (intD y)))), .lit (.bool (mulOK (intD x) (intD y)))])) args = some d → CallOK Try.prog 90 args (mkRes Try.prog 96 d) :=
  ent2 k90 fun x y d h ⟨_, hx⟩ ⟨_, hy⟩ => by
    cases h
    rw [n3, n3]
    refine fn_ok hm env0 k90 ((t90 1 (intD x) (intD y)).trans ?_)
    have hx' := ty3 hx
    have hy' := ty3 hy
    generalize intD x = a at *
    generalize intD y = b at *
    rw [m49]
    by_cases h0 : a = 0
    · subst h0
      simp [mulOK, inR]
    · have h0' : (a == 0) = false := by simpa using h0
      by_cases h1 : a = -1
      · subst h1
        have : (b != (-9223372036854775808)) = mulOK (-1) b := by
          rw [inR_iff] at hy'
          unfold mulOK
          cases hm' : inR (-1 * b)
          · rw [inR_not] at hm'
            have : b = -9223372036854775808 := by omega
            simp [this]
          · rw [inR_iff] at hm'
            have : b ≠ -9223372036854775808 := by omega
            simpa using this
        rw [this]
        rfl
      · have h1' : (a == (-1)) = false := by simpa using h1
        rw [h0', h1', quot_fits hx' hy' h0 h1]
        rfl
theorem k91 : FnOK Try.prog 91 Try.f91 := ⟨Try.func91, rfl, by kernel_rfl⟩
theorem c91 : ∀ args d, ent [3, 3] (f2 fun x y => some (.agg [.lit (.int .i64 (divV (intD x) (intD y))), .lit (.bool (divOK (intD x) (intD y)))])) args = some d → CallOK Try.prog 91 args (mkRes Try.prog 96 d) :=
  ent2 k91 fun x y d h ⟨_, hx⟩ ⟨_, hy⟩ => by
    cases h
    rw [n3, n3]
    refine fn_ok hm env0 k91 ((t91 1 (intD x) (intD y)).trans ?_)
    have hx' := ty3 hx
    have hy' := ty3 hy
    generalize intD x = a at *
    generalize intD y = b at *
    rw [m49]
    unfold divV divOK
    by_cases h0 : b = 0
    · subst h0; rfl
    · have h0' : (b == 0) = false := by simpa using h0
      have ht := tdiv_fits hx' h0
      rw [h0', ht]
      cases ha : (a == -9223372036854775808) <;> cases hb : (b == -1) <;> simp [ha, hb] at ht ⊢
      all_goals rw [wrap_in ht]
theorem k98 : FnOK Try.prog 98 Try.f98 := ⟨Try.func98, rfl, by kernel_rfl⟩
theorem c98 : ∀ args d, ent [38] (f1 fun x => some (.lit (.bool (isNum x)))) args = some d → CallOK Try.prog 98 args (mkRes Try.prog 4 d) :=
  ent1 k98 fun x d h _ => by
    cases h
    rw [n23]
    refine fn_ok hm env0 k98 ((t98 1 x).trans ?_)
    rw [m4]
    rfl

theorem env1 : EnvOK Try.prog (envOf T1) := (envOK_cons (envOK_cons (envOK_cons (envOK_cons (envOK_cons (envOK_cons (envOK_cons (envOK_cons (envOK_cons (envOK_cons env0 c98) c91) c90) c89) c88) c96) c93) c99) c55) c54)

end Go.Proofs.Ytjgnknkbohlopaa
