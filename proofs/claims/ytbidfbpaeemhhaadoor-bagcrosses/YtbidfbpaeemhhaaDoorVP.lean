/- Layer 1, function by function: what each answers, whatever the world and the order. Nothing here is trusted. -/
import Derived.Test.YtbidfbpaeemhhaaDoorVT
namespace Go.Proofs.YtbidfbpaeemhhaaDoor
open Go.Ev
set_option linter.unusedVariables false
set_option linter.unusedSimpArgs false

theorem hm : Tryd.prog.follows .mixedOrders = true := by kernel_rfl
theorem n23 (x : D) : normD Tryd.prog 39 x = x := by kernel_rfl
theorem n28 (x : D) : normD Tryd.prog 34 x = x := by kernel_rfl
theorem n25 (x : D) : normD Tryd.prog 68 x = x := by kernel_rfl
theorem n3 (x : D) : normD Tryd.prog 3 x = .lit (.int .i64 (intD x)) := by kernel_rfl
theorem n4 (x : D) : normD Tryd.prog 4 x = .lit (.bool (boolD x)) := by kernel_rfl
theorem m23 (x : D) : mkRes Tryd.prog 39 x = dat 39 x := by kernel_rfl
theorem m28 (x : D) : mkRes Tryd.prog 34 x = dat 34 x := by kernel_rfl
theorem m3 (x : D) : mkRes Tryd.prog 3 x = dat 3 (.lit (.int .i64 (intD x))) := by kernel_rfl
theorem m4 (x : D) : mkRes Tryd.prog 4 x = dat 4 (.lit (.bool (boolD x))) := by kernel_rfl
theorem m49 (x : D) : mkRes Tryd.prog 88 x = tupA [3, 4] x := by kernel_rfl
theorem u23 : ∃ f g : Field, Tryd.prog.underlying 39 = some (.struct #[f, g]) ∧ f.type = 3 ∧ g.type = 3 := ⟨_, _, Tryd.underlying39, rfl, rfl⟩
theorem u3 : Tryd.prog.underlying 3 = some (.int .i64) := by kernel_rfl
theorem u28 : Tryd.prog.underlying 34 = some (.slice 39) := by kernel_rfl
theorem u25 : Tryd.prog.underlying 68 = some (.func #[39] #[4] false) := by kernel_rfl

theorem ty3 {n : Nat} {x : D} (h : Ty Tryd.prog n 3 x) : inR (intD x) = true := by
  cases n with
  | zero => exact h.elim
  | succ n =>
    unfold Ty at h
    rw [u3] at h
    split at h <;> try (exact h.elim)
    all_goals try (simp_all; done)
    rename_i k k' z heq
    cases heq
    obtain ⟨rfl, hw⟩ := h
    exact wf_inR hw

theorem ty3' {n : Nat} {x : D} (h : Ty Tryd.prog n 3 x) : ∃ z, x = .lit (.int .i64 z) ∧ inR z = true := by
  cases n with
  | zero => exact h.elim
  | succ n =>
    unfold Ty at h
    rw [u3] at h
    split at h <;> try (exact h.elim)
    all_goals try (simp_all; done)
    rename_i k k' z heq
    cases heq
    obtain ⟨rfl, hw⟩ := h
    exact ⟨z, rfl, wf_inR hw⟩

theorem ty23 {n : Nat} {x : D} (h : Ty Tryd.prog n 39 x) : ∃ k m, x = vv k m ∧ inR k = true ∧ inR m = true := by
  obtain ⟨f, g, hu, hf, hg⟩ := u23
  cases n with
  | zero => exact h.elim
  | succ n =>
    unfold Ty at h
    rw [hu] at h
    split at h <;> try (exact h.elim)
    all_goals try (simp_all; done)
    rename_i fs ps heq
    cases heq
    obtain ⟨hl, hp⟩ := h
    match ps, hl with
    | [a, b], _ =>
      have h0 := hp 0 f rfl
      have h1 := hp 1 g rfl
      rw [hf] at h0
      rw [hg] at h1
      obtain ⟨k, ek, hk⟩ := ty3' h0
      obtain ⟨m, em, hm⟩ := ty3' h1
      simp at ek em
      subst ek em
      exact ⟨k, m, rfl, hk, hm⟩

theorem ty28 {n : Nat} {x : D} (h : Ty Tryd.prog n 34 x) : ∃ es, x = .slice es [] ∧ es.length ≤ maxLen ∧ ∀ y ∈ es, ∃ k m, y = vv k m ∧ inR k = true ∧ inR m = true := by
  cases n with
  | zero => exact h.elim
  | succ n =>
    unfold Ty at h
    rw [u28] at h
    split at h <;> try (exact h.elim)
    all_goals try (simp_all; done)
    rename_i e es sp heq
    cases heq
    obtain ⟨rfl, hl, hp⟩ := h
    exact ⟨es, rfl, hl, fun y hy => ty23 (hp y hy)⟩

theorem kk_vv (k m : Int) : kk (vv k m) = k := rfl
theorem nn_vv (k m : Int) : nn (vv k m) = m := rfl

theorem env0 : EnvOK Tryd.prog (envOf T0) := envOK_nil

/-! ### Leaves -/
theorem k42 : FnOK Tryd.prog 42 Tryd.f42 := ⟨Tryd.func42, rfl, by kernel_rfl⟩
theorem c42 : ∀ args d, ent [39] (f1 fun x => some (.lit (.bool (mayB x)))) args = some d → CallOK Tryd.prog 42 args (mkRes Tryd.prog 4 d) :=
  ent1 k42 fun x d h _ => by
    cases h
    rw [n23]
    refine fn_ok hm env0 k42 ((t42 1 x).trans ?_)
    rw [m4]
    simp only [boolD, mayB, kk, nn]
    cases (intD (fieldD x 0) == 0) <;> cases (intD (fieldD x 0) == 1) <;> cases (intD (fieldD x 0) == 2) <;> rfl
theorem k51 : FnOK Tryd.prog 51 Tryd.f51 := ⟨Tryd.func51, rfl, by kernel_rfl⟩
theorem c51 : ∀ args d, ent [3] (f1 fun x => some (.agg [.lit (.int .i64 0), .lit (.int .i64 (intD x))])) args = some d → CallOK Tryd.prog 51 args (mkRes Tryd.prog 39 d) :=
  ent1 k51 fun x d h _ => by
    cases h
    rw [n3]
    refine fn_ok hm env0 k51 ((t51 1 (intD x)).trans ?_)
    rw [m23]
theorem k61 : FnOK Tryd.prog 61 Tryd.f61 := ⟨Tryd.func61, rfl, by kernel_rfl⟩
theorem c61 : ∀ args d, ent [] (f0 (some (.agg [.lit (.int .i64 2), .lit (.int .i64 0)]))) args = some d → CallOK Tryd.prog 61 args (mkRes Tryd.prog 39 d) :=
  ent0 fun d h => by
    cases h
    refine fn_ok hm env0 k61 ((t61 1).trans ?_)
    rw [m23]
theorem k63 : FnOK Tryd.prog 63 Tryd.f63 := ⟨Tryd.func63, rfl, by kernel_rfl⟩
theorem c63 : ∀ args d, ent [3, 3] (f2 fun x y => some (.agg [.lit (.int .i64 (IntKind.wrap .i64 ((intD x) + (intD y)))), .lit (.bool (addOK (intD x) (intD y)))])) args = some d → CallOK Tryd.prog 63 args (mkRes Tryd.prog 88 d) :=
  ent2 k63 fun x y d h ⟨_, hx⟩ ⟨_, hy⟩ => by
    cases h
    rw [n3, n3]
    refine fn_ok hm env0 k63 ((t63 1 (intD x) (intD y)).trans ?_)
    rw [m49, plus_fits (ty3 hx) (ty3 hy)]
    rfl
theorem k62 : FnOK Tryd.prog 62 Tryd.f62 := ⟨Tryd.func62, rfl, by kernel_rfl⟩
theorem c62 : ∀ args d, ent [39] (f1 fun x => some (.lit (.bool (isNum x)))) args = some d → CallOK Tryd.prog 62 args (mkRes Tryd.prog 4 d) :=
  ent1 k62 fun x d h _ => by
    cases h
    rw [n23]
    refine fn_ok hm env0 k62 ((t62 1 x).trans ?_)
    rw [m4]
    rfl

theorem env1 : EnvOK Tryd.prog (envOf T1) := (envOK_cons (envOK_cons (envOK_cons (envOK_cons (envOK_cons env0 c62) c63) c61) c51) c42)

end Go.Proofs.YtbidfbpaeemhhaaDoor
