/- Layer 1, function by function: what each answers, whatever the world and the order. Nothing here is trusted. -/
import Derived.Test.YtjgnknkbohlopaaGreatVT
namespace Go.Proofs.YtjgnknkbohlopaaGreat
open Go.Ev
set_option linter.unusedVariables false
set_option linter.unusedSimpArgs false

theorem hm : Tryz.prog.follows .mixedOrders = true := by kernel_rfl
theorem n23 (x : D) : normD Tryz.prog 33 x = x := by kernel_rfl
theorem n28 (x : D) : normD Tryz.prog 72 x = x := by kernel_rfl
theorem n25 (x : D) : normD Tryz.prog 81 x = x := by kernel_rfl
theorem n40 (x : D) : normD Tryz.prog 111 x = x := by kernel_rfl
theorem n3 (x : D) : normD Tryz.prog 3 x = .lit (.int .i64 (intD x)) := by kernel_rfl
theorem n4 (x : D) : normD Tryz.prog 4 x = .lit (.bool (boolD x)) := by kernel_rfl
theorem m23 (x : D) : mkRes Tryz.prog 33 x = dat 33 x := by kernel_rfl
theorem m28 (x : D) : mkRes Tryz.prog 72 x = dat 72 x := by kernel_rfl
theorem m3 (x : D) : mkRes Tryz.prog 3 x = dat 3 (.lit (.int .i64 (intD x))) := by kernel_rfl
theorem m4 (x : D) : mkRes Tryz.prog 4 x = dat 4 (.lit (.bool (boolD x))) := by kernel_rfl
theorem m49 (x : D) : mkRes Tryz.prog 97 x = tupA [3, 4] x := by kernel_rfl
theorem u23 : ∃ f g : Field, Tryz.prog.underlying 33 = some (.struct #[f, g]) ∧ f.type = 3 ∧ g.type = 3 := ⟨_, _, Tryz.underlying33, rfl, rfl⟩
theorem u3 : Tryz.prog.underlying 3 = some (.int .i64) := by kernel_rfl
theorem u28 : Tryz.prog.underlying 72 = some (.slice 33) := by kernel_rfl
theorem u25 : Tryz.prog.underlying 81 = some (.func #[33] #[4] false) := by kernel_rfl

theorem ty3 {n : Nat} {x : D} (h : Ty Tryz.prog n 3 x) : inR (intD x) = true := by
  cases n with
  | zero => exact h.elim
  | succ n =>
    unfold Ty at h
    rw [u3] at h
    split at h <;> try (exact h.elim)
    all_goals try (simp_all; done)
    rename_i k k' z heq
    cases heq
    obtain ⟨rfl, hw⟩ := h
    exact wf_inR hw

theorem ty3' {n : Nat} {x : D} (h : Ty Tryz.prog n 3 x) : ∃ z, x = .lit (.int .i64 z) ∧ inR z = true := by
  cases n with
  | zero => exact h.elim
  | succ n =>
    unfold Ty at h
    rw [u3] at h
    split at h <;> try (exact h.elim)
    all_goals try (simp_all; done)
    rename_i k k' z heq
    cases heq
    obtain ⟨rfl, hw⟩ := h
    exact ⟨z, rfl, wf_inR hw⟩

theorem ty23 {n : Nat} {x : D} (h : Ty Tryz.prog n 33 x) : ∃ k m, x = vv k m ∧ inR k = true ∧ inR m = true := by
  obtain ⟨f, g, hu, hf, hg⟩ := u23
  cases n with
  | zero => exact h.elim
  | succ n =>
    unfold Ty at h
    rw [hu] at h
    split at h <;> try (exact h.elim)
    all_goals try (simp_all; done)
    rename_i fs ps heq
    cases heq
    obtain ⟨hl, hp⟩ := h
    match ps, hl with
    | [a, b], _ =>
      have h0 := hp 0 f rfl
      have h1 := hp 1 g rfl
      rw [hf] at h0
      rw [hg] at h1
      obtain ⟨k, ek, hk⟩ := ty3' h0
      obtain ⟨m, em, hm⟩ := ty3' h1
      simp at ek em
      subst ek em
      exact ⟨k, m, rfl, hk, hm⟩

theorem ty28 {n : Nat} {x : D} (h : Ty Tryz.prog n 72 x) : ∃ es, x = .slice es [] ∧ es.length ≤ maxLen ∧ ∀ y ∈ es, ∃ k m, y = vv k m ∧ inR k = true ∧ inR m = true := by
  cases n with
  | zero => exact h.elim
  | succ n =>
    unfold Ty at h
    rw [u28] at h
    split at h <;> try (exact h.elim)
    all_goals try (simp_all; done)
    rename_i e es sp heq
    cases heq
    obtain ⟨rfl, hl, hp⟩ := h
    exact ⟨es, rfl, hl, fun y hy => ty23 (hp y hy)⟩

theorem kk_vv (k m : Int) : kk (vv k m) = k := rfl
theorem nn_vv (k m : Int) : nn (vv k m) = m := rfl

theorem env0 : EnvOK Tryz.prog (envOf T0) := envOK_nil

/-! ### Leaves -/
theorem k66 : FnOK Tryz.prog 66 Tryz.f66 := ⟨Tryz.func66, rfl, by kernel_rfl⟩
theorem c66 : ∀ args d, ent [33] (f1 fun x => some (.lit (.bool (mayB x)))) args = some d → CallOK Tryz.prog 66 args (mkRes Tryz.prog 4 d) :=
  ent1 k66 fun x d h _ => by
    cases h
    rw [n23]
    refine fn_ok hm env0 k66 ((t66 1 x).trans ?_)
    rw [m4]
    simp only [boolD, mayB, kk, nn]
    cases (intD (fieldD x 0) == 0) <;> cases (intD (fieldD x 0) == 1) <;> cases (intD (fieldD x 0) == 2) <;> rfl
theorem k95 : FnOK Tryz.prog 95 Tryz.f95 := ⟨Tryz.func95, rfl, by kernel_rfl⟩
theorem c95 : ∀ args d, ent [33] (f1 fun x => some (.lit (.bool (mayB x)))) args = some d → CallOK Tryz.prog 95 args (mkRes Tryz.prog 4 d) :=
  ent1 k95 fun x d h _ => by
    cases h
    rw [n23]
    refine fn_ok hm env0 k95 ((t95 1 x).trans ?_)
    rw [m4]
    simp only [boolD, mayB, kk, nn]
    cases (intD (fieldD x 0) == 0) <;> cases (intD (fieldD x 0) == 1) <;> cases (intD (fieldD x 0) == 2) <;> rfl
theorem k67 : FnOK Tryz.prog 67 Tryz.f67 := ⟨Tryz.func67, rfl, by kernel_rfl⟩
theorem c67 : ∀ args d, ent [3] (f1 fun x => some (.agg [.lit (.int .i64 0), .lit (.int .i64 (intD x))])) args = some d → CallOK Tryz.prog 67 args (mkRes Tryz.prog 33 d) :=
  ent1 k67 fun x d h _ => by
    cases h
    rw [n3]
    refine fn_ok hm env0 k67 ((t67 1 (intD x)).trans ?_)
    rw [m23]
theorem k115 : FnOK Tryz.prog 115 Tryz.f115 := ⟨Tryz.func115, rfl, by kernel_rfl⟩
theorem c115 : ∀ args d, ent [] (f0 (some (.agg [.lit (.int .i64 2), .lit (.int .i64 0)]))) args = some d → CallOK Tryz.prog 115 args (mkRes Tryz.prog 33 d) :=
  ent0 fun d h => by
    cases h
    refine fn_ok hm env0 k115 ((t115 1).trans ?_)
    rw [m23]
theorem k109 : FnOK Tryz.prog 109 Tryz.f109 := ⟨Tryz.func109, rfl, by kernel_rfl⟩
theorem c109 : ∀ args d, ent [4] (f1 fun x => some (.lit (.int .i64 (truthI (boolD x))))) args = some d → CallOK Tryz.prog 109 args (mkRes Tryz.prog 3 d) :=
  ent1 k109 fun x d h _ => by
    cases h
    rw [n4]
    refine fn_ok hm env0 k109 ((t109 1 (boolD x)).trans ?_)
    rw [m3]
    simp only [intD, truthI]
    cases boolD x <;> rfl
theorem k112 : FnOK Tryz.prog 112 Tryz.f112 := ⟨Tryz.func112, rfl, by kernel_rfl⟩
theorem c112 : ∀ args d, ent [33] (f1 fun x => some (.lit (.bool (isTru x)))) args = some d → CallOK Tryz.prog 112 args (mkRes Tryz.prog 4 d) :=
  ent1 k112 fun x d h _ => by
    cases h
    rw [n23]
    refine fn_ok hm env0 k112 ((t112 1 x).trans ?_)
    rw [m4]
    simp only [boolD, isTru, kk, nn]
    cases (intD (fieldD x 0) == 0) <;> rfl
theorem k104 : FnOK Tryz.prog 104 Tryz.f104 := ⟨Tryz.func104, rfl, by kernel_rfl⟩
theorem c104 : ∀ args d, ent [3, 3] (f2 fun x y => some (.agg [.lit (.int .i64 (IntKind.wrap .i64 ((intD x) + (intD y)))), .lit (.bool (addOK (intD x) (intD y)))])) args = some d → CallOK Tryz.prog 104 args (mkRes Tryz.prog 97 d) :=
  ent2 k104 fun x y d h ⟨_, hx⟩ ⟨_, hy⟩ => by
    cases h
    rw [n3, n3]
    refine fn_ok hm env0 k104 ((t104 1 (intD x) (intD y)).trans ?_)
    rw [m49, plus_fits (ty3 hx) (ty3 hy)]
    rfl
theorem k105 : FnOK Tryz.prog 105 Tryz.f105 := ⟨Tryz.func105, rfl, by kernel_rfl⟩
theorem c105 : ∀ args d, ent [3, 3] (f2 fun x y => some (.agg [.lit (.int .i64 (IntKind.wrap .i64 ((intD x) - (intD y)))), .lit (.bool (subOK (intD x) (intD y)))])) args = some d → CallOK Tryz.prog 105 args (mkRes Tryz.prog 97 d) :=
  ent2 k105 fun x y d h ⟨_, hx⟩ ⟨_, hy⟩ => by
    cases h
    rw [n3, n3]
    refine fn_ok hm env0 k105 ((t105 1 (intD x) (intD y)).trans ?_)
    rw [m49, minus_fits (ty3 hx) (ty3 hy)]
    rfl
theorem k106 : FnOK Tryz.prog 106 Tryz.f106 := ⟨Tryz.func106, rfl, by kernel_rfl⟩
theorem c106 : ∀ args d, ent [3, 3] (f2 fun x y => some (.agg [.lit (.int .i64 (IntKind.wrap .i64 ((intD x) * (intD y)))), .lit (.bool (mulOK (intD x) (intD y)))])) args = some d → CallOK Tryz.prog 106 args (mkRes Tryz.prog 97 d) :=
  ent2 k106 fun x y d h ⟨_, hx⟩ ⟨_, hy⟩ => by
    cases h
    rw [n3, n3]
    refine fn_ok hm env0 k106 ((t106 1 (intD x) (intD y)).trans ?_)
    have hx' := ty3 hx
    have hy' := ty3 hy
    generalize intD x = a at *
    generalize intD y = b at *
    rw [m49]
    by_cases h0 : a = 0
    · subst h0
      simp [mulOK, inR]
    · have h0' : (a == 0) = false := by simpa using h0
      by_cases h1 : a = -1
      · subst h1
        have : (b != (-9223372036854775808)) = mulOK (-1) b := by
          rw [inR_iff] at hy'
          unfold mulOK
          cases hm' : inR (-1 * b)
          · rw [inR_not] at hm'
            have : b = -9223372036854775808 := by omega
            simp [this]
          · rw [inR_iff] at hm'
            have : b ≠ -9223372036854775808 := by omega
            simpa using this
        rw [this]
        rfl
      · have h1' : (a == (-1)) = false := by simpa using h1
        rw [h0', h1', quot_fits hx' hy' h0 h1]
        rfl
theorem k107 : FnOK Tryz.prog 107 Tryz.f107 := ⟨Tryz.func107, rfl, by kernel_rfl⟩
theorem c107 : ∀ args d, ent [3, 3] (f2 fun x y => some (.agg [.lit (.int .i64 (divV (intD x) (intD y))), .lit (.bool (divOK (intD x) (intD y)))])) args = some d → CallOK Tryz.prog 107 args (mkRes Tryz.prog 97 d) :=
  ent2 k107 fun x y d h ⟨_, hx⟩ ⟨_, hy⟩ => by
    cases h
    rw [n3, n3]
    refine fn_ok hm env0 k107 ((t107 1 (intD x) (intD y)).trans ?_)
    have hx' := ty3 hx
    have hy' := ty3 hy
    generalize intD x = a at *
    generalize intD y = b at *
    rw [m49]
    unfold divV divOK
    by_cases h0 : b = 0
    · subst h0; rfl
    · have h0' : (b == 0) = false := by simpa using h0
      have ht := tdiv_fits hx' h0
      rw [h0', ht]
      cases ha : (a == -9223372036854775808) <;> cases hb : (b == -1) <;> simp [ha, hb] at ht ⊢
      all_goals rw [wrap_in ht]
theorem k114 : FnOK Tryz.prog 114 Tryz.f114 := ⟨Tryz.func114, rfl, by kernel_rfl⟩
theorem c114 : ∀ args d, ent [33] (f1 fun x => some (.lit (.bool (isNum x)))) args = some d → CallOK Tryz.prog 114 args (mkRes Tryz.prog 4 d) :=
  ent1 k114 fun x d h _ => by
    cases h
    rw [n23]
    refine fn_ok hm env0 k114 ((t114 1 x).trans ?_)
    rw [m4]
    rfl

theorem env1 : EnvOK Tryz.prog (envOf T1) := (envOK_cons (envOK_cons (envOK_cons (envOK_cons (envOK_cons (envOK_cons (envOK_cons (envOK_cons (envOK_cons (envOK_cons (envOK_cons env0 c114) c107) c106) c105) c104) c112) c109) c115) c67) c95) c66)

end Go.Proofs.YtjgnknkbohlopaaGreat
