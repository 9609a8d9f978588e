/- Layer 1, the rest of its functions. Nothing here is trusted. -/
import Derived.Test.YtjofcicaoofijaaVP
namespace Go.Proofs.Ytjofcicaoofijaa
open Go.Ev
set_option linter.unusedVariables false
set_option linter.unusedSimpArgs false

/-- A value that counts as it stands, by cases. -/
theorem read_cases (k m : Int) : (k = 0 ∧ readD (vv k m) = vv 0 m) ∨ (k = 1 ∧ m = 0 ∧ readD (vv k m) = vv 1 0) ∨ (k ≠ 0 ∧ ¬ (k = 1 ∧ m = 0) ∧ readD (vv k m) = vv 2 0) := by
  by_cases h0 : k = 0
  · subst h0; exact .inl ⟨rfl, rfl⟩
  · by_cases h1 : k = 1 ∧ m = 0
    · obtain ⟨rfl, rfl⟩ := h1; exact .inr (.inl ⟨rfl, rfl, rfl⟩)
    · refine .inr (.inr ⟨h0, h1, ?_⟩)
      unfold readD mayB
      rw [kk_vv, nn_vv]
      have e0 : (k == 0) = false := by simpa using h0
      rw [e0]
      by_cases h2 : k = 2 ∧ m = 0
      · obtain ⟨rfl, rfl⟩ := h2; rfl
      · have : (false || (k == 1 || k == 2) && m == 0) = false := by
          simp
          omega
        rw [this]
        rfl

theorem kk_read (x : D) : (kk (readD x) == 2) = isErr x := rfl

theorem idx_ok {i n : Nat} (h : i < n) : (decide (0 ≤ (i : Int)) && decide ((i : Int) < (n : Int))) = true := by simp [h]

/-- A loop that looks for one of a list. -/
theorem any_loop (LP : Nat → Int → Option AV) (l : List D) (p : D → Bool) (T F : Option AV) (hl : l.length ≤ maxLen)
    (hstep : ∀ (n : Nat) (v : Int), LP (n + 1) v = bif decide (v < (l.length : Int)) then
      bif (decide (0 ≤ v) && decide (v < (l.length : Int))) then bif p (l.getD (v).toNat .nil) then T else LP n (IntKind.wrap .i64 (v + 1)) else none else F) :
    ∀ (n i : Nat), i ≤ l.length → l.length - i < n → LP n (i : Int) = bif (l.drop i).any p then T else F
  | 0, i, _, h => by omega
  | n + 1, i, hi, h => by
    rw [hstep]
    by_cases hlt : i < l.length
    · have h1 : decide ((i : Int) < (l.length : Int)) = true := by simpa using hlt
      rw [idx_ok hlt, h1, cond_true, cond_true, List.drop_eq_getElem_cons hlt, List.any_cons, Int.toNat_natCast]
      have h2 : l.getD i .nil = l[i] := by simp [List.getD, hlt]
      rw [h2]
      have hw : IntKind.wrap .i64 ((i : Int) + 1) = ((i + 1 : Nat) : Int) := by
        rw [wrap_in]
        · omega
        · rw [inR_iff]; unfold maxLen at hl; omega
      rw [hw, any_loop LP l p T F hl hstep n (i + 1) (by omega) (by omega)]
      cases p l[i] <;> rfl
    · have h1 : decide ((i : Int) < (l.length : Int)) = false := by simpa using hlt
      have h2 : l.drop i = [] := List.drop_of_length_le (by omega)
      rw [h1, h2, cond_false]
      rfl

theorem elems_len {n : Nat} {x : D} (hx : Ty Try.prog n 32 x) : (elemsD x).length ≤ maxLen := by
  obtain ⟨es, rfl, hl, _⟩ := ty28 hx
  exact hl

/-! ### T2 -/
theorem k44 : FnOK Try.prog 44 Try.f44 := ⟨Try.func44, rfl, by kernel_rfl⟩
theorem c44 : ∀ args d, ent [34] (f1 fun x => some (readD x)) args = some d → CallOK Try.prog 44 args (mkRes Try.prog 34 d) :=
  ent1 k44 fun x d h _ => by
    cases h
    rw [n23]
    refine fn_ok hm env1 k44 ((t44 1 x).trans ?_)
    rw [m23]
    unfold readD
    cases mayB x <;> rfl
theorem env2 : EnvOK Try.prog (envOf T2) := (envOK_cons env1 c44)

/-! ### T3 -/
theorem k38 : FnOK Try.prog 38 Try.f38 := ⟨Try.func38, rfl, by kernel_rfl⟩
theorem c38 : ∀ args d, ent [34] (f1 fun x => some (.lit (.bool (isErr x)))) args = some d → CallOK Try.prog 38 args (mkRes Try.prog 4 d) :=
  ent1 k38 fun x d h _ => by
    cases h
    rw [n23]
    refine fn_ok hm env2 k38 ((t38 1 x).trans ?_)
    rw [m4]
    rfl
theorem k35 : FnOK Try.prog 35 Try.f35 := ⟨Try.func35, rfl, by kernel_rfl⟩
theorem c35 : ∀ args d, ent [34, 34] (f2 fun x y => some (.lit (.bool (lessB x y)))) args = some d → CallOK Try.prog 35 args (mkRes Try.prog 4 d) :=
  ent2 k35 fun x y d h _ _ => by
    cases h
    rw [n23, n23]
    refine fn_ok hm env2 k35 ((t35 1 x y).trans ?_)
    rw [m4]
    simp only [boolD]
    unfold lessB kk nn
    cases decide (intD (fieldD (readD x) 0) < intD (fieldD (readD y) 0)) <;> cases (intD (fieldD (readD x) 0) == intD (fieldD (readD y) 0)) <;> rfl
theorem env3 : EnvOK Try.prog (envOf T3) := (envOK_cons (envOK_cons env2 c35) c38)

/-! ### T4 -/
theorem some_53 {n : Nat} {x : D} (hx : Ty Try.prog n 32 x) : evFn Try.prog (envOf T3) t37_38_h ((elemsD x).length + 1) Try.f37 [dat 32 x, dat 62 (.held (.func (.func 38) #[] #[]))] = some (dat 4 (.lit (.bool ((elemsD x).any isErr)))) := by
  rw [t37_38]
  have h := any_loop (fun n v => t37_38_lp2 Try.prog Try.f37 ((elemsD x).length + 1) n x v) (elemsD x) isErr (some (dat 4 (.lit (.bool true)))) (some (dat 4 (.lit (.bool false)))) (elems_len hx)
    (fun n v => t37_38_lp2_step ((elemsD x).length + 1) n x v) ((elemsD x).length + 1) 0 (Nat.zero_le _) (by omega)
  rw [List.drop_zero] at h
  refine Eq.trans h ?_
  cases (elemsD x).any isErr <;> rfl
theorem some_55 {n : Nat} {x : D} (hx : Ty Try.prog n 32 x) : evFn Try.prog (envOf T3) t37_40_h ((elemsD x).length + 1) Try.f37 [dat 32 x, dat 62 (.held (.func (.func 40) #[] #[]))] = some (dat 4 (.lit (.bool ((elemsD x).any isNum)))) := by
  rw [t37_40]
  have h := any_loop (fun n v => t37_40_lp2 Try.prog Try.f37 ((elemsD x).length + 1) n x v) (elemsD x) isNum (some (dat 4 (.lit (.bool true)))) (some (dat 4 (.lit (.bool false)))) (elems_len hx)
    (fun n v => t37_40_lp2_step ((elemsD x).length + 1) n x v) ((elemsD x).length + 1) 0 (Nat.zero_le _) (by omega)
  rw [List.drop_zero] at h
  refine Eq.trans h ?_
  cases (elemsD x).any isNum <;> rfl
theorem k37 : FnOK Try.prog 37 Try.f37 := ⟨Try.func37, rfl, by kernel_rfl⟩
theorem ty25 {n : Nat} {x : D} {t : TypeId} {p q : Array TypeId} {r : Bool} {f : FuncId} (hu : Try.prog.underlying t = some (.func p q r)) (h : Ty Try.prog n t x) (hf : fnD x = some f) : x = .held (.func (.func f) #[] #[]) := by
  cases n with
  | zero => exact h.elim
  | succ n =>
    unfold Ty at h
    rw [hu] at h
    split at h <;> try (exact h.elim)
    all_goals try (simp_all; done)
    rename_i v heq
    rcases h with rfl | ⟨g, rfl⟩
    · simp [fnD] at hf
    · simp only [fnD, Option.some.injEq] at hf
      rw [hf]

theorem c37 : ∀ args d, e37.2.2.2 args = some d → CallOK Try.prog 37 args (mkRes Try.prog 4 d) :=
  ent2 k37 fun x y d h ⟨_, hx⟩ ⟨_, hy⟩ => by
    rw [n28, n25]
    split at h
    · rename_i hf
      cases h
      rw [ty25 u25 hy hf]
      refine fn_ok hm env3 k37 ((some_53 hx).trans ?_)
      rw [m4]
      rfl
    · rename_i hf
      cases h
      rw [ty25 u25 hy hf]
      refine fn_ok hm env3 k37 ((some_55 hx).trans ?_)
      rw [m4]
      rfl
    · cases h

/-- Of values that may be, an error is the one that is read as such. -/
theorem err_read {y : D} (hy : ∃ k m, y = vv k m ∧ inR k = true ∧ inR m = true) (h : (kk (readD y) == 2) = true) : readD y = vv 2 0 := by
  obtain ⟨k, m, rfl, _, _⟩ := hy
  rcases read_cases k m with ⟨_, e⟩ | ⟨_, _, e⟩ | ⟨_, _, e⟩
  · rw [e] at h; simp [kk_vv] at h
  · rw [e] at h; simp [kk_vv] at h
  · exact e

theorem env4 : EnvOK Try.prog (envOf T4) := (envOK_cons env3 c37)

end Go.Proofs.Ytjofcicaoofijaa
