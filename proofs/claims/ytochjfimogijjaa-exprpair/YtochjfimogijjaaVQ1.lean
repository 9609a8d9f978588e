/- Layer 1, the rest of its functions. Nothing here is trusted. -/
import Derived.Test.YtochjfimogijjaaVP
namespace Go.Proofs.Ytochjfimogijjaa
open Go.Ev
set_option linter.unusedVariables false
set_option linter.unusedSimpArgs false

/-- A value that counts as it stands, by cases. -/
theorem read_cases (k m : Int) : (k = 0 ∧ readD (vv k m) = vv 0 m) ∨ (k = 1 ∧ m = 0 ∧ readD (vv k m) = vv 1 0) ∨ (k ≠ 0 ∧ ¬ (k = 1 ∧ m = 0) ∧ readD (vv k m) = vv 2 0) := by
  by_cases h0 : k = 0
  · subst h0; exact .inl ⟨rfl, rfl⟩
  · by_cases h1 : k = 1 ∧ m = 0
    · obtain ⟨rfl, rfl⟩ := h1; exact .inr (.inl ⟨rfl, rfl, rfl⟩)
    · refine .inr (.inr ⟨h0, h1, ?_⟩)
      unfold readD mayB
      rw [kk_vv, nn_vv]
      have e0 : (k == 0) = false := by simpa using h0
      rw [e0]
      by_cases h2 : k = 2 ∧ m = 0
      · obtain ⟨rfl, rfl⟩ := h2; rfl
      · have : (false || (k == 1 || k == 2) && m == 0) = false := by
          simp
          omega
        rw [this]
        rfl

theorem kk_read (x : D) : (kk (readD x) == 2) = isErr x := rfl

theorem idx_ok {i n : Nat} (h : i < n) : (decide (0 ≤ (i : Int)) && decide ((i : Int) < (n : Int))) = true := by simp [h]

/-- A loop that looks for one of a list. -/
theorem any_loop (LP : Nat → Int → Option AV) (l : List D) (p : D → Bool) (T F : Option AV) (hl : l.length ≤ maxLen)
    (hstep : ∀ (n : Nat) (v : Int), LP (n + 1) v = bif decide (v < (l.length : Int)) then
      bif (decide (0 ≤ v) && decide (v < (l.length : Int))) then bif p (l.getD (v).toNat .nil) then T else LP n (IntKind.wrap .i64 (v + 1)) else none else F) :
    ∀ (n i : Nat), i ≤ l.length → l.length - i < n → LP n (i : Int) = bif (l.drop i).any p then T else F
  | 0, i, _, h => by omega
  | n + 1, i, hi, h => by
    rw [hstep]
    by_cases hlt : i < l.length
    · have h1 : decide ((i : Int) < (l.length : Int)) = true := by simpa using hlt
      rw [idx_ok hlt, h1, cond_true, cond_true, List.drop_eq_getElem_cons hlt, List.any_cons, Int.toNat_natCast]
      have h2 : l.getD i .nil = l[i] := by simp [List.getD, hlt]
      rw [h2]
      have hw : IntKind.wrap .i64 ((i : Int) + 1) = ((i + 1 : Nat) : Int) := by
        rw [wrap_in]
        · omega
        · rw [inR_iff]; unfold maxLen at hl; omega
      rw [hw, any_loop LP l p T F hl hstep n (i + 1) (by omega) (by omega)]
      cases p l[i] <;> rfl
    · have h1 : decide ((i : Int) < (l.length : Int)) = false := by simpa using hlt
      have h2 : l.drop i = [] := List.drop_of_length_le (by omega)
      rw [h1, h2, cond_false]
      rfl

theorem elems_len {n : Nat} {x : D} (hx : Ty Try.prog n 28 x) : (elemsD x).length ≤ maxLen := by
  obtain ⟨es, rfl, hl, _⟩ := ty28 hx
  exact hl

/-! ### T2 -/
theorem k105 : FnOK Try.prog 105 Try.f105 := ⟨Try.func105, rfl, by kernel_rfl⟩
theorem c105 : ∀ args d, ent [23] (f1 fun x => some (readD x)) args = some d → CallOK Try.prog 105 args (mkRes Try.prog 23 d) :=
  ent1 k105 fun x d h _ => by
    cases h
    rw [n23]
    refine fn_ok hm env1 k105 ((t105 1 x).trans ?_)
    rw [m23]
    unfold readD
    cases mayB x <;> rfl
theorem k93 : FnOK Try.prog 93 Try.f93 := ⟨Try.func93, rfl, by kernel_rfl⟩
theorem c93 : ∀ args d, ent [23] (f1 fun x => some (readD x)) args = some d → CallOK Try.prog 93 args (mkRes Try.prog 23 d) :=
  ent1 k93 fun x d h _ => by
    cases h
    rw [n23]
    refine fn_ok hm env1 k93 ((t93 1 x).trans ?_)
    rw [m23]
    unfold readD
    cases mayB x <;> rfl
theorem k89 : FnOK Try.prog 89 Try.f89 := ⟨Try.func89, rfl, by kernel_rfl⟩
theorem c89 : ∀ args d, ent [23] (f1 fun x => some (.lit (.bool (isFal x)))) args = some d → CallOK Try.prog 89 args (mkRes Try.prog 4 d) :=
  ent1 k89 fun x d h _ => by
    cases h
    rw [n23]
    refine fn_ok hm env1 k89 ((t89 1 x).trans ?_)
    rw [m4, Bool.and_true]
    rfl
theorem env2 : EnvOK Try.prog (envOf T2) := (envOK_cons (envOK_cons (envOK_cons env1 c89) c93) c105)

/-! ### T3 -/
theorem k102 : FnOK Try.prog 102 Try.f102 := ⟨Try.func102, rfl, by kernel_rfl⟩
theorem c102 : ∀ args d, ent [23] (f1 fun x => some (.lit (.bool (isErr x)))) args = some d → CallOK Try.prog 102 args (mkRes Try.prog 4 d) :=
  ent1 k102 fun x d h _ => by
    cases h
    rw [n23]
    refine fn_ok hm env2 k102 ((t102 1 x).trans ?_)
    rw [m4]
    rfl
theorem k103 : FnOK Try.prog 103 Try.f103 := ⟨Try.func103, rfl, by kernel_rfl⟩
theorem c103 : ∀ args d, ent [23] (f1 fun x => some (.lit (.bool (isNul x)))) args = some d → CallOK Try.prog 103 args (mkRes Try.prog 4 d) :=
  ent1 k103 fun x d h _ => by
    cases h
    rw [n23]
    refine fn_ok hm env2 k103 ((t103 1 x).trans ?_)
    rw [m4]
    rfl
theorem k69 : FnOK Try.prog 69 Try.f69 := ⟨Try.func69, rfl, by kernel_rfl⟩
theorem c69 : ∀ args d, ent [23] (f1 fun x => some (notD x)) args = some d → CallOK Try.prog 69 args (mkRes Try.prog 23 d) :=
  ent1 k69 fun x d h ⟨_, hx⟩ => by
    cases h
    rw [n23]
    refine fn_ok hm env2 k69 ((t69 1 x).trans ?_)
    rw [m23]
    obtain ⟨k, m, rfl, _, _⟩ := ty23 hx
    simp only [notD, ifNum, List.any_cons, List.any_nil, Bool.or_false, isErr, isNul]
    rcases read_cases k m with ⟨h0, e⟩ | ⟨_, _, e⟩ | ⟨_, _, e⟩ <;> rw [e]
    · subst h0
      rfl
    · rfl
    · rfl
theorem env3 : EnvOK Try.prog (envOf T3) := (envOK_cons (envOK_cons (envOK_cons env2 c69) c103) c102)

/-! ### T4 -/
theorem some_52 {n : Nat} {x : D} (hx : Ty Try.prog n 28 x) : evFn Try.prog (envOf T3) t88_89_h ((elemsD x).length + 1) Try.f88 [dat 28 x, dat 42 (.held (.func (.func 89) #[] #[]))] = some (dat 4 (.lit (.bool ((elemsD x).any isFal)))) := by
  rw [t88_89]
  have h := any_loop (fun n v => t88_89_lp2 Try.prog Try.f88 ((elemsD x).length + 1) n x v) (elemsD x) isFal (some (dat 4 (.lit (.bool true)))) (some (dat 4 (.lit (.bool false)))) (elems_len hx)
    (fun n v => t88_89_lp2_step ((elemsD x).length + 1) n x v) ((elemsD x).length + 1) 0 (Nat.zero_le _) (by omega)
  rw [List.drop_zero] at h
  refine Eq.trans h ?_
  cases (elemsD x).any isFal <;> rfl
theorem some_36 {n : Nat} {x : D} (hx : Ty Try.prog n 28 x) : evFn Try.prog (envOf T3) t88_42_h ((elemsD x).length + 1) Try.f88 [dat 28 x, dat 42 (.held (.func (.func 42) #[] #[]))] = some (dat 4 (.lit (.bool ((elemsD x).any isTru)))) := by
  rw [t88_42]
  have h := any_loop (fun n v => t88_42_lp2 Try.prog Try.f88 ((elemsD x).length + 1) n x v) (elemsD x) isTru (some (dat 4 (.lit (.bool true)))) (some (dat 4 (.lit (.bool false)))) (elems_len hx)
    (fun n v => t88_42_lp2_step ((elemsD x).length + 1) n x v) ((elemsD x).length + 1) 0 (Nat.zero_le _) (by omega)
  rw [List.drop_zero] at h
  refine Eq.trans h ?_
  cases (elemsD x).any isTru <;> rfl
theorem some_53 {n : Nat} {x : D} (hx : Ty Try.prog n 28 x) : evFn Try.prog (envOf T3) t88_102_h ((elemsD x).length + 1) Try.f88 [dat 28 x, dat 42 (.held (.func (.func 102) #[] #[]))] = some (dat 4 (.lit (.bool ((elemsD x).any isErr)))) := by
  rw [t88_102]
  have h := any_loop (fun n v => t88_102_lp2 Try.prog Try.f88 ((elemsD x).length + 1) n x v) (elemsD x) isErr (some (dat 4 (.lit (.bool true)))) (some (dat 4 (.lit (.bool false)))) (elems_len hx)
    (fun n v => t88_102_lp2_step ((elemsD x).length + 1) n x v) ((elemsD x).length + 1) 0 (Nat.zero_le _) (by omega)
  rw [List.drop_zero] at h
  refine Eq.trans h ?_
  cases (elemsD x).any isErr <;> rfl
theorem some_55 {n : Nat} {x : D} (hx : Ty Try.prog n 28 x) : evFn Try.prog (envOf T3) t88_100_h ((elemsD x).length + 1) Try.f88 [dat 28 x, dat 42 (.held (.func (.func 100) #[] #[]))] = some (dat 4 (.lit (.bool ((elemsD x).any isNum)))) := by
  rw [t88_100]
  have h := any_loop (fun n v => t88_100_lp2 Try.prog Try.f88 ((elemsD x).length + 1) n x v) (elemsD x) isNum (some (dat 4 (.lit (.bool true)))) (some (dat 4 (.lit (.bool false)))) (elems_len hx)
    (fun n v => t88_100_lp2_step ((elemsD x).length + 1) n x v) ((elemsD x).length + 1) 0 (Nat.zero_le _) (by omega)
  rw [List.drop_zero] at h
  refine Eq.trans h ?_
  cases (elemsD x).any isNum <;> rfl
theorem some_56 {n : Nat} {x : D} (hx : Ty Try.prog n 28 x) : evFn Try.prog (envOf T3) t88_103_h ((elemsD x).length + 1) Try.f88 [dat 28 x, dat 42 (.held (.func (.func 103) #[] #[]))] = some (dat 4 (.lit (.bool ((elemsD x).any isNul)))) := by
  rw [t88_103]
  have h := any_loop (fun n v => t88_103_lp2 Try.prog Try.f88 ((elemsD x).length + 1) n x v) (elemsD x) isNul (some (dat 4 (.lit (.bool true)))) (some (dat 4 (.lit (.bool false)))) (elems_len hx)
    (fun n v => t88_103_lp2_step ((elemsD x).length + 1) n x v) ((elemsD x).length + 1) 0 (Nat.zero_le _) (by omega)
  rw [List.drop_zero] at h
  refine Eq.trans h ?_
  cases (elemsD x).any isNul <;> rfl
theorem k88 : FnOK Try.prog 88 Try.f88 := ⟨Try.func88, rfl, by kernel_rfl⟩
theorem ty25 {n : Nat} {x : D} {t : TypeId} {p q : Array TypeId} {r : Bool} {f : FuncId} (hu : Try.prog.underlying t = some (.func p q r)) (h : Ty Try.prog n t x) (hf : fnD x = some f) : x = .held (.func (.func f) #[] #[]) := by
  cases n with
  | zero => exact h.elim
  | succ n =>
    unfold Ty at h
    rw [hu] at h
    split at h <;> try (exact h.elim)
    all_goals try (simp_all; done)
    rename_i v heq
    rcases h with rfl | ⟨g, rfl⟩
    · simp [fnD] at hf
    · simp only [fnD, Option.some.injEq] at hf
      rw [hf]

theorem c88 : ∀ args d, e88.2.2.2 args = some d → CallOK Try.prog 88 args (mkRes Try.prog 4 d) :=
  ent2 k88 fun x y d h ⟨_, hx⟩ ⟨_, hy⟩ => by
    rw [n28, n25]
    split at h
    · rename_i hf
      cases h
      rw [ty25 u25 hy hf]
      refine fn_ok hm env3 k88 ((some_52 hx).trans ?_)
      rw [m4]
      rfl
    · rename_i hf
      cases h
      rw [ty25 u25 hy hf]
      refine fn_ok hm env3 k88 ((some_36 hx).trans ?_)
      rw [m4]
      rfl
    · rename_i hf
      cases h
      rw [ty25 u25 hy hf]
      refine fn_ok hm env3 k88 ((some_53 hx).trans ?_)
      rw [m4]
      rfl
    · rename_i hf
      cases h
      rw [ty25 u25 hy hf]
      refine fn_ok hm env3 k88 ((some_55 hx).trans ?_)
      rw [m4]
      rfl
    · rename_i hf
      cases h
      rw [ty25 u25 hy hf]
      refine fn_ok hm env3 k88 ((some_56 hx).trans ?_)
      rw [m4]
      rfl
    · cases h

/-- Of values that may be, an error is the one that is read as such. -/
theorem err_read {y : D} (hy : ∃ k m, y = vv k m ∧ inR k = true ∧ inR m = true) (h : (kk (readD y) == 2) = true) : readD y = vv 2 0 := by
  obtain ⟨k, m, rfl, _, _⟩ := hy
  rcases read_cases k m with ⟨_, e⟩ | ⟨_, _, e⟩ | ⟨_, _, e⟩
  · rw [e] at h; simp [kk_vv] at h
  · rw [e] at h; simp [kk_vv] at h
  · exact e

theorem odd_loop {N : Nat} {x : D} (hl : (elemsD x).length ≤ maxLen) (hall : ∀ y ∈ elemsD x, ∃ k m, y = vv k m ∧ inR k = true ∧ inR m = true) : ∀ (n i : Nat) (b : Bool), i ≤ (elemsD x).length → (elemsD x).length - i < n →
    t90_lp3 Try.prog Try.f90 N n x b (i : Int) = bif ((elemsD x).drop i).any isErr then some (tupA [23, 4] (.agg [vv 2 0, .lit (.bool true)])) else some (tupA [23, 4] (.agg [vv 1 0, .lit (.bool (b || ((elemsD x).drop i).any isNul))]))
  | 0, i, _, _, h => by omega
  | n + 1, i, b, hi, h => by
    rw [t90_lp3_step]
    by_cases hlt : i < (elemsD x).length
    · have h1 : decide ((i : Int) < ((elemsD x).length : Int)) = true := by simpa using hlt
      rw [idx_ok hlt, h1, cond_true, cond_true, List.drop_eq_getElem_cons hlt, List.any_cons, List.any_cons, Int.toNat_natCast]
      have h2 : (elemsD x).getD i .nil = (elemsD x)[i] := by simp [List.getD, hlt]
      rw [h2]
      have hw : IntKind.wrap .i64 ((i : Int) + 1) = ((i + 1 : Nat) : Int) := by
        rw [wrap_in]
        · omega
        · rw [inR_iff]; unfold maxLen at hl; omega
      rw [hw]
      have hy := hall (elemsD x)[i] (List.getElem_mem hlt)
      generalize (elemsD x)[i] = y at *
      cases he : isErr y with
      | true =>
        have he' : (intD (fieldD (readD y) 0) == 2) = true := he
        rw [he', cond_true, err_read hy he]
        rfl
      | false =>
        have he' : (intD (fieldD (readD y) 0) == 2) = false := he
        have hn : (intD (fieldD (readD y) 0) == 1) = isNul y := rfl
        rw [he', cond_false, hn, odd_loop hl hall n (i + 1) _ (by omega) (by omega), odd_loop hl hall n (i + 1) _ (by omega) (by omega)]
        cases b <;> cases isNul y <;> rfl
    · have h1 : decide ((i : Int) < ((elemsD x).length : Int)) = false := by simpa using hlt
      have h2 : (elemsD x).drop i = [] := List.drop_of_length_le (by omega)
      rw [h1, h2, cond_false]
      cases b <;> rfl

theorem k90 : FnOK Try.prog 90 Try.f90 := ⟨Try.func90, rfl, by kernel_rfl⟩
theorem c90 : ∀ args d, e90.2.2.2 args = some d → CallOK Try.prog 90 args (mkRes Try.prog 84 d) :=
  ent1 k90 fun x d h ⟨_, hx⟩ => by
    cases h
    rw [n28]
    have hall : ∀ y ∈ elemsD x, ∃ k m, y = vv k m ∧ inR k = true ∧ inR m = true := by
      obtain ⟨es, rfl, _, hall⟩ := ty28 hx
      exact hall
    refine fn_ok (fuel := (elemsD x).length + 1) hm env3 k90 ((t90 ((elemsD x).length + 1) x).trans ?_)
    have := odd_loop (N := (elemsD x).length + 1) (elems_len hx) hall ((elemsD x).length + 1) 0 false (Nat.zero_le _) (by omega)
    refine Eq.trans this ?_
    rw [m41, List.drop_zero]
    unfold oddD oddB
    cases (elemsD x).any isErr <;> rfl

theorem env4 : EnvOK Try.prog (envOf T4) := (envOK_cons (envOK_cons env3 c90) c88)

end Go.Proofs.Ytochjfimogijjaa
