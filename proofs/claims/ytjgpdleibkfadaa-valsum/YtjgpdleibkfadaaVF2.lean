/- The laws of layer 1 that make slices, as facts of plain data. Nothing here is trusted. -/
import Derived.Test.YtjgpdleibkfadaaVL2
namespace Go.Proofs.Ytjgpdleibkfadaa
open Go.Ev
set_option linter.unusedVariables false
set_option linter.unusedSimpArgs false

theorem num_not {x : D} (h : (kk x == 0) = true) : isErr x = false ∧ isNul x = false := by
  have hm : mayB x = true := by unfold mayB; rw [h]; rfl
  unfold isErr isNul
  rw [may_read hm]
  have : kk x = 0 := by simpa using h
  rw [this]
  exact ⟨rfl, rfl⟩
theorem err_nul {x : D} (h : isErr x = true) : isNul x = false := by
  unfold isErr at h
  unfold isNul
  have : kk (readD x) = 2 := by simpa using h
  rw [this]
  rfl
theorem not_eq (x : D) : notD x = bif isErr x then vv 2 0 else bif isNul x then vv 1 0 else vv 0 (truthI (isFal x)) := by
  unfold notD ifNum
  simp only [List.any_cons, List.any_nil, Bool.or_false]
theorem not_err (x : D) : isErr (notD x) = isErr x := by
  rw [not_eq]
  cases isErr x <;> cases isNul x <;> rfl
theorem not_nul (x : D) : isNul (notD x) = isNul x := by
  rw [not_eq]
  cases h : isErr x <;> cases h2 : isNul x <;> try rfl
  rw [err_nul h] at h2
  cases h2
theorem not_tru (x : D) : isTru (notD x) = isFal x := by
  rw [not_eq]
  cases hf : isFal x with
  | true =>
    have hk : (kk x == 0) = true := by unfold isFal at hf; rw [Bool.and_eq_true] at hf; exact hf.1
    obtain ⟨h1, h2⟩ := num_not hk
    rw [h1, h2]
    rfl
  | false => cases isErr x <;> cases isNul x <;> rfl
theorem not_fal (x : D) : isFal (notD x) = isTru x := by
  rw [not_eq]
  cases hk : (kk x == 0) with
  | true =>
    obtain ⟨h1, h2⟩ := num_not hk
    rw [h1, h2]
    unfold isFal isTru
    rw [hk]
    show (true && (truthI (true && (nn x == 0)) == 0)) = (true && (nn x != 0))
    cases h : (nn x == 0)
    · simp [truthI, bne, h]
    · simp [truthI, bne, h]
  | false =>
    have ht : isTru x = false := by unfold isTru; rw [hk]; rfl
    have hf : isFal x = false := by unfold isFal; rw [hk]; rfl
    rw [ht, hf]
    cases h1 : isErr x with
    | true => rfl
    | false =>
      cases h2 : isNul x with
      | true => rfl
      | false => have := num_of h1 h2; rw [hk] at this; cases this

theorem any_not (p q : D → Bool) (h : ∀ x, p (notD x) = q x) (l : List D) : (l.map notD).any p = l.any q := by
  rw [List.any_map]
  congr 1
  funext x
  exact h x

theorem morgan1 (l : List D) : notD (andD l) = orD (l.map notD) := by
  unfold andD orD ifNum
  rw [any_not isTru isFal not_tru, any_not isErr isErr not_err, any_not isNul isNul not_nul]
  cases l.any isFal <;> cases l.any isErr <;> cases l.any isNul <;> rfl
theorem morgan2 (l : List D) : notD (orD l) = andD (l.map notD) := by
  unfold andD orD ifNum
  rw [any_not isFal isTru not_fal, any_not isErr isErr not_err, any_not isNul isNul not_nul]
  cases l.any isTru <;> cases l.any isErr <;> cases l.any isNul <;> rfl

theorem small_le {b : Nat} (h : b ≤ 2000) : decide (b + 1 ≤ 2147483648) = true := by simp; omega

theorem morgan_loop {N : Nat} {x : D} (hl : (elemsD x).length ≤ 1000) : ∀ (n i : Nat), i ≤ (elemsD x).length → (elemsD x).length - i < n → t7_lp6 Try.prog Try.f7 N n x (i : Int) (((elemsD x).take i).map notD) = TT := by
  intro n
  induction n with
  | zero => intros; omega
  | succ n ih =>
    intro i hi hn
    rw [t7_lp6_step]
    by_cases hlt : i < (elemsD x).length
    · have h1 : decide ((i : Int) < ((elemsD x).length : Int)) = true := by simpa using hlt
      have hlen : (((elemsD x).take i).map notD).length ≤ 2000 := by simp; omega
      rw [idx_ok hlt, h1, cond_true, cond_true, small_le hlen, cond_true, Int.toNat_natCast]
      have h2 : (elemsD x).getD i .nil = (elemsD x)[i] := by simp [List.getD, hlt]
      have h3 : ((elemsD x).take i).map notD ++ [notD (elemsD x)[i]] = ((elemsD x).take (i + 1)).map notD := by
        rw [List.take_succ_eq_append_getElem hlt, List.map_append]
        rfl
      rw [h2, h3, step_int (l := elemsD x) (by unfold maxLen; omega) hlt]
      exact ih (i + 1) (by omega) (by omega)
    · have h1 : decide ((i : Int) < ((elemsD x).length : Int)) = false := by simpa using hlt
      rw [h1, cond_false, List.take_of_length_le (by omega), ← morgan1, ← morgan2]
      simp only [beq_self_eq_true, Bool.and_self, Bool.and_true, cond_true]
      rfl

theorem g7 (x : D) : evFn Try.prog (envOf T8) t7_h ((elemsD x).length + 1) Try.f7 [dat 28 x] = TT := by
  rw [t7]
  by_cases h : (elemsD x).length ≤ 1000
  · have h1 : decide (((elemsD x).length : Int) > 1000) = false := by simp; omega
    rw [h1, cond_false]
    exact morgan_loop (N := (elemsD x).length + 1) h ((elemsD x).length + 1) 0 (Nat.zero_le _) (by omega)
  · have h1 : decide (((elemsD x).length : Int) > 1000) = true := by simp; omega
    rw [h1]
    rfl

/-! ### Turned -/
theorem and_rev (l : List D) : andD l.reverse = andD l := by unfold andD ifNum; rw [List.any_reverse, List.any_reverse, List.any_reverse]
theorem or_rev (l : List D) : orD l.reverse = orD l := by unfold orD ifNum; rw [List.any_reverse, List.any_reverse, List.any_reverse]
theorem sum_app (l m : List Int) : (l ++ m).sum = l.sum + m.sum := by
  induction l with
  | nil => simp
  | cons y l ih => rw [List.cons_append, List.sum_cons, List.sum_cons, ih]; omega
theorem total_rev (l : List D) : total l.reverse = total l := by
  unfold total
  induction l with
  | nil => rfl
  | cons y l ih => rw [List.reverse_cons, List.map_append, sum_app, ih, List.map_cons, List.sum_cons]; simp; omega
theorem sum_rev (l : List D) : sumD l.reverse = sumD l := by unfold sumD; rw [List.any_reverse, List.any_reverse, total_rev]

theorem turned_loop {N : Nat} {x : D} (hl : (elemsD x).length ≤ 1000) : ∀ (n i : Nat), i ≤ (elemsD x).length → i < n → t8_lp6 Try.prog Try.f8 N n x (i : Int) (((elemsD x).drop i).reverse) = TT := by
  intro n
  induction n with
  | zero => intros; omega
  | succ n ih =>
    intro i hi hn
    rw [t8_lp6_step]
    cases i with
    | succ i =>
      have h1 : decide (((i + 1 : Nat) : Int) > 0) = true := by rw [decide_eq_true_eq]; omega
      have hw : IntKind.wrap .i64 (((i + 1 : Nat) : Int) - 1) = (i : Int) := by
        rw [wrap_in]
        · omega
        · rw [inR_iff]; omega
      have hlen : (((elemsD x).drop (i + 1)).reverse).length ≤ 2000 := by simp; omega
      rw [h1, hw, idx_ok (show i < (elemsD x).length by omega), cond_true, cond_true, small_le hlen, cond_true, Int.toNat_natCast]
      have h2 : (elemsD x).getD i .nil = (elemsD x)[i] := by simp [List.getD, show i < (elemsD x).length by omega]
      have h3 : ((elemsD x).drop (i + 1)).reverse ++ [(elemsD x)[i]] = ((elemsD x).drop i).reverse := by
        rw [List.drop_eq_getElem_cons (show i < (elemsD x).length by omega), List.reverse_cons]
      rw [h2, h3]
      exact ih i (by omega) (by omega)
    | zero =>
      have h1 : decide (((0 : Nat) : Int) > 0) = false := by decide
      rw [h1, cond_false, List.drop_zero, and_rev, or_rev, sum_rev]
      simp only [beq_self_eq_true, Bool.and_self, Bool.and_true, cond_true]
      rfl

theorem g8 (x : D) : evFn Try.prog (envOf T8) t8_h ((elemsD x).length + 1) Try.f8 [dat 28 x] = TT := by
  rw [t8]
  by_cases h : (elemsD x).length ≤ 1000
  · have h1 : decide (((elemsD x).length : Int) > 1000) = false := by simp; omega
    rw [h1, cond_false]
    have := turned_loop (N := (elemsD x).length + 1) h ((elemsD x).length + 1) (elemsD x).length (Nat.le_refl _) (by omega)
    rw [List.drop_length] at this
    exact this
  · have h1 : decide (((elemsD x).length : Int) > 1000) = true := by simp; omega
    rw [h1]
    rfl

/-! ### One by one -/
def numV (y : D) : D := vv 0 (intD y)
theorem num_err (l : List D) : (l.map numV).any isErr = false := by
  induction l with
  | nil => rfl
  | cons y l ih => rw [List.map_cons, List.any_cons, ih]; rfl
theorem total_num (l : List D) : total (l.map numV) = (l.map intD).sum := by
  unfold total
  rw [List.map_map]
  rfl
theorem sum_num (l : List D) (hne : l ≠ []) (h : inR ((l.map intD).sum) = true) : sumD (l.map numV) = vv 0 (l.map intD).sum := by
  unfold sumD
  have hn : (l.map numV).any isNum = true := by
    cases l with
    | nil => exact absurd rfl hne
    | cons y l => rfl
  rw [num_err, hn, total_num, h]
  rfl

theorem small_add {b : Nat} (h : b ≤ 100) : decide (b + 1 ≤ 2147483648) = true := by simp; omega

theorem sum1_loop {N : Nat} {x : D} (hl : (elemsD x).length ≤ 100) : ∀ (n i : Nat), i ≤ (elemsD x).length → (elemsD x).length - i < n →
    -(i : Int) * 1125899906842624 ≤ (((elemsD x).take i).map intD).sum → (((elemsD x).take i).map intD).sum ≤ (i : Int) * 1125899906842624 →
    (0 < i → inR (intD ((elemsD x).getD 0 .nil)) = true) →
    t9_lp7 Try.prog Try.f9 N n x (i : Int) (vv 0 (((elemsD x).take i).map intD).sum) (((elemsD x).take i).map numV) = TT := by
  intro n
  induction n with
  | zero => intros; omega
  | succ n ih =>
    intro i hi hn hs1 hs2 hz
    rw [t9_lp7_step]
    by_cases hlt : i < (elemsD x).length
    · have h1 : decide ((i : Int) < ((elemsD x).length : Int)) = true := by simpa using hlt
      have hlen : (((elemsD x).take i).map numV).length ≤ 100 := by simp; omega
      have h2 : (elemsD x).getD i .nil = (elemsD x)[i] := by simp [List.getD, hlt]
      rw [idx_ok hlt, h1, cond_true, cond_true, cond_true, cond_true, cond_true, small_add hlen, cond_true, Int.toNat_natCast, h2]
      by_cases c1 : intD (elemsD x)[i] > 1125899906842624
      · have d1 : decide (intD (elemsD x)[i] > 1125899906842624) = true := by simpa using c1
        rw [d1]
        rfl
      · have d1 : decide (intD (elemsD x)[i] > 1125899906842624) = false := by simpa using c1
        by_cases c2 : intD (elemsD x)[i] < -1125899906842624
        · have d2 : decide (intD (elemsD x)[i] < (-1125899906842624)) = true := by simpa using c2
          rw [d1, d2]
          rfl
        · have d2 : decide (intD (elemsD x)[i] < (-1125899906842624)) = false := by simpa using c2
          have h3 : (elemsD x).take (i + 1) = (elemsD x).take i ++ [(elemsD x)[i]] := List.take_succ_eq_append_getElem hlt
          have h4 : (((elemsD x).take (i + 1)).map intD).sum = (((elemsD x).take i).map intD).sum + intD (elemsD x)[i] := by
            rw [h3, List.map_append, sum_app]
            simp
          have h5 : ((elemsD x).take i).map numV ++ [vv 0 (intD (elemsD x)[i])] = ((elemsD x).take (i + 1)).map numV := by
            rw [h3, List.map_append]
            rfl
          have hin : inR ((((elemsD x).take i).map intD).sum + intD (elemsD x)[i]) = true := by rw [inR_iff]; omega
          rw [d1, d2, vdef, add0, hin, h5, step_int (l := elemsD x) (by unfold maxLen; omega) hlt, cond_true, ← h4]
          refine Eq.trans ?_ (ih (i + 1) (by omega) (by omega) (by rw [h4]; omega) (by rw [h4]; omega) (fun _ => ?_))
          · rfl
          · cases i with
            | zero => rw [h2, inR_iff]; omega
            | succ i => exact hz (by omega)
    · have h1 : decide ((i : Int) < ((elemsD x).length : Int)) = false := by simpa using hlt
      have hi' : i = (elemsD x).length := by omega
      subst hi'
      rw [h1, cond_false]
      cases hx : elemsD x with
      | nil => rfl
      | cons y l =>
        rw [hx] at hs1 hs2 hz hl
        have hne : (((y :: l).length : Int) == 0) = false := by simp; omega
        rw [hne, cond_false, List.take_length]
        rw [List.take_length] at hs1 hs2
        have hlc : ((y :: l).length : Int) ≤ 100 := by omega
        have hin : inR (((y :: l).map intD).sum) = true := by rw [inR_iff]; omega
        rw [sum_num (y :: l) (by simp) hin]
        have hg : ((y :: l).map numV).getD 0 .nil = numV y := rfl
        have hlt2 : decide ((0 : Int) < (((y :: l).map numV).length : Int)) = true := by rw [decide_eq_true_eq, List.length_map, List.length_cons]; omega
        have h00 : decide (0 ≤ (0 : Int)) = true := by decide
        have hy : inR (intD y) = true := hz (by simp)
        have hone : sumD [numV y] = vv 0 (intD y) := by
          have := sum_num [y] (by simp) (by simpa using hy)
          simpa using this
        rw [hg, hlt2, h00, hone]
        simp only [beq_self_eq_true, Bool.and_self, Bool.and_true, cond_true]
        show some (dat 4 (.lit (.bool (((0 : Int) == 0) && (intD y == intD y))))) = TT
        rw [beq_self_eq_true, beq_self_eq_true]
        rfl

theorem g9 (x : D) : evFn Try.prog (envOf T8) t9_h ((elemsD x).length + 1) Try.f9 [dat 37 x] = TT := by
  rw [t9]
  by_cases h : (elemsD x).length ≤ 100
  · have h1 : decide (((elemsD x).length : Int) > 100) = false := by simp; omega
    rw [h1, cond_false]
    exact sum1_loop (N := (elemsD x).length + 1) h ((elemsD x).length + 1) 0 (Nat.zero_le _) (by omega) (by simp) (by simp) (by omega)
  · have h1 : decide (((elemsD x).length : Int) > 100) = true := by simp; omega
    rw [h1]
    rfl

end Go.Proofs.Ytjgpdleibkfadaa
