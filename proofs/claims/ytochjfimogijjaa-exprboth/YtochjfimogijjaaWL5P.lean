/- ExprBoth: what a call answers. Nothing here is trusted. -/
import Derived.Test.YtochjfimogijjaaWX
import Derived.Test.YtochjfimogijjaaWL5
namespace Go.Proofs.Ytochjfimogijjaa
open Go.Ev
set_option linter.unusedVariables false
set_option linter.unusedSimpArgs false

def andE (x y : D) : D := .agg [.lit (.int .i64 8), .lit (.int .i64 0), .agg [.lit (.int .i64 0), .lit (.int .i64 0)], .slice [x, y] []]
def orE (x y : D) : D := .agg [.lit (.int .i64 9), .lit (.int .i64 0), .agg [.lit (.int .i64 0), .lit (.int .i64 0)], .slice [x, y] []]

theorem tri (v : D) : (isTru v = true ∧ isFal v = false ∧ isErr v = false ∧ isNul v = false) ∨ (isTru v = false ∧ isFal v = true ∧ isErr v = false ∧ isNul v = false) ∨
    (isTru v = false ∧ isFal v = false ∧ isErr v = true ∧ isNul v = false) ∨ (isTru v = false ∧ isFal v = false ∧ isErr v = false ∧ isNul v = true) := by
  by_cases h0 : kk v = 0
  · have hm : mayB v = true := by simp [mayB, h0]
    have hr : readD v = v := by unfold readD; rw [hm]; rfl
    have e1 : isErr v = false := by unfold isErr; rw [hr, h0]; rfl
    have e2 : isNul v = false := by unfold isNul; rw [hr, h0]; rfl
    have e3 : isFal v = (nn v == 0) := by unfold isFal; rw [h0]; rfl
    have e4 : isTru v = !(nn v == 0) := by unfold isTru; rw [h0]; rfl
    rw [e1, e2, e3, e4]
    cases (nn v == 0) <;> simp
  · have h0' : (kk v == 0) = false := by simp [h0]
    have e3 : isFal v = false := by unfold isFal; rw [h0']; rfl
    have e4 : isTru v = false := by unfold isTru; rw [h0']; rfl
    cases hm : mayB v with
    | false =>
      have hr : readD v = vv 2 0 := by unfold readD; rw [hm]; rfl
      have e1 : isErr v = true := by unfold isErr; rw [hr]; rfl
      have e2 : isNul v = false := by unfold isNul; rw [hr]; rfl
      simp [e1, e2, e3, e4]
    | true =>
      have hr : readD v = v := by unfold readD; rw [hm]; rfl
      have e1 : isErr v = (kk v == 2) := by unfold isErr; rw [hr]
      have e2 : isNul v = (kk v == 1) := by unfold isNul; rw [hr]
      simp only [mayB, Bool.or_eq_true, Bool.and_eq_true, beq_iff_eq] at hm
      have : kk v = 1 ∨ kk v = 2 := by omega
      rcases this with h | h <;> simp [e1, e2, e3, e4, h]
theorem and_tru (v w : D) : isTru (andD [v, w]) = (isTru v && isTru w) := by
  unfold andD ifNum
  simp only [List.any_cons, List.any_nil, Bool.or_false]
  rcases tri v with ⟨a1, a2, a3, a4⟩ | ⟨a1, a2, a3, a4⟩ | ⟨a1, a2, a3, a4⟩ | ⟨a1, a2, a3, a4⟩ <;>
    rcases tri w with ⟨b1, b2, b3, b4⟩ | ⟨b1, b2, b3, b4⟩ | ⟨b1, b2, b3, b4⟩ | ⟨b1, b2, b3, b4⟩ <;>
    (rw [a1, a2, a3, a4, b1, b2, b3, b4]; rfl)
theorem or_tru (v w : D) : isTru (orD [v, w]) = (isTru v || isTru w) := by
  unfold orD ifNum
  simp only [List.any_cons, List.any_nil, Bool.or_false]
  rcases tri v with ⟨a1, a2, a3, a4⟩ | ⟨a1, a2, a3, a4⟩ | ⟨a1, a2, a3, a4⟩ | ⟨a1, a2, a3, a4⟩ <;>
    rcases tri w with ⟨b1, b2, b3, b4⟩ | ⟨b1, b2, b3, b4⟩ | ⟨b1, b2, b3, b4⟩ | ⟨b1, b2, b3, b4⟩ <;>
    (rw [a1, a3, a4, b1, b3, b4]; rfl)

theorem or_may {x y : D} (h : mayE (andE x y) = true) : mayE (orE x y) = true := by
  obtain ⟨h1, h2⟩ := mayE_iff.1 h
  refine mayE_iff.2 ⟨?_, h2⟩
  rw [okD_succ, Bool.and_eq_true] at h1
  rw [okD_succ, Bool.and_eq_true]
  exact ⟨rfl, h1.2⟩

structure Both (x y : D) : Prop where
  a : mayE (andE x y) = true
  o : mayE (orE x y) = true
  mx : mayE x = true
  my : mayE y = true
  x6 : okK 6 x = true
  y6 : okK 6 y = true
theorem both_of {x y : D} (h : mayE (andE x y) = true) : Both x y := by
  have kx := may_part h (p := x) (show x ∈ [x, y] by simp)
  have ky := may_part h (p := y) (show y ∈ [x, y] by simp)
  exact ⟨h, or_may h, kx.1, ky.1, kx.2, ky.2⟩
theorem keeps_part {x : D} (h : mayE x = true) (h6 : okK 6 x = true) (c r : List D) : keepsE x c r = isTru (evalK c r 6 x) := by
  unfold keepsE evalE
  rw [h, cond_true, eval_shift c r 6 x h6]
theorem keeps_and {x y : D} (B : Both x y) (c r : List D) : keepsE (andE x y) c r = (keepsE x c r && keepsE y c r) := by
  rw [keeps_part B.mx B.x6, keeps_part B.my B.y6]
  unfold keepsE evalE
  rw [B.a, cond_true]
  exact and_tru (evalK c r 6 x) (evalK c r 6 y)
theorem keeps_or {x y : D} (B : Both x y) (c r : List D) : keepsE (orE x y) c r = (keepsE x c r || keepsE y c r) := by
  rw [keeps_part B.mx B.x6, keeps_part B.my B.y6]
  unfold keepsE evalE
  rw [B.o, cond_true]
  exact or_tru (evalK c r 6 x) (evalK c r 6 y)
theorem colsI_shift {x : D} (h6 : okK 6 x = true) : colsI 7 x = colsI 6 x := by
  unfold colsI
  rw [cols_shift 6 x h6]
theorem cols_and {x y : D} (B : Both x y) : colsI 7 (andE x y) = colsI 7 x ++ colsI 7 y := by
  rw [colsI_shift B.x6, colsI_shift B.y6, colsI_succ]
  show [] ++ [x, y].flatMap (colsI 6) = _
  simp
theorem cols_few {x : D} (h : mayE x = true) : (colsE x).length ≤ 30 := by
  rw [colsE_eq h, List.length_map]
  refine Nat.le_trans (cset_len _) ?_
  unfold colsI
  rw [List.length_map]
  exact mayE_cols h
theorem cols_sum {x y : D} (B : Both x y) : decide (((colsE (andE x y)).length : Int) ≤ IntKind.wrap .i64 (((colsE x).length : Int) + ((colsE y).length : Int))) = true := by
  have h1 := cols_few B.mx
  have h2 := cols_few B.my
  rw [wrap_in (by rw [inR_iff]; omega), decide_eq_true_eq, colsE_eq B.a, colsE_eq B.mx, colsE_eq B.my, cols_and B, List.length_map, List.length_map, List.length_map]
  have := cset_append (colsI 7 x) (colsI 7 y)
  omega
theorem cols_has {x y : D} (B : Both x y) {i : Nat} (hi : i < (colsE (andE x y)).length) : hasK 7 x (intD (colsE (andE x y))[i]) = true ∨ hasK 7 y (intD (colsE (andE x y))[i]) = true := by
  have hm : intD (colsE (andE x y))[i] ∈ (colsE (andE x y)).map intD := List.mem_map.2 ⟨_, List.getElem_mem hi, rfl⟩
  generalize intD (colsE (andE x y))[i] = z at hm ⊢
  rw [colsE_eq B.a, map_litI, mem_cset, cols_and B, List.mem_append] at hm
  rw [has_cols, has_cols]
  exact hm

theorem both_17 {x0 x1 x2 : D} {v12 : Int} {b11 : List D} {N m : Nat} (B : Both x0 x1) (h0 : keepsE x0 b11 (elemsD x2) = true) : ∀ (n i : Nat), i ≤ (colsE (andE x0 x1)).length → (colsE (andE x0 x1)).length - i < n →
    t5_lp17 Try.prog Try.f5 N n x0 x1 x2 v12 b11 m (i : Int) = some (dat 4 (.lit (.bool true)))
  | 0, i, _, h => by omega
  | n + 1, i, hi, hn => by
    rw [t5_lp17_step, show (.agg [.lit (.int .i64 8), .lit (.int .i64 0), .agg [.lit (.int .i64 0), .lit (.int .i64 0)], .slice [x0, x1] []] : D) = andE x0 x1 from rfl, show (.agg [.lit (.int .i64 9), .lit (.int .i64 0), .agg [.lit (.int .i64 0), .lit (.int .i64 0)], .slice [x0, x1] []] : D) = orE x0 x1 from rfl]
    have hlen := cols_few B.a
    by_cases hlt : i < (colsE (andE x0 x1)).length
    · have h1 : decide ((i : Int) < ((colsE (andE x0 x1)).length : Int)) = true := by simpa using hlt
      rw [idx_ok hlt, h1, cond_true, cond_true, cond_true, mayE_ok B.mx, mayE_ok B.my, cond_true, cond_true, Int.toNat_natCast, getD_lt hlt, wrap_step (by simp only [maxLen]; omega) hlt]
      have ih := both_17 (N := N) (v12 := v12) (m := m) B h0 n (i + 1) (by omega) (by omega)
      rw [ih]
      rcases cols_has B hlt with h | h
      · rw [h]; rfl
      · rw [h]; cases hasK 7 x0 (intD (colsE (andE x0 x1))[i]) <;> rfl
    · have h1 : decide ((i : Int) < ((colsE (andE x0 x1)).length : Int)) = false := by simpa using hlt
      rw [h1, cond_false, keeps_and B, keeps_or B, h0, cols_sum B]
      generalize keepsE x1 b11 (elemsD x2) = k1
      cases k1 <;> rfl
theorem both_17b {x0 x1 x2 : D} {v12 : Int} {b11 : List D} {N m : Nat} (B : Both x0 x1) (h0 : keepsE x0 b11 (elemsD x2) = false) : ∀ (n i : Nat), i ≤ (colsE (andE x0 x1)).length → (colsE (andE x0 x1)).length - i < n →
    t5_lp17b Try.prog Try.f5 N n x0 x1 x2 v12 b11 m (i : Int) = some (dat 4 (.lit (.bool true)))
  | 0, i, _, h => by omega
  | n + 1, i, hi, hn => by
    rw [t5_lp17b_step, show (.agg [.lit (.int .i64 8), .lit (.int .i64 0), .agg [.lit (.int .i64 0), .lit (.int .i64 0)], .slice [x0, x1] []] : D) = andE x0 x1 from rfl, show (.agg [.lit (.int .i64 9), .lit (.int .i64 0), .agg [.lit (.int .i64 0), .lit (.int .i64 0)], .slice [x0, x1] []] : D) = orE x0 x1 from rfl]
    have hlen := cols_few B.a
    by_cases hlt : i < (colsE (andE x0 x1)).length
    · have h1 : decide ((i : Int) < ((colsE (andE x0 x1)).length : Int)) = true := by simpa using hlt
      rw [idx_ok hlt, h1, cond_true, cond_true, cond_true, mayE_ok B.mx, mayE_ok B.my, cond_true, cond_true, Int.toNat_natCast, getD_lt hlt, wrap_step (by simp only [maxLen]; omega) hlt]
      have ih := both_17b (N := N) (v12 := v12) (m := m) B h0 n (i + 1) (by omega) (by omega)
      rw [ih]
      rcases cols_has B hlt with h | h
      · rw [h]; rfl
      · rw [h]; cases hasK 7 x0 (intD (colsE (andE x0 x1))[i]) <;> rfl
    · have h1 : decide ((i : Int) < ((colsE (andE x0 x1)).length : Int)) = false := by simpa using hlt
      rw [h1, cond_false, keeps_and B, keeps_or B, h0, cols_sum B]
      generalize keepsE x1 b11 (elemsD x2) = k1
      cases k1 <;> rfl
theorem both_9 {x0 x1 x2 : D} {N : Nat} (hN : 30 < N) (B : Both x0 x1) (hl : (elemsD x2).length ≤ 16) : ∀ (n i : Nat) (b11 : List D), i ≤ (elemsD x2).length → (elemsD x2).length - i < n → b11.length = i →
    t5_lp9 Try.prog Try.f5 N n x0 x1 x2 (i : Int) b11 = some (dat 4 (.lit (.bool true)))
  | 0, i, b11, _, h, _ => by omega
  | n + 1, i, b11, hi, hn, hb => by
    rw [t5_lp9_step]
    by_cases hlt : i < (elemsD x2).length
    · have h1 : decide ((i : Int) < ((elemsD x2).length : Int)) = true := by simpa using hlt
      have h2 : decide (b11.length + 1 ≤ 2147483648) = true := by simp; omega
      rw [h1, h2, cond_true, cond_true, wrap_step (by simp only [maxLen]; omega) hlt]
      exact both_9 hN B hl n (i + 1) _ (by omega) (by omega) (by simp [hb])
    · have h1 : decide ((i : Int) < ((elemsD x2).length : Int)) = false := by simpa using hlt
      have hlen := cols_few B.a
      rw [h1, cond_false]
      cases h0 : keepsE x0 b11 (elemsD x2) with
      | true =>
        rw [beq_self_eq_true, cond_true]
        exact both_17 B h0 N 0 (Nat.zero_le _) (by omega)
      | false =>
        rw [show (false == true) = false from rfl, cond_false]
        exact both_17b B h0 N 0 (Nat.zero_le _) (by omega)

theorem k5 : FnOK Try.prog 5 Try.f5 := ⟨Try.func5, rfl, by kernel_rfl⟩
theorem law_ok5 {hh : Hints} {fuel : Nat} {f : FuncId} {fn : Func} {args : List AV} (hf : FnOK Try.prog f fn) (h : evFn Try.prog (envH U9 []) hh fuel fn args = some (dat 4 (.lit (.bool true)))) : CallOK Try.prog f args (dat 4 (.lit (.bool true))) := by
  have := fn_ok hm envU9 hf (t := 4) (d := .lit (.bool true)) (h.trans (by rw [m4]; rfl))
  rw [m4] at this
  exact this
theorem law5 (x0 x1 x2 : D) : CallOK Try.prog 5 [dat 26 x0, dat 26 x1, dat 28 x2] (dat 4 (.lit (.bool true))) := by
  refine law_ok5 k5 ((t5 31 x0 x1 x2).trans ?_)
  rw [show (decide ((0 : Nat) ≤ 12) && decide ((12 : Nat) ≤ 1000)) = true from rfl, cond_true, cond_true]
  cases fewB x0 12 with
  | false => rfl
  | true =>
    cases fewB x1 12 with
    | false => rfl
    | true =>
      by_cases hl : (elemsD x2).length ≤ 16
      · have h1 : decide (((elemsD x2).length : Int) > 16) = false := by simp; omega
        rw [h1, show (.agg [.lit (.int .i64 8), .lit (.int .i64 0), .agg [.lit (.int .i64 0), .lit (.int .i64 0)], .slice [x0, x1] []] : D) = andE x0 x1 from rfl]
        cases hmay : mayE (andE x0 x1) with
        | false => rfl
        | true =>
          have H := both_9 (x2 := x2) (N := 31) (by omega) (both_of hmay) hl 31 0 [] (Nat.zero_le _) (by omega) rfl
          simp only [Bool.not_true, beq_self_eq_true, cond_true, cond_false]
          exact H
      · have h1 : decide (((elemsD x2).length : Int) > 16) = true := by simp; omega
        rw [h1]
        rfl

end Go.Proofs.Ytochjfimogijjaa
