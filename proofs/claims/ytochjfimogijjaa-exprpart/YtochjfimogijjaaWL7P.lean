/- ExprPart: what a call answers. Nothing here is trusted. -/
import Derived.Test.YtochjfimogijjaaWX
import Derived.Test.YtochjfimogijjaaWL7
namespace Go.Proofs.Ytochjfimogijjaa
open Go.Ev
set_option linter.unusedVariables false
set_option linter.unusedSimpArgs false

def notE (x : D) : D := .agg [.lit (.int .i64 10), .lit (.int .i64 0), .agg [.lit (.int .i64 0), .lit (.int .i64 0)], .slice [x] []]
theorem kids_not (x : D) : kids (notE x) = [x] := rfl
theorem op_not (x : D) : opI (notE x) = 10 := rfl

theorem not_tru (v : D) : isTru (notD v) = (mayB v && kk v == 0 && nn v == 0) := by
  unfold notD ifNum
  cases hm : mayB v with
  | false =>
    have h1 : isErr v = true := by unfold isErr readD; rw [hm]; rfl
    simp only [List.any_cons, h1, Bool.true_or, cond_true]
    rfl
  | true =>
    have hr : readD v = v := by unfold readD; rw [hm]; rfl
    have e1 : isErr v = (kk v == 2) := by unfold isErr; rw [hr]
    have e2 : isNul v = (kk v == 1) := by unfold isNul; rw [hr]
    simp only [List.any_cons, List.any_nil, Bool.or_false, e1, e2, Bool.true_and]
    by_cases h2 : kk v = 2
    · have h0 : (kk v == 0) = false := by simp [h2]
      have h2' : (kk v == 2) = true := by simp [h2]
      rw [h0, h2']
      rfl
    · have h2' : (kk v == 2) = false := by simp [h2]
      rw [h2', cond_false]
      by_cases h1 : kk v = 1
      · have h0 : (kk v == 0) = false := by simp [h1]
        have h1' : (kk v == 1) = true := by simp [h1]
        rw [h0, h1']
        rfl
      · have h1' : (kk v == 1) = false := by simp [h1]
        rw [h1', cond_false]
        have h0 : kk v = 0 := by
          simp only [mayB, Bool.or_eq_true, Bool.and_eq_true, beq_iff_eq] at hm
          omega
        unfold isFal
        have h0' : (kk v == 0) = true := by simp [h0]
        rw [h0', Bool.true_and]
        cases (nn v == 0) <;> rfl

theorem part_fin {x0 : D} {b8 row : List D} (h : mayE x0 = true) :
    (bif (!(mayE (.agg [.lit (.int .i64 10), .lit (.int .i64 0), .agg [.lit (.int .i64 0), .lit (.int .i64 0)], .slice [x0] []]))) then
      some (dat 4 (.lit (.bool true)))
    else bif ((mayB (evalE x0 b8 row)) == true) then
        bif (((intD (fieldD (evalE x0 b8 row) 0)) == 0) == true) then
          bif (((keepsE (.agg [.lit (.int .i64 10), .lit (.int .i64 0), .agg [.lit (.int .i64 0), .lit (.int .i64 0)], .slice [x0] []]) b8 row) == ((intD (fieldD (evalE x0 b8 row) 1)) == 0)) == true) then
            some (dat 4 (.lit (.bool (intsB (colsE (.agg [.lit (.int .i64 10), .lit (.int .i64 0), .agg [.lit (.int .i64 0), .lit (.int .i64 0)], .slice [x0] []])) (colsE x0)))))
          else some (dat 4 (.lit (.bool false)))
        else bif (((keepsE (.agg [.lit (.int .i64 10), .lit (.int .i64 0), .agg [.lit (.int .i64 0), .lit (.int .i64 0)], .slice [x0] []]) b8 row) == false) == true) then
            some (dat 4 (.lit (.bool (intsB (colsE (.agg [.lit (.int .i64 10), .lit (.int .i64 0), .agg [.lit (.int .i64 0), .lit (.int .i64 0)], .slice [x0] []])) (colsE x0)))))
          else some (dat 4 (.lit (.bool false)))
      else bif (((keepsE (.agg [.lit (.int .i64 10), .lit (.int .i64 0), .agg [.lit (.int .i64 0), .lit (.int .i64 0)], .slice [x0] []]) b8 row) == false) == true) then
          some (dat 4 (.lit (.bool (intsB (colsE (.agg [.lit (.int .i64 10), .lit (.int .i64 0), .agg [.lit (.int .i64 0), .lit (.int .i64 0)], .slice [x0] []])) (colsE x0)))))
        else some (dat 4 (.lit (.bool false)))) = (some (dat 4 (.lit (.bool true))) : Option AV) := by
  rw [show (.agg [.lit (.int .i64 10), .lit (.int .i64 0), .agg [.lit (.int .i64 0), .lit (.int .i64 0)], .slice [x0] []] : D) = notE x0 from rfl]
  cases hn : mayE (notE x0) with
  | false => rfl
  | true =>
    obtain ⟨_, hok⟩ := may_part hn (p := x0) (by rw [kids_not]; simp)
    have hev : evalE x0 b8 row = evalK b8 row 6 x0 := by
      unfold evalE
      rw [h, cond_true]
      exact eval_shift b8 row 6 x0 hok
    have hkeep : keepsE (notE x0) b8 row = isTru (notD (evalK b8 row 6 x0)) := by
      unfold keepsE evalE
      rw [hn, cond_true, evalK_succ, op_not, kids_not]
      rfl
    have hc : colsE (notE x0) = colsE x0 := by
      unfold colsE
      rw [hn, h, cond_true, cond_true, colsK_succ, op_not, kids_not, cols_shift 6 x0 hok]
      simp
    have hi : intsB (colsE x0) (colsE x0) = true := by unfold intsB; simp
    rw [hev, hkeep, hc, hi, not_tru, show intD (fieldD (evalK b8 row 6 x0) 0) = kk (evalK b8 row 6 x0) from rfl, show intD (fieldD (evalK b8 row 6 x0) 1) = nn (evalK b8 row 6 x0) from rfl]
    generalize mayB (evalK b8 row 6 x0) = u1
    generalize (kk (evalK b8 row 6 x0) == 0) = u2
    generalize (nn (evalK b8 row 6 x0) == 0) = u3
    cases u1 <;> cases u2 <;> cases u3 <;> rfl

theorem part_l12 {x0 x1 : D} {v7 : Int} {N m : Nat} (h : mayE x0 = true) (hl : (elemsD x1).length ≤ 16) : ∀ (n i : Nat) (b8 : List D), i ≤ (elemsD x1).length → (elemsD x1).length - i < n → b8.length = i →
    t7_lp12 Try.prog Try.f7 N n x0 x1 v7 m (i : Int) b8 = some (dat 4 (.lit (.bool true)))
  | 0, i, b8, _, h, _ => by omega
  | n + 1, i, b8, hi, hn, hb => by
    rw [t7_lp12_step]
    by_cases hlt : i < (elemsD x1).length
    · have h1 : decide ((i : Int) < ((elemsD x1).length : Int)) = true := by simpa using hlt
      have h2 : decide (b8.length + 1 ≤ 2147483648) = true := by simp; omega
      rw [h1, h2, cond_true, cond_true, wrap_step (by simp only [maxLen]; omega) hlt]
      exact part_l12 h hl n (i + 1) _ (by omega) (by omega) (by simp [hb])
    · have h1 : decide ((i : Int) < ((elemsD x1).length : Int)) = false := by simpa using hlt
      rw [h1, cond_false]
      exact part_fin h
theorem part_l6 {x0 x1 : D} {N : Nat} (hN : (elemsD x1).length < N) (h : mayE x0 = true) (hk : (kids x0).length ≤ maxLen) (hl : (elemsD x1).length ≤ 16) : ∀ (n i : Nat), i ≤ (kids x0).length → (kids x0).length - i < n →
    t7_lp6 Try.prog Try.f7 N n x0 x1 (i : Int) = some (dat 4 (.lit (.bool true)))
  | 0, i, _, h => by omega
  | n + 1, i, hi, hn => by
    rw [t7_lp6_step, show elemsD (fieldD x0 3) = kids x0 from rfl]
    by_cases hlt : i < (kids x0).length
    · have h1 : decide ((i : Int) < ((kids x0).length : Int)) = true := by simpa using hlt
      rw [idx_ok hlt, h1, cond_true, cond_true, Int.toNat_natCast, getD_lt hlt, (may_part h (List.getElem_mem hlt)).1, wrap_step hk hlt]
      exact part_l6 hN h hk hl n (i + 1) (by omega) (by omega)
    · have h1 : decide ((i : Int) < ((kids x0).length : Int)) = false := by simpa using hlt
      rw [h1, cond_false]
      exact part_l12 h hl N 0 [] (Nat.zero_le _) (by omega) rfl

theorem k7 : FnOK Try.prog 7 Try.f7 := ⟨Try.func7, rfl, by kernel_rfl⟩
theorem law_ok {hh : Hints} {fuel : Nat} {f : FuncId} {fn : Func} {args : List AV} (hf : FnOK Try.prog f fn) (h : evFn Try.prog (envH U9 []) hh fuel fn args = some (dat 4 (.lit (.bool true)))) : CallOK Try.prog f args (dat 4 (.lit (.bool true))) := by
  have := fn_ok hm envU9 hf (t := 4) (d := .lit (.bool true)) (h.trans (by rw [m4]; rfl))
  rw [m4] at this
  exact this
theorem law7 {n : Nat} {x0 : D} (t0 : Ty Try.prog n 26 x0) (x1 : D) : CallOK Try.prog 7 [dat 26 x0, dat 28 x1] (dat 4 (.lit (.bool true))) := by
  obtain ⟨hk, _⟩ := ty_kids t0
  refine law_ok k7 ((t7 ((kids x0).length + (elemsD x1).length + 1) x0 x1).trans ?_)
  rw [show (decide ((0 : Nat) ≤ 29) && decide ((29 : Nat) ≤ 1000)) = true from rfl, cond_true]
  cases fewB x0 29 with
  | false => rfl
  | true =>
    by_cases hl : (elemsD x1).length ≤ 16
    · have h1 : decide (((elemsD x1).length : Int) > 16) = false := by simp; omega
      rw [h1]
      cases hmay : mayE x0 with
      | false => rfl
      | true =>
        have H := part_l6 (x0 := x0) (x1 := x1) (N := (kids x0).length + (elemsD x1).length + 1) (by omega) hmay hk hl ((kids x0).length + (elemsD x1).length + 1) 0 (Nat.zero_le _) (by omega)
        simp only [Bool.not_true, beq_self_eq_true, cond_true, cond_false]
        exact H
    · have h1 : decide (((elemsD x1).length : Int) > 16) = true := by simp; omega
      rw [h1]
      rfl

end Go.Proofs.Ytochjfimogijjaa
