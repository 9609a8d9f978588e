/- The laws of layer 1, as facts of plain data. Nothing here is trusted. -/
import Derived.Test.YtjgpdleibkfadaaVL
namespace Go.Proofs.Ytjgpdleibkfadaa
open Go.Ev
set_option linter.unusedVariables false
set_option linter.unusedSimpArgs false

def TT : Option AV := some (dat 4 (.lit (.bool true)))

theorem g3 (N : Nat) (x y : D) : evFn Try.prog (envOf T8) t3_h N Try.f3 [dat 23 x, dat 23 y] = TT := by
  rw [t3]
  simp only [beq_self_eq_true, Bool.and_self, Bool.and_true, cond_true]
  rfl

theorem g4 (N : Nat) (x y : D) : evFn Try.prog (envOf T8) t4_h N Try.f4 [dat 28 x, dat 23 y] = TT := by
  rw [t4]
  by_cases h : (elemsD x).length ≤ 1000
  · have h1 : decide (((elemsD x).length : Int) > 1000) = false := by simp; omega
    have h2 : decide ((elemsD x).length ≤ 1000) = true := by simpa using h
    rw [h1, h2]
    simp only [beq_self_eq_true, Bool.and_self, Bool.and_true, cond_true, cond_false]
    rfl
  · have h1 : decide (((elemsD x).length : Int) > 1000) = true := by simp; omega
    rw [h1]
    rfl

theorem less_asymm (x y : D) : lessB x y = true → lessB y x = false := by
  unfold lessB
  generalize kk (readD x) = a
  generalize kk (readD y) = b
  generalize nn (readD x) = c
  generalize nn (readD y) = d
  simp
  omega
theorem less_trans (x y z : D) : lessB x y = true → lessB y z = true → lessB x z = true := by
  unfold lessB
  generalize kk (readD x) = a
  generalize kk (readD y) = b
  generalize kk (readD z) = e
  generalize nn (readD x) = c
  generalize nn (readD y) = d
  generalize nn (readD z) = f
  simp
  omega
theorem may_read {x : D} (h : mayB x = true) : readD x = x := by unfold readD; rw [h]; rfl
theorem less_total (x y : D) (hx : mayB x = true) (hy : mayB y = true) : (!lessB x y && !lessB y x) = ((kk x == kk y) && ((nn x == nn y) && true)) := by
  unfold lessB
  rw [may_read hx, may_read hy]
  generalize kk x = a
  generalize kk y = b
  generalize nn x = c
  generalize nn y = d
  rw [Bool.eq_iff_iff]
  simp
  omega
theorem less_kind (x y : D) (hx : mayB x = true) (hy : mayB y = true) (h : decide (kk x ≥ kk y) = false) : lessB x y = true := by
  unfold lessB
  rw [may_read hx, may_read hy]
  simp at h
  simp [h]

theorem g5 (N : Nat) (x y z : D) : evFn Try.prog (envOf T8) t5_h N Try.f5 [dat 23 x, dat 23 y, dat 23 z] = TT := by
  rw [t5]
  have h1 := less_asymm x y
  have h2 := less_trans x y z
  have h3 := less_total x y
  have h4 := less_kind x y
  have e3 : (((intD (fieldD x 0)) == (intD (fieldD y 0))) && (((intD (fieldD x 1)) == (intD (fieldD y 1))) && true)) = ((kk x == kk y) && ((nn x == nn y) && true)) := rfl
  have e4 : decide ((intD (fieldD x 0)) ≥ (intD (fieldD y 0))) = decide (kk x ≥ kk y) := rfl
  rw [e3]
  rw [e4]
  generalize decide (kk x ≥ kk y) = p at *
  generalize ((kk x == kk y) && ((nn x == nn y) && true)) = q at *
  generalize lessB x y = a at *
  generalize lessB y x = b at *
  generalize lessB y z = c at *
  generalize lessB x z = d at *
  generalize mayB x = e at *
  generalize mayB y = f at *
  cases a <;> cases b <;> cases c <;> cases d <;> cases e <;> cases f <;> cases p <;> simp at h1 h2 h3 h4 <;> (try subst h3) <;> (try cases q) <;> first | rfl | (exact absurd rfl h3) | skip

theorem v_any (a b : Int) (p : D → Bool) : [vv 0 a, vv 0 b].any p = (p (vv 0 a) || p (vv 0 b)) := by simp
theorem err0 (a : Int) : isErr (vv 0 a) = false := rfl
theorem nul0 (a : Int) : isNul (vv 0 a) = false := rfl
theorem err2 : isErr (vv 2 0) = true := rfl
theorem nul1 : isNul (vv 1 0) = true := rfl
theorem reck0 (f : Bool) (v a b : Int) : reck f v (vv 0 a) (vv 0 b) = bif f then vv 0 v else vv 2 0 := by
  unfold reck
  rw [v_any, v_any, err0, err0, nul0, nul0]
  rfl
theorem add0 (a b : Int) : addD (vv 0 a) (vv 0 b) = bif inR (a + b) then vv 0 (a + b) else vv 2 0 := by
  unfold addD; rw [reck0]; rfl
theorem sub0 (a b : Int) : subD (vv 0 a) (vv 0 b) = bif inR (a - b) then vv 0 (a - b) else vv 2 0 := by
  unfold subD; rw [reck0]; rfl
theorem mul0 (a b : Int) : mulD (vv 0 a) (vv 0 b) = bif inR (a * b) then vv 0 (a * b) else vv 2 0 := by
  unfold mulD; rw [reck0]; rfl
theorem div0 (a b : Int) : divD (vv 0 a) (vv 0 b) = bif divOK a b then vv 0 (divV a b) else vv 2 0 := by
  unfold divD; rw [reck0]; rfl

theorem kdef (x : D) : intD (fieldD x 0) = kk x := rfl
theorem ndef (x : D) : intD (fieldD x 1) = nn x := rfl
theorem may0 (a : Int) : mayB (vv 0 a) = true := rfl
theorem may2 : mayB (vv 2 0) = true := rfl

theorem g6 (N : Nat) (a b : Int) (ha : inR a = true) (hb : inR b = true) : evFn Try.prog (envOf T8) t6_h N Try.f6 [dat 3 (.lit (.int .i64 a)), dat 3 (.lit (.int .i64 b))] = TT := by
  rw [t6]
  rw [vdef, vdef]
  rw [add0, add0, mul0, mul0, Int.add_comm b a, Int.mul_comm b a]
  rw [kdef, kdef, kdef, kdef, ndef, ndef, ndef, ndef]
  simp only [beq_self_eq_true, Bool.and_self, Bool.and_true, Bool.not_true, cond_true]
  have hdiv : inR (a * b) = true → (b == 0) = false → divD (vv 0 (a * b)) (vv 0 b) = vv 0 a := by
    intro h1 h2
    rw [beq_eq_false_iff_ne] at h2
    have e : Int.tdiv (a * b) b = a := Int.mul_tdiv_cancel _ h2
    have h3 : divOK (a * b) b = true := by unfold divOK; rw [e, ha]; simpa using h2
    rw [div0, h3]
    unfold divV
    rw [h3, e]
    rfl
  have hsub : subD (vv 0 (a + b)) (vv 0 b) = vv 0 a := by
    have e : a + b - b = a := by omega
    rw [sub0, e, ha]
    rfl
  cases h1 : inR (a + b) <;> cases h2 : inR (a * b) <;> cases h3 : (b == 0) <;>
    simp only [cond_true, cond_false, hsub, may0, may2, kk_vv, nn_vv, Bool.not_true, beq_self_eq_true, Bool.and_self] <;> (try rw [hdiv h2 h3]) <;> (try rw [kk_vv]) <;> (try rw [nn_vv]) <;> (try rw [beq_self_eq_true a]) <;> rfl

theorem any_r (x : D) : [x, vv 2 0].any isErr = true := by simp [err2]
theorem any_l (x : D) : [vv 2 0, x].any isErr = true := by simp [err2]
theorem reck_r (f : Bool) (v : Int) (x : D) : reck f v x (vv 2 0) = vv 2 0 := by unfold reck; rw [any_r]; rfl
theorem reck_l (f : Bool) (v : Int) (x : D) : reck f v (vv 2 0) x = vv 2 0 := by unfold reck; rw [any_l]; rfl
theorem add_r (x : D) : addD x (vv 2 0) = vv 2 0 := reck_r _ _ _
theorem sub_l (x : D) : subD (vv 2 0) x = vv 2 0 := reck_l _ _ _
theorem mul_r (x : D) : mulD x (vv 2 0) = vv 2 0 := reck_r _ _ _
theorem div_l (x : D) : divD (vv 2 0) x = vv 2 0 := reck_l _ _ _
theorem eq_r (x : D) : eqV x (vv 2 0) = vv 2 0 := by unfold eqV ifNum; rw [any_r]; rfl
theorem lt_l (x : D) : ltV (vv 2 0) x = vv 2 0 := by unfold ltV ifNum; rw [any_l]; rfl
theorem add_nul (x : D) : addD x (vv 1 0) = bif isErr x then vv 2 0 else vv 1 0 := by
  unfold addD reck
  have e1 : [x, vv 1 0].any isErr = isErr x := by
    have : isErr (vv 1 0) = false := rfl
    simp [this]
  have e2 : [x, vv 1 0].any isNul = true := by simp [nul1]
  rw [e1, e2]
  rfl
theorem num_of {x : D} (h1 : isErr x = false) (h2 : isNul x = false) : (kk x == 0) = true := by
  have hm : mayB x = true := by
    cases h : mayB x with
    | true => rfl
    | false => unfold isErr readD at h1; rw [h] at h1; cases h1
  unfold isErr isNul at *
  rw [may_read hm] at h1 h2
  unfold mayB at hm
  rw [h1, h2] at hm
  simpa using hm
theorem add_num {x y : D} (h : (kk (addD x y) != 0) = false) : (kk x == 0) = true ∧ (kk y == 0) = true := by
  unfold addD reck at h
  cases h1 : [x, y].any isErr with
  | true => rw [h1] at h; cases h
  | false =>
    cases h2 : [x, y].any isNul with
    | true => rw [h1, h2] at h; cases h
    | false =>
      simp at h1 h2
      exact ⟨num_of h1.1 h2.1, num_of h1.2 h2.2⟩

theorem g10 (x y : D) : evFn Try.prog (envOf T8) t10_h 7 Try.f10 [dat 23 x, dat 23 y] = TT := by
  rw [t10]
  have hstep : ∀ n (v : Int), 0 ≤ v → v < 6 → t10_lp6 Try.prog Try.f10 7 (n + 1) x y v = t10_lp6 Try.prog Try.f10 7 n x y (IntKind.wrap .i64 (v + 1)) := by
    intro n v h0 h6
    rw [t10_lp6_step]
    rw [vdef, vdef, vdef, add_r, sub_l, mul_r, div_l, eq_r, lt_l]
    have d1 : decide (v < 6) = true := by simpa using h6
    have d0 : decide (0 ≤ v) = true := by simpa using h0
    rw [d1, d0]
    have hv : v = 0 ∨ v = 1 ∨ v = 2 ∨ v = 3 ∨ v = 4 ∨ v = 5 := by omega
    rcases hv with rfl | rfl | rfl | rfl | rfl | rfl <;> rfl
  rw [hstep 6 0 (by decide) (by decide)]
  have w0 : IntKind.wrap .i64 (0 + 1) = 1 := by decide
  rw [w0, hstep 5 1 (by decide) (by decide)]
  have w1 : IntKind.wrap .i64 (1 + 1) = 2 := by decide
  rw [w1, hstep 4 2 (by decide) (by decide)]
  have w2 : IntKind.wrap .i64 (2 + 1) = 3 := by decide
  rw [w2, hstep 3 3 (by decide) (by decide)]
  have w3 : IntKind.wrap .i64 (3 + 1) = 4 := by decide
  rw [w3, hstep 2 4 (by decide) (by decide)]
  have w4 : IntKind.wrap .i64 (4 + 1) = 5 := by decide
  rw [w4, hstep 1 5 (by decide) (by decide)]
  have w5 : IntKind.wrap .i64 (5 + 1) = 6 := by decide
  rw [w5, t10_lp6_step]
  have d6 : decide ((6 : Int) < 6) = false := by decide
  rw [d6, cond_false]
  have ha := @add_num x y
  rw [vdef, vdef, vdef, vdef, add_nul]
  rw [kdef, kdef x, kdef y]
  generalize (kk (addD x y) != 0) = c at *
  generalize (kk x == 0) = a at *
  generalize (kk y == 0) = b at *
  generalize isErr x = e
  cases c
  · obtain ⟨rfl, rfl⟩ := ha rfl
    cases e <;> rfl
  · cases e <;> rfl

end Go.Proofs.Ytjgpdleibkfadaa
