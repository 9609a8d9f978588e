/- Layer 1, the rest of its functions, in terms of these. Nothing here is trusted. -/
import Derived.Test.YtochjfimogijjaaVQ1
namespace Go.Proofs.Ytochjfimogijjaa
open Go.Ev
set_option linter.unusedVariables false
set_option linter.unusedSimpArgs false

theorem vdef (k m : Int) : (.agg [.lit (.int .i64 k), .lit (.int .i64 m)] : D) = vv k m := rfl

/-! ### T5 -/
theorem k86 : FnOK Try.prog 86 Try.f86 := ⟨Try.func86, rfl, by kernel_rfl⟩
theorem c86 : ∀ args d, e86.2.2.2 args = some d → CallOK Try.prog 86 args (mkRes Try.prog 23 d) :=
  ent2 k86 fun x y d h _ _ => by
    cases h
    rw [n3, n28]
    refine fn_ok hm env4 k86 ((t86 1 (intD x) y).trans ?_)
    rw [m23]
    unfold ifNum
    cases (elemsD y).any isErr <;> cases (elemsD y).any isNul <;> rfl

theorem k67 : FnOK Try.prog 67 Try.f67 := ⟨Try.func67, rfl, by kernel_rfl⟩
theorem c67 : ∀ args d, e67.2.2.2 args = some d → CallOK Try.prog 67 args (mkRes Try.prog 23 d) :=
  ent1 k67 fun x d h ⟨_, hx⟩ => by
    cases h
    rw [n28]
    refine fn_ok (fuel := (elemsD x).length + 1) hm env4 k67 ((t67 ((elemsD x).length + 1) x).trans ?_)
    have h := any_loop (fun n v => t67_lp2 Try.prog Try.f67 ((elemsD x).length + 1) n x v) (elemsD x) isFal (some (dat 23 (vv 0 0)))
      (bif oddB (elemsD x) then some (dat 23 (oddD (elemsD x))) else some (dat 23 (vv 0 1))) (elems_len hx)
      (fun n v => by
        rw [t67_lp2_step]
        generalize t67_lp2 Try.prog Try.f67 ((elemsD x).length + 1) n x (IntKind.wrap .i64 (v + 1)) = q
        unfold isFal kk nn
        generalize (decide (0 ≤ v) && decide (v < ((elemsD x).length : Int))) = r
        generalize (intD (fieldD ((elemsD x).getD v.toNat .nil) 0) == 0) = b0
        generalize (intD (fieldD ((elemsD x).getD v.toNat .nil) 1) == 0) = b1
        cases r <;> cases b0 <;> cases b1 <;> rfl) ((elemsD x).length + 1) 0 (Nat.zero_le _) (by omega)
    rw [List.drop_zero] at h
    refine Eq.trans h ?_
    rw [m23]
    unfold andD ifNum oddB oddD
    cases (elemsD x).any isFal <;> cases (elemsD x).any isErr <;> cases (elemsD x).any isNul <;> rfl

theorem k68 : FnOK Try.prog 68 Try.f68 := ⟨Try.func68, rfl, by kernel_rfl⟩
theorem c68 : ∀ args d, e68.2.2.2 args = some d → CallOK Try.prog 68 args (mkRes Try.prog 23 d) :=
  ent1 k68 fun x d h ⟨_, hx⟩ => by
    cases h
    rw [n28]
    refine fn_ok (fuel := (elemsD x).length + 1) hm env4 k68 ((t68 ((elemsD x).length + 1) x).trans ?_)
    have h := any_loop (fun n v => t68_lp2 Try.prog Try.f68 ((elemsD x).length + 1) n x v) (elemsD x) isTru (some (dat 23 (vv 0 1)))
      (bif oddB (elemsD x) then some (dat 23 (oddD (elemsD x))) else some (dat 23 (vv 0 0))) (elems_len hx)
      (fun n v => t68_lp2_step ((elemsD x).length + 1) n x v) ((elemsD x).length + 1) 0 (Nat.zero_le _) (by omega)
    rw [List.drop_zero] at h
    refine Eq.trans h ?_
    rw [m23]
    unfold orD ifNum oddB oddD
    cases (elemsD x).any isTru <;> cases (elemsD x).any isErr <;> cases (elemsD x).any isNul <;> rfl

/-- The document's own shape: odd values first. -/
theorem reck_of {fits : Bool} {v : Int} {x y : D} {t : Option AV} (ht : t = bif fits then some (dat 23 (vv 0 v)) else some (dat 23 (vv 2 0))) :
    (bif oddB [x, y] then some (dat 23 (oddD [x, y])) else t) = some (dat 23 (reck fits v x y)) := by
  subst ht
  unfold oddB oddD reck
  cases [x, y].any isErr <;> cases [x, y].any isNul <;> cases fits <;> rfl

theorem ty_nn {n : Nat} {x : D} (h : Ty Try.prog n 23 x) : inR (nn x) = true := by
  obtain ⟨k, m, rfl, _, h2⟩ := ty23 h
  exact h2

theorem ref_add {a b : Int} (ha : inR a = true) (hb : inR b = true) : (bif ((decide (b > 0)) == true) then
      bif ((decide (a > (IntKind.wrap .i64 (9223372036854775807 - b)))) == false) then
        bif ((decide (b < 0)) == true) then bif decide (a < (IntKind.wrap .i64 ((-9223372036854775808) - b))) then some (dat 23 (.agg [.lit (.int .i64 2), .lit (.int .i64 0)])) else some (dat 23 (.agg [.lit (.int .i64 0), .lit (.int .i64 (IntKind.wrap .i64 (a + b)))])) else some (dat 23 (.agg [.lit (.int .i64 0), .lit (.int .i64 (IntKind.wrap .i64 (a + b)))]))
      else some (dat 23 (.agg [.lit (.int .i64 2), .lit (.int .i64 0)]))
    else bif ((decide (b < 0)) == true) then bif decide (a < (IntKind.wrap .i64 ((-9223372036854775808) - b))) then some (dat 23 (.agg [.lit (.int .i64 2), .lit (.int .i64 0)])) else some (dat 23 (.agg [.lit (.int .i64 0), .lit (.int .i64 (IntKind.wrap .i64 (a + b)))])) else some (dat 23 (.agg [.lit (.int .i64 0), .lit (.int .i64 (IntKind.wrap .i64 (a + b)))]))) = bif inR (a + b) then some (dat 23 (vv 0 (a + b))) else some (dat 23 (vv 2 0)) := by
  rw [inR_iff] at ha hb
  by_cases hb0 : b > 0
  · have e1 : IntKind.wrap .i64 (9223372036854775807 - b) = 9223372036854775807 - b := wrap_in (by rw [inR_iff]; omega)
    have d1 : decide (b > 0) = true := by simpa using hb0
    have d2 : decide (b < 0) = false := by simp; omega
    cases hin : inR (a + b) with
    | true =>
      have hw := wrap_in hin
      rw [inR_iff] at hin
      have d3 : decide (a > 9223372036854775807 - b) = false := by simp; omega
      rw [e1, d1, d2, d3, hw]; rfl
    | false =>
      rw [inR_not] at hin
      have d3 : decide (a > 9223372036854775807 - b) = true := by simp; omega
      rw [e1, d1, d2, d3]; rfl
  · have d1 : decide (b > 0) = false := by simpa using hb0
    by_cases hb1 : b < 0
    · have e1 : IntKind.wrap .i64 ((-9223372036854775808) - b) = (-9223372036854775808) - b := wrap_in (by rw [inR_iff]; omega)
      have d2 : decide (b < 0) = true := by simpa using hb1
      cases hin : inR (a + b) with
      | true =>
        have hw := wrap_in hin
        rw [inR_iff] at hin
        have d3 : decide (a < (-9223372036854775808) - b) = false := by simp; omega
        rw [e1, d1, d2, d3, hw]; rfl
      | false =>
        rw [inR_not] at hin
        have d3 : decide (a < (-9223372036854775808) - b) = true := by simp; omega
        rw [e1, d1, d2, d3]; rfl
    · have d2 : decide (b < 0) = false := by simpa using hb1
      have hin : inR (a + b) = true := by rw [inR_iff]; omega
      rw [d1, d2, wrap_in hin, hin]; rfl

theorem ref_sub {a b : Int} (ha : inR a = true) (hb : inR b = true) : (bif ((decide (b < 0)) == true) then
      bif ((decide (a > (IntKind.wrap .i64 (9223372036854775807 + b)))) == false) then
        bif ((decide (b > 0)) == true) then bif decide (a < (IntKind.wrap .i64 ((-9223372036854775808) + b))) then some (dat 23 (.agg [.lit (.int .i64 2), .lit (.int .i64 0)])) else some (dat 23 (.agg [.lit (.int .i64 0), .lit (.int .i64 (IntKind.wrap .i64 (a - b)))])) else some (dat 23 (.agg [.lit (.int .i64 0), .lit (.int .i64 (IntKind.wrap .i64 (a - b)))]))
      else some (dat 23 (.agg [.lit (.int .i64 2), .lit (.int .i64 0)]))
    else bif ((decide (b > 0)) == true) then bif decide (a < (IntKind.wrap .i64 ((-9223372036854775808) + b))) then some (dat 23 (.agg [.lit (.int .i64 2), .lit (.int .i64 0)])) else some (dat 23 (.agg [.lit (.int .i64 0), .lit (.int .i64 (IntKind.wrap .i64 (a - b)))])) else some (dat 23 (.agg [.lit (.int .i64 0), .lit (.int .i64 (IntKind.wrap .i64 (a - b)))]))) = bif inR (a - b) then some (dat 23 (vv 0 (a - b))) else some (dat 23 (vv 2 0)) := by
  rw [inR_iff] at ha hb
  by_cases hb0 : b < 0
  · have e1 : IntKind.wrap .i64 (9223372036854775807 + b) = 9223372036854775807 + b := wrap_in (by rw [inR_iff]; omega)
    have d1 : decide (b < 0) = true := by simpa using hb0
    have d2 : decide (b > 0) = false := by simp; omega
    cases hin : inR (a - b) with
    | true =>
      have hw := wrap_in hin
      rw [inR_iff] at hin
      have d3 : decide (a > 9223372036854775807 + b) = false := by simp; omega
      rw [e1, d1, d2, d3, hw]; rfl
    | false =>
      rw [inR_not] at hin
      have d3 : decide (a > 9223372036854775807 + b) = true := by simp; omega
      rw [e1, d1, d2, d3]; rfl
  · have d1 : decide (b < 0) = false := by simpa using hb0
    by_cases hb1 : b > 0
    · have e1 : IntKind.wrap .i64 ((-9223372036854775808) + b) = (-9223372036854775808) + b := wrap_in (by rw [inR_iff]; omega)
      have d2 : decide (b > 0) = true := by simpa using hb1
      cases hin : inR (a - b) with
      | true =>
        have hw := wrap_in hin
        rw [inR_iff] at hin
        have d3 : decide (a < (-9223372036854775808) + b) = false := by simp; omega
        rw [e1, d1, d2, d3, hw]; rfl
      | false =>
        rw [inR_not] at hin
        have d3 : decide (a < (-9223372036854775808) + b) = true := by simp; omega
        rw [e1, d1, d2, d3]; rfl
    · have d2 : decide (b > 0) = false := by simpa using hb1
      have hin : inR (a - b) = true := by rw [inR_iff]; omega
      rw [d1, d2, wrap_in hin, hin]; rfl

theorem ref_quot {a b : Int} (ha : inR a = true) (hb : inR b = true) (h0 : b ≠ 0) (h1 : ¬ (b = -1 ∧ a = -9223372036854775808)) :
    (bif (!(b == 0)) then bif ((IntKind.wrap .i64 (Int.tdiv (IntKind.wrap .i64 (a * b)) b) != a) == false) then bif (!(b == 0)) then bif (Int.tmod (IntKind.wrap .i64 (a * b)) b != 0) then some (dat 23 (.agg [.lit (.int .i64 2), .lit (.int .i64 0)])) else some (dat 23 (.agg [.lit (.int .i64 0), .lit (.int .i64 (IntKind.wrap .i64 (a * b)))])) else none else some (dat 23 (.agg [.lit (.int .i64 2), .lit (.int .i64 0)])) else none) = bif inR (a * b) then some (dat 23 (vv 0 (a * b))) else some (dat 23 (vv 2 0)) := by
  have b0 : (b == 0) = false := by simpa using h0
  have key : (IntKind.wrap .i64 (Int.tdiv (IntKind.wrap .i64 (a * b)) b) == a) = inR (a * b) := by
    by_cases hb1 : b = -1
    · subst hb1
      have hin : inR (a * -1) = true := by rw [inR_iff] at ha ⊢; omega
      have hin2 : inR (Int.tdiv (a * -1) (-1)) = true := by rw [Int.mul_tdiv_cancel _ (by decide)]; exact ha
      rw [wrap_in hin, wrap_in hin2, hin, Int.mul_tdiv_cancel _ (by decide)]
      simp
    · have := quot_fits hb ha h0 hb1
      rw [Int.mul_comm b a] at this
      exact this
  have key2 : (IntKind.wrap .i64 (Int.tdiv (IntKind.wrap .i64 (a * b)) b) != a) = !inR (a * b) := by rw [← key]; rfl
  rw [key2, b0]
  cases hin : inR (a * b) with
  | true =>
    have hw := wrap_in hin
    rw [hw]
    have : (Int.tmod (a * b) b != 0) = false := by rw [Int.mul_tmod_left]; rfl
    rw [this]
    rfl
  | false => rfl

theorem ref_mul {a b : Int} (ha : inR a = true) (hb : inR b = true) : (bif ((a == 0) == false) then
      bif (b == 0) then some (dat 23 (.agg [.lit (.int .i64 0), .lit (.int .i64 0)]))
      else bif ((a == (-1)) == true) then
          bif ((b == (-9223372036854775808)) == false) then
            bif ((b == (-1)) == true) then bif (a == (-9223372036854775808)) then some (dat 23 (.agg [.lit (.int .i64 2), .lit (.int .i64 0)])) else bif (!(b == 0)) then bif ((IntKind.wrap .i64 (Int.tdiv (IntKind.wrap .i64 (a * b)) b) != a) == false) then bif (!(b == 0)) then bif (Int.tmod (IntKind.wrap .i64 (a * b)) b != 0) then some (dat 23 (.agg [.lit (.int .i64 2), .lit (.int .i64 0)])) else some (dat 23 (.agg [.lit (.int .i64 0), .lit (.int .i64 (IntKind.wrap .i64 (a * b)))])) else none else some (dat 23 (.agg [.lit (.int .i64 2), .lit (.int .i64 0)])) else none
            else bif (!(b == 0)) then bif ((IntKind.wrap .i64 (Int.tdiv (IntKind.wrap .i64 (a * b)) b) != a) == false) then bif (!(b == 0)) then bif (Int.tmod (IntKind.wrap .i64 (a * b)) b != 0) then some (dat 23 (.agg [.lit (.int .i64 2), .lit (.int .i64 0)])) else some (dat 23 (.agg [.lit (.int .i64 0), .lit (.int .i64 (IntKind.wrap .i64 (a * b)))])) else none else some (dat 23 (.agg [.lit (.int .i64 2), .lit (.int .i64 0)])) else none
          else some (dat 23 (.agg [.lit (.int .i64 2), .lit (.int .i64 0)]))
        else bif ((b == (-1)) == true) then bif (a == (-9223372036854775808)) then some (dat 23 (.agg [.lit (.int .i64 2), .lit (.int .i64 0)])) else bif (!(b == 0)) then bif ((IntKind.wrap .i64 (Int.tdiv (IntKind.wrap .i64 (a * b)) b) != a) == false) then bif (!(b == 0)) then bif (Int.tmod (IntKind.wrap .i64 (a * b)) b != 0) then some (dat 23 (.agg [.lit (.int .i64 2), .lit (.int .i64 0)])) else some (dat 23 (.agg [.lit (.int .i64 0), .lit (.int .i64 (IntKind.wrap .i64 (a * b)))])) else none else some (dat 23 (.agg [.lit (.int .i64 2), .lit (.int .i64 0)])) else none
          else bif (!(b == 0)) then bif ((IntKind.wrap .i64 (Int.tdiv (IntKind.wrap .i64 (a * b)) b) != a) == false) then bif (!(b == 0)) then bif (Int.tmod (IntKind.wrap .i64 (a * b)) b != 0) then some (dat 23 (.agg [.lit (.int .i64 2), .lit (.int .i64 0)])) else some (dat 23 (.agg [.lit (.int .i64 0), .lit (.int .i64 (IntKind.wrap .i64 (a * b)))])) else none else some (dat 23 (.agg [.lit (.int .i64 2), .lit (.int .i64 0)])) else none
    else some (dat 23 (.agg [.lit (.int .i64 0), .lit (.int .i64 0)]))) = bif inR (a * b) then some (dat 23 (vv 0 (a * b))) else some (dat 23 (vv 2 0)) := by
  by_cases a0 : a = 0
  · subst a0
    have : inR (0 * b) = true := by rw [Int.zero_mul]; decide
    rw [this, Int.zero_mul]; rfl
  · have A0 : (a == 0) = false := by simpa using a0
    by_cases b0 : b = 0
    · subst b0
      have : inR (a * 0) = true := by rw [Int.mul_zero]; decide
      rw [this, A0, Int.mul_zero]; rfl
    · have B0 : (b == 0) = false := by simpa using b0
      by_cases hbad : b = -1 ∧ a = -9223372036854775808
      · obtain ⟨rfl, rfl⟩ := hbad
        rfl
      · by_cases hbad2 : a = -1 ∧ b = -9223372036854775808
        · obtain ⟨rfl, rfl⟩ := hbad2
          rfl
        · have hq := ref_quot ha hb b0 hbad
          rw [hq, A0, B0]
          have M1 : (a == (-1) && b == (-9223372036854775808)) = false := by
            simp; omega
          have M2 : (b == (-1) && a == (-9223372036854775808)) = false := by
            simp; omega
          cases x1 : (a == (-1)) <;> cases x2 : (b == (-9223372036854775808)) <;> cases x3 : (b == (-1)) <;> cases x4 : (a == (-9223372036854775808)) <;> simp [x1, x2, x3, x4] at M1 M2 ⊢

theorem ref_div {a b : Int} (ha : inR a = true) : (bif ((b == 0) == false) then
      bif ((b == (-1)) == true) then
        bif (a == (-9223372036854775808)) then some (dat 23 (.agg [.lit (.int .i64 2), .lit (.int .i64 0)]))
        else bif (!(b == 0)) then some (dat 23 (.agg [.lit (.int .i64 0), .lit (.int .i64 (IntKind.wrap .i64 (Int.tdiv a b)))])) else none
      else bif (!(b == 0)) then some (dat 23 (.agg [.lit (.int .i64 0), .lit (.int .i64 (IntKind.wrap .i64 (Int.tdiv a b)))])) else none
    else some (dat 23 (.agg [.lit (.int .i64 2), .lit (.int .i64 0)]))) = bif divOK a b then some (dat 23 (vv 0 (divV a b))) else some (dat 23 (vv 2 0)) := by
  unfold divV divOK
  by_cases b0 : b = 0
  · subst b0; rfl
  · have B0 : (b == 0) = false := by simpa using b0
    have ht := tdiv_fits ha b0
    rw [B0, ht]
    cases x1 : (a == (-9223372036854775808)) <;> cases x2 : (b == (-1)) <;> simp [x1, x2] at ht ⊢
    all_goals first | rfl | (rw [wrap_in ht]; rfl)

theorem k61 : FnOK Try.prog 61 Try.f61 := ⟨Try.func61, rfl, by kernel_rfl⟩
theorem c61 : ∀ args d, e61.2.2.2 args = some d → CallOK Try.prog 61 args (mkRes Try.prog 23 d) :=
  ent2 k61 fun x y d h ⟨_, hx⟩ ⟨_, hy⟩ => by
    cases h
    rw [n23, n23]
    have ha := ty_nn hx
    have hb := ty_nn hy
    refine fn_ok hm env4 k61 ((t61 1 x y).trans ?_)
    rw [m23]
    exact reck_of (ref_add ha hb)
theorem k62 : FnOK Try.prog 62 Try.f62 := ⟨Try.func62, rfl, by kernel_rfl⟩
theorem c62 : ∀ args d, e62.2.2.2 args = some d → CallOK Try.prog 62 args (mkRes Try.prog 23 d) :=
  ent2 k62 fun x y d h ⟨_, hx⟩ ⟨_, hy⟩ => by
    cases h
    rw [n23, n23]
    have ha := ty_nn hx
    have hb := ty_nn hy
    refine fn_ok hm env4 k62 ((t62 1 x y).trans ?_)
    rw [m23]
    exact reck_of (ref_sub ha hb)
theorem k63 : FnOK Try.prog 63 Try.f63 := ⟨Try.func63, rfl, by kernel_rfl⟩
theorem c63 : ∀ args d, e63.2.2.2 args = some d → CallOK Try.prog 63 args (mkRes Try.prog 23 d) :=
  ent2 k63 fun x y d h ⟨_, hx⟩ ⟨_, hy⟩ => by
    cases h
    rw [n23, n23]
    have ha := ty_nn hx
    have hb := ty_nn hy
    refine fn_ok hm env4 k63 ((t63 1 x y).trans ?_)
    rw [m23]
    exact reck_of (ref_mul ha hb)
theorem k64 : FnOK Try.prog 64 Try.f64 := ⟨Try.func64, rfl, by kernel_rfl⟩
theorem c64 : ∀ args d, e64.2.2.2 args = some d → CallOK Try.prog 64 args (mkRes Try.prog 23 d) :=
  ent2 k64 fun x y d h ⟨_, hx⟩ ⟨_, hy⟩ => by
    cases h
    rw [n23, n23]
    have ha := ty_nn hx
    have hb := ty_nn hy
    refine fn_ok hm env4 k64 ((t64 1 x y).trans ?_)
    rw [m23]
    exact reck_of (ref_div ha)
theorem k65 : FnOK Try.prog 65 Try.f65 := ⟨Try.func65, rfl, by kernel_rfl⟩
theorem c65 : ∀ args d, e65.2.2.2 args = some d → CallOK Try.prog 65 args (mkRes Try.prog 23 d) :=
  ent2 k65 fun x y d h _ _ => by
    cases h
    rw [n23, n23]
    refine fn_ok hm env4 k65 ((t65 1 x y).trans ?_)
    rw [m23]
    unfold eqV ifNum oddB oddD
    cases [x, y].any isErr <;> cases [x, y].any isNul <;> rfl
theorem k66 : FnOK Try.prog 66 Try.f66 := ⟨Try.func66, rfl, by kernel_rfl⟩
theorem c66 : ∀ args d, e66.2.2.2 args = some d → CallOK Try.prog 66 args (mkRes Try.prog 23 d) :=
  ent2 k66 fun x y d h _ _ => by
    cases h
    rw [n23, n23]
    refine fn_ok hm env4 k66 ((t66 1 x y).trans ?_)
    rw [m23]
    unfold ltV ifNum oddB oddD
    cases [x, y].any isErr <;> cases [x, y].any isNul <;> rfl

end Go.Proofs.Ytochjfimogijjaa
