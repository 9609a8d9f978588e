/- Layer 1, the rest of its functions, in terms of these. Nothing here is trusted. -/
import Derived.Test.YtjofcicaoofijaaVQ1
namespace Go.Proofs.Ytjofcicaoofijaa
open Go.Ev
set_option linter.unusedVariables false
set_option linter.unusedSimpArgs false

theorem vdef (k m : Int) : (.agg [.lit (.int .i64 k), .lit (.int .i64 m)] : D) = vv k m := rfl

/-! ### T5 -/
/-- The document's own shape: odd values first. -/
theorem reck_of {fits : Bool} {v : Int} {x y : D} {t : Option AV} (ht : t = bif fits then some (dat 34 (vv 0 v)) else some (dat 34 (vv 2 0))) :
    (bif oddB [x, y] then some (dat 34 (oddD [x, y])) else t) = some (dat 34 (reck fits v x y)) := by
  subst ht
  unfold oddB oddD reck
  cases [x, y].any isErr <;> cases [x, y].any isNul <;> cases fits <;> rfl

theorem ty_nn {n : Nat} {x : D} (h : Ty Try.prog n 34 x) : inR (nn x) = true := by
  obtain ⟨k, m, rfl, _, h2⟩ := ty23 h
  exact h2

theorem ref_add {a b : Int} (ha : inR a = true) (hb : inR b = true) : (bif ((decide (b > 0)) == true) then
      bif ((decide (a > (IntKind.wrap .i64 (9223372036854775807 - b)))) == false) then
        bif ((decide (b < 0)) == true) then bif decide (a < (IntKind.wrap .i64 ((-9223372036854775808) - b))) then some (dat 34 (.agg [.lit (.int .i64 2), .lit (.int .i64 0)])) else some (dat 34 (.agg [.lit (.int .i64 0), .lit (.int .i64 (IntKind.wrap .i64 (a + b)))])) else some (dat 34 (.agg [.lit (.int .i64 0), .lit (.int .i64 (IntKind.wrap .i64 (a + b)))]))
      else some (dat 34 (.agg [.lit (.int .i64 2), .lit (.int .i64 0)]))
    else bif ((decide (b < 0)) == true) then bif decide (a < (IntKind.wrap .i64 ((-9223372036854775808) - b))) then some (dat 34 (.agg [.lit (.int .i64 2), .lit (.int .i64 0)])) else some (dat 34 (.agg [.lit (.int .i64 0), .lit (.int .i64 (IntKind.wrap .i64 (a + b)))])) else some (dat 34 (.agg [.lit (.int .i64 0), .lit (.int .i64 (IntKind.wrap .i64 (a + b)))]))) = bif inR (a + b) then some (dat 34 (vv 0 (a + b))) else some (dat 34 (vv 2 0)) := by
  rw [inR_iff] at ha hb
  by_cases hb0 : b > 0
  · have e1 : IntKind.wrap .i64 (9223372036854775807 - b) = 9223372036854775807 - b := wrap_in (by rw [inR_iff]; omega)
    have d1 : decide (b > 0) = true := by simpa using hb0
    have d2 : decide (b < 0) = false := by simp; omega
    cases hin : inR (a + b) with
    | true =>
      have hw := wrap_in hin
      rw [inR_iff] at hin
      have d3 : decide (a > 9223372036854775807 - b) = false := by simp; omega
      rw [e1, d1, d2, d3, hw]; rfl
    | false =>
      rw [inR_not] at hin
      have d3 : decide (a > 9223372036854775807 - b) = true := by simp; omega
      rw [e1, d1, d2, d3]; rfl
  · have d1 : decide (b > 0) = false := by simpa using hb0
    by_cases hb1 : b < 0
    · have e1 : IntKind.wrap .i64 ((-9223372036854775808) - b) = (-9223372036854775808) - b := wrap_in (by rw [inR_iff]; omega)
      have d2 : decide (b < 0) = true := by simpa using hb1
      cases hin : inR (a + b) with
      | true =>
        have hw := wrap_in hin
        rw [inR_iff] at hin
        have d3 : decide (a < (-9223372036854775808) - b) = false := by simp; omega
        rw [e1, d1, d2, d3, hw]; rfl
      | false =>
        rw [inR_not] at hin
        have d3 : decide (a < (-9223372036854775808) - b) = true := by simp; omega
        rw [e1, d1, d2, d3]; rfl
    · have d2 : decide (b < 0) = false := by simpa using hb1
      have hin : inR (a + b) = true := by rw [inR_iff]; omega
      rw [d1, d2, wrap_in hin, hin]; rfl

theorem ref_sub {a b : Int} (ha : inR a = true) (hb : inR b = true) : (bif ((decide (b < 0)) == true) then
      bif ((decide (a > (IntKind.wrap .i64 (9223372036854775807 + b)))) == false) then
        bif ((decide (b > 0)) == true) then bif decide (a < (IntKind.wrap .i64 ((-9223372036854775808) + b))) then some (dat 34 (.agg [.lit (.int .i64 2), .lit (.int .i64 0)])) else some (dat 34 (.agg [.lit (.int .i64 0), .lit (.int .i64 (IntKind.wrap .i64 (a - b)))])) else some (dat 34 (.agg [.lit (.int .i64 0), .lit (.int .i64 (IntKind.wrap .i64 (a - b)))]))
      else some (dat 34 (.agg [.lit (.int .i64 2), .lit (.int .i64 0)]))
    else bif ((decide (b > 0)) == true) then bif decide (a < (IntKind.wrap .i64 ((-9223372036854775808) + b))) then some (dat 34 (.agg [.lit (.int .i64 2), .lit (.int .i64 0)])) else some (dat 34 (.agg [.lit (.int .i64 0), .lit (.int .i64 (IntKind.wrap .i64 (a - b)))])) else some (dat 34 (.agg [.lit (.int .i64 0), .lit (.int .i64 (IntKind.wrap .i64 (a - b)))]))) = bif inR (a - b) then some (dat 34 (vv 0 (a - b))) else some (dat 34 (vv 2 0)) := by
  rw [inR_iff] at ha hb
  by_cases hb0 : b < 0
  · have e1 : IntKind.wrap .i64 (9223372036854775807 + b) = 9223372036854775807 + b := wrap_in (by rw [inR_iff]; omega)
    have d1 : decide (b < 0) = true := by simpa using hb0
    have d2 : decide (b > 0) = false := by simp; omega
    cases hin : inR (a - b) with
    | true =>
      have hw := wrap_in hin
      rw [inR_iff] at hin
      have d3 : decide (a > 9223372036854775807 + b) = false := by simp; omega
      rw [e1, d1, d2, d3, hw]; rfl
    | false =>
      rw [inR_not] at hin
      have d3 : decide (a > 9223372036854775807 + b) = true := by simp; omega
      rw [e1, d1, d2, d3]; rfl
  · have d1 : decide (b < 0) = false := by simpa using hb0
    by_cases hb1 : b > 0
    · have e1 : IntKind.wrap .i64 ((-9223372036854775808) + b) = (-9223372036854775808) + b := wrap_in (by rw [inR_iff]; omega)
      have d2 : decide (b > 0) = true := by simpa using hb1
      cases hin : inR (a - b) with
      | true =>
        have hw := wrap_in hin
        rw [inR_iff] at hin
        have d3 : decide (a < (-9223372036854775808) + b) = false := by simp; omega
        rw [e1, d1, d2, d3, hw]; rfl
      | false =>
        rw [inR_not] at hin
        have d3 : decide (a < (-9223372036854775808) + b) = true := by simp; omega
        rw [e1, d1, d2, d3]; rfl
    · have d2 : decide (b > 0) = false := by simpa using hb1
      have hin : inR (a - b) = true := by rw [inR_iff]; omega
      rw [d1, d2, wrap_in hin, hin]; rfl

theorem ref_quot {a b : Int} (ha : inR a = true) (hb : inR b = true) (h0 : b ≠ 0) (h1 : ¬ (b = -1 ∧ a = -9223372036854775808)) :
    (bif (!(b == 0)) then bif ((IntKind.wrap .i64 (Int.tdiv (IntKind.wrap .i64 (a * b)) b) != a) == false) then bif (!(b == 0)) then bif (Int.tmod (IntKind.wrap .i64 (a * b)) b != 0) then some (dat 34 (.agg [.lit (.int .i64 2), .lit (.int .i64 0)])) else some (dat 34 (.agg [.lit (.int .i64 0), .lit (.int .i64 (IntKind.wrap .i64 (a * b)))])) else none else some (dat 34 (.agg [.lit (.int .i64 2), .lit (.int .i64 0)])) else none) = bif inR (a * b) then some (dat 34 (vv 0 (a * b))) else some (dat 34 (vv 2 0)) := by
  have b0 : (b == 0) = false := by simpa using h0
  have key : (IntKind.wrap .i64 (Int.tdiv (IntKind.wrap .i64 (a * b)) b) == a) = inR (a * b) := by
    by_cases hb1 : b = -1
    · subst hb1
      have hin : inR (a * -1) = true := by rw [inR_iff] at ha ⊢; omega
      have hin2 : inR (Int.tdiv (a * -1) (-1)) = true := by rw [Int.mul_tdiv_cancel _ (by decide)]; exact ha
      rw [wrap_in hin, wrap_in hin2, hin, Int.mul_tdiv_cancel _ (by decide)]
      simp
    · have := quot_fits hb ha h0 hb1
      rw [Int.mul_comm b a] at this
      exact this
  have key2 : (IntKind.wrap .i64 (Int.tdiv (IntKind.wrap .i64 (a * b)) b) != a) = !inR (a * b) := by rw [← key]; rfl
  rw [key2, b0]
  cases hin : inR (a * b) with
  | true =>
    have hw := wrap_in hin
    rw [hw]
    have : (Int.tmod (a * b) b != 0) = false := by rw [Int.mul_tmod_left]; rfl
    rw [this]
    rfl
  | false => rfl

theorem ref_mul {a b : Int} (ha : inR a = true) (hb : inR b = true) : (bif ((a == 0) == false) then
      bif (b == 0) then some (dat 34 (.agg [.lit (.int .i64 0), .lit (.int .i64 0)]))
      else bif ((a == (-1)) == true) then
          bif ((b == (-9223372036854775808)) == false) then
            bif ((b == (-1)) == true) then bif (a == (-9223372036854775808)) then some (dat 34 (.agg [.lit (.int .i64 2), .lit (.int .i64 0)])) else bif (!(b == 0)) then bif ((IntKind.wrap .i64 (Int.tdiv (IntKind.wrap .i64 (a * b)) b) != a) == false) then bif (!(b == 0)) then bif (Int.tmod (IntKind.wrap .i64 (a * b)) b != 0) then some (dat 34 (.agg [.lit (.int .i64 2), .lit (.int .i64 0)])) else some (dat 34 (.agg [.lit (.int .i64 0), .lit (.int .i64 (IntKind.wrap .i64 (a * b)))])) else none else some (dat 34 (.agg [.lit (.int .i64 2), .lit (.int .i64 0)])) else none
            else bif (!(b == 0)) then bif ((IntKind.wrap .i64 (Int.tdiv (IntKind.wrap .i64 (a * b)) b) != a) == false) then bif (!(b == 0)) then bif (Int.tmod (IntKind.wrap .i64 (a * b)) b != 0) then some (dat 34 (.agg [.lit (.int .i64 2), .lit (.int .i64 0)])) else some (dat 34 (.agg [.lit (.int .i64 0), .lit (.int .i64 (IntKind.wrap .i64 (a * b)))])) else none else some (dat 34 (.agg [.lit (.int .i64 2), .lit (.int .i64 0)])) else none
          else some (dat 34 (.agg [.lit (.int .i64 2), .lit (.int .i64 0)]))
        else bif ((b == (-1)) == true) then bif (a == (-9223372036854775808)) then some (dat 34 (.agg [.lit (.int .i64 2), .lit (.int .i64 0)])) else bif (!(b == 0)) then bif ((IntKind.wrap .i64 (Int.tdiv (IntKind.wrap .i64 (a * b)) b) != a) == false) then bif (!(b == 0)) then bif (Int.tmod (IntKind.wrap .i64 (a * b)) b != 0) then some (dat 34 (.agg [.lit (.int .i64 2), .lit (.int .i64 0)])) else some (dat 34 (.agg [.lit (.int .i64 0), .lit (.int .i64 (IntKind.wrap .i64 (a * b)))])) else none else some (dat 34 (.agg [.lit (.int .i64 2), .lit (.int .i64 0)])) else none
          else bif (!(b == 0)) then bif ((IntKind.wrap .i64 (Int.tdiv (IntKind.wrap .i64 (a * b)) b) != a) == false) then bif (!(b == 0)) then bif (Int.tmod (IntKind.wrap .i64 (a * b)) b != 0) then some (dat 34 (.agg [.lit (.int .i64 2), .lit (.int .i64 0)])) else some (dat 34 (.agg [.lit (.int .i64 0), .lit (.int .i64 (IntKind.wrap .i64 (a * b)))])) else none else some (dat 34 (.agg [.lit (.int .i64 2), .lit (.int .i64 0)])) else none
    else some (dat 34 (.agg [.lit (.int .i64 0), .lit (.int .i64 0)]))) = bif inR (a * b) then some (dat 34 (vv 0 (a * b))) else some (dat 34 (vv 2 0)) := by
  by_cases a0 : a = 0
  · subst a0
    have : inR (0 * b) = true := by rw [Int.zero_mul]; decide
    rw [this, Int.zero_mul]; rfl
  · have A0 : (a == 0) = false := by simpa using a0
    by_cases b0 : b = 0
    · subst b0
      have : inR (a * 0) = true := by rw [Int.mul_zero]; decide
      rw [this, A0, Int.mul_zero]; rfl
    · have B0 : (b == 0) = false := by simpa using b0
      by_cases hbad : b = -1 ∧ a = -9223372036854775808
      · obtain ⟨rfl, rfl⟩ := hbad
        rfl
      · by_cases hbad2 : a = -1 ∧ b = -9223372036854775808
        · obtain ⟨rfl, rfl⟩ := hbad2
          rfl
        · have hq := ref_quot ha hb b0 hbad
          rw [hq, A0, B0]
          have M1 : (a == (-1) && b == (-9223372036854775808)) = false := by
            simp; omega
          have M2 : (b == (-1) && a == (-9223372036854775808)) = false := by
            simp; omega
          cases x1 : (a == (-1)) <;> cases x2 : (b == (-9223372036854775808)) <;> cases x3 : (b == (-1)) <;> cases x4 : (a == (-9223372036854775808)) <;> simp [x1, x2, x3, x4] at M1 M2 ⊢

theorem ref_div {a b : Int} (ha : inR a = true) : (bif ((b == 0) == false) then
      bif ((b == (-1)) == true) then
        bif (a == (-9223372036854775808)) then some (dat 34 (.agg [.lit (.int .i64 2), .lit (.int .i64 0)]))
        else bif (!(b == 0)) then some (dat 34 (.agg [.lit (.int .i64 0), .lit (.int .i64 (IntKind.wrap .i64 (Int.tdiv a b)))])) else none
      else bif (!(b == 0)) then some (dat 34 (.agg [.lit (.int .i64 0), .lit (.int .i64 (IntKind.wrap .i64 (Int.tdiv a b)))])) else none
    else some (dat 34 (.agg [.lit (.int .i64 2), .lit (.int .i64 0)]))) = bif divOK a b then some (dat 34 (vv 0 (divV a b))) else some (dat 34 (vv 2 0)) := by
  unfold divV divOK
  by_cases b0 : b = 0
  · subst b0; rfl
  · have B0 : (b == 0) = false := by simpa using b0
    have ht := tdiv_fits ha b0
    rw [B0, ht]
    cases x1 : (a == (-9223372036854775808)) <;> cases x2 : (b == (-1)) <;> simp [x1, x2] at ht ⊢
    all_goals first | rfl | (rw [wrap_in ht]; rfl)

end Go.Proofs.Ytjofcicaoofijaa
