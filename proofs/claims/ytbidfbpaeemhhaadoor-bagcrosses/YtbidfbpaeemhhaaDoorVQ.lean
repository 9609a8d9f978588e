/- Layer 1, the rest of its functions. Nothing here is trusted. -/
import Derived.Test.YtbidfbpaeemhhaaDoorVP
namespace Go.Proofs.YtbidfbpaeemhhaaDoor
open Go.Ev
set_option linter.unusedVariables false
set_option linter.unusedSimpArgs false

/-- A value that counts as it stands, by cases. -/
theorem read_cases (k m : Int) : (k = 0 ∧ readD (vv k m) = vv 0 m) ∨ (k = 1 ∧ m = 0 ∧ readD (vv k m) = vv 1 0) ∨ (k ≠ 0 ∧ ¬ (k = 1 ∧ m = 0) ∧ readD (vv k m) = vv 2 0) := by
  by_cases h0 : k = 0
  · subst h0; exact .inl ⟨rfl, rfl⟩
  · by_cases h1 : k = 1 ∧ m = 0
    · obtain ⟨rfl, rfl⟩ := h1; exact .inr (.inl ⟨rfl, rfl, rfl⟩)
    · refine .inr (.inr ⟨h0, h1, ?_⟩)
      unfold readD mayB
      rw [kk_vv, nn_vv]
      have e0 : (k == 0) = false := by simpa using h0
      rw [e0]
      by_cases h2 : k = 2 ∧ m = 0
      · obtain ⟨rfl, rfl⟩ := h2; rfl
      · have : (false || (k == 1 || k == 2) && m == 0) = false := by
          simp
          omega
        rw [this]
        rfl

theorem kk_read (x : D) : (kk (readD x) == 2) = isErr x := rfl

theorem idx_ok {i n : Nat} (h : i < n) : (decide (0 ≤ (i : Int)) && decide ((i : Int) < (n : Int))) = true := by simp [h]

/-- A loop that looks for one of a list. -/
theorem any_loop (LP : Nat → Int → Option AV) (l : List D) (p : D → Bool) (T F : Option AV) (hl : l.length ≤ maxLen)
    (hstep : ∀ (n : Nat) (v : Int), LP (n + 1) v = bif decide (v < (l.length : Int)) then
      bif (decide (0 ≤ v) && decide (v < (l.length : Int))) then bif p (l.getD (v).toNat .nil) then T else LP n (IntKind.wrap .i64 (v + 1)) else none else F) :
    ∀ (n i : Nat), i ≤ l.length → l.length - i < n → LP n (i : Int) = bif (l.drop i).any p then T else F
  | 0, i, _, h => by omega
  | n + 1, i, hi, h => by
    rw [hstep]
    by_cases hlt : i < l.length
    · have h1 : decide ((i : Int) < (l.length : Int)) = true := by simpa using hlt
      rw [idx_ok hlt, h1, cond_true, cond_true, List.drop_eq_getElem_cons hlt, List.any_cons, Int.toNat_natCast]
      have h2 : l.getD i .nil = l[i] := by simp [List.getD, hlt]
      rw [h2]
      have hw : IntKind.wrap .i64 ((i : Int) + 1) = ((i + 1 : Nat) : Int) := by
        rw [wrap_in]
        · omega
        · rw [inR_iff]; unfold maxLen at hl; omega
      rw [hw, any_loop LP l p T F hl hstep n (i + 1) (by omega) (by omega)]
      cases p l[i] <;> rfl
    · have h1 : decide ((i : Int) < (l.length : Int)) = false := by simpa using hlt
      have h2 : l.drop i = [] := List.drop_of_length_le (by omega)
      rw [h1, h2, cond_false]
      rfl

theorem elems_len {n : Nat} {x : D} (hx : Ty Tryd.prog n 34 x) : (elemsD x).length ≤ maxLen := by
  obtain ⟨es, rfl, hl, _⟩ := ty28 hx
  exact hl

/-! ### T2 -/
theorem k56 : FnOK Tryd.prog 56 Tryd.f56 := ⟨Tryd.func56, rfl, by kernel_rfl⟩
theorem c56 : ∀ args d, ent [39] (f1 fun x => some (readD x)) args = some d → CallOK Tryd.prog 56 args (mkRes Tryd.prog 39 d) :=
  ent1 k56 fun x d h _ => by
    cases h
    rw [n23]
    refine fn_ok hm env1 k56 ((t56 1 x).trans ?_)
    rw [m23]
    unfold readD
    cases mayB x <;> rfl
theorem env2 : EnvOK Tryd.prog (envOf T2) := (envOK_cons env1 c56)

/-! ### T3 -/
theorem k60 : FnOK Tryd.prog 60 Tryd.f60 := ⟨Tryd.func60, rfl, by kernel_rfl⟩
theorem c60 : ∀ args d, ent [39] (f1 fun x => some (.lit (.bool (isErr x)))) args = some d → CallOK Tryd.prog 60 args (mkRes Tryd.prog 4 d) :=
  ent1 k60 fun x d h _ => by
    cases h
    rw [n23]
    refine fn_ok hm env2 k60 ((t60 1 x).trans ?_)
    rw [m4]
    rfl
theorem k44 : FnOK Tryd.prog 44 Tryd.f44 := ⟨Tryd.func44, rfl, by kernel_rfl⟩
theorem c44 : ∀ args d, ent [39, 39] (f2 fun x y => some (.lit (.bool (lessB x y)))) args = some d → CallOK Tryd.prog 44 args (mkRes Tryd.prog 4 d) :=
  ent2 k44 fun x y d h _ _ => by
    cases h
    rw [n23, n23]
    refine fn_ok hm env2 k44 ((t44 1 x y).trans ?_)
    rw [m4]
    simp only [boolD]
    unfold lessB kk nn
    cases decide (intD (fieldD (readD x) 0) < intD (fieldD (readD y) 0)) <;> cases (intD (fieldD (readD x) 0) == intD (fieldD (readD y) 0)) <;> rfl
theorem env3 : EnvOK Tryd.prog (envOf T3) := (envOK_cons (envOK_cons env2 c44) c60)

/-! ### T4 -/
theorem some_53 {n : Nat} {x : D} (hx : Ty Tryd.prog n 34 x) : evFn Tryd.prog (envOf T3) t59_60_h ((elemsD x).length + 1) Tryd.f59 [dat 34 x, dat 68 (.held (.func (.func 60) #[] #[]))] = some (dat 4 (.lit (.bool ((elemsD x).any isErr)))) := by
  rw [t59_60]
  have h := any_loop (fun n v => t59_60_lp2 Tryd.prog Tryd.f59 ((elemsD x).length + 1) n x v) (elemsD x) isErr (some (dat 4 (.lit (.bool true)))) (some (dat 4 (.lit (.bool false)))) (elems_len hx)
    (fun n v => t59_60_lp2_step ((elemsD x).length + 1) n x v) ((elemsD x).length + 1) 0 (Nat.zero_le _) (by omega)
  rw [List.drop_zero] at h
  refine Eq.trans h ?_
  cases (elemsD x).any isErr <;> rfl
theorem some_55 {n : Nat} {x : D} (hx : Ty Tryd.prog n 34 x) : evFn Tryd.prog (envOf T3) t59_62_h ((elemsD x).length + 1) Tryd.f59 [dat 34 x, dat 68 (.held (.func (.func 62) #[] #[]))] = some (dat 4 (.lit (.bool ((elemsD x).any isNum)))) := by
  rw [t59_62]
  have h := any_loop (fun n v => t59_62_lp2 Tryd.prog Tryd.f59 ((elemsD x).length + 1) n x v) (elemsD x) isNum (some (dat 4 (.lit (.bool true)))) (some (dat 4 (.lit (.bool false)))) (elems_len hx)
    (fun n v => t59_62_lp2_step ((elemsD x).length + 1) n x v) ((elemsD x).length + 1) 0 (Nat.zero_le _) (by omega)
  rw [List.drop_zero] at h
  refine Eq.trans h ?_
  cases (elemsD x).any isNum <;> rfl
theorem k59 : FnOK Tryd.prog 59 Tryd.f59 := ⟨Tryd.func59, rfl, by kernel_rfl⟩
theorem ty25 {n : Nat} {x : D} {t : TypeId} {p q : Array TypeId} {r : Bool} {f : FuncId} (hu : Tryd.prog.underlying t = some (.func p q r)) (h : Ty Tryd.prog n t x) (hf : fnD x = some f) : x = .held (.func (.func f) #[] #[]) := by
  cases n with
  | zero => exact h.elim
  | succ n =>
    unfold Ty at h
    rw [hu] at h
    split at h <;> try (exact h.elim)
    all_goals try (simp_all; done)
    · rename_i v heq
      rcases h with rfl | ⟨g, rfl⟩
      · simp [fnD] at hf
      · simp only [fnD, Option.some.injEq] at hf
        rw [hf]
    · simp [fnD] at hf

/-- Of values that may be, an error is the one that is read as such. -/
theorem err_read {y : D} (hy : ∃ k m, y = vv k m ∧ inR k = true ∧ inR m = true) (h : (kk (readD y) == 2) = true) : readD y = vv 2 0 := by
  obtain ⟨k, m, rfl, _, _⟩ := hy
  rcases read_cases k m with ⟨_, e⟩ | ⟨_, _, e⟩ | ⟨_, _, e⟩
  · rw [e] at h; simp [kk_vv] at h
  · rw [e] at h; simp [kk_vv] at h
  · exact e

theorem c59 : ∀ args d, e59.2.2.2 args = some d → CallOK Tryd.prog 59 args (mkRes Tryd.prog 4 d) :=
  ent2 k59 fun x y d h ⟨_, hx⟩ ⟨_, hy⟩ => by
    rw [n28, n25]
    split at h
    · rename_i hf
      cases h
      rw [ty25 u25 hy hf]
      refine fn_ok hm env3 k59 ((some_53 hx).trans ?_)
      rw [m4]
      rfl
    · rename_i hf
      cases h
      rw [ty25 u25 hy hf]
      refine fn_ok hm env3 k59 ((some_55 hx).trans ?_)
      rw [m4]
      rfl
    · cases h
theorem env4 : EnvOK Tryd.prog (envOf T4) := (envOK_cons env3 c59)

end Go.Proofs.YtbidfbpaeemhhaaDoor

namespace Go.Proofs.YtbidfbpaeemhhaaDoor
open Go.Ev
set_option linter.unusedVariables false
set_option linter.unusedSimpArgs false

theorem vdef (k m : Int) : (.agg [.lit (.int .i64 k), .lit (.int .i64 m)] : D) = vv k m := rfl

/-! ### T5 -/
/-- The document's own shape: odd values first. -/
theorem reck_of {fits : Bool} {v : Int} {x y : D} {t : Option AV} (ht : t = bif fits then some (dat 39 (vv 0 v)) else some (dat 39 (vv 2 0))) :
    (bif oddB [x, y] then some (dat 39 (oddD [x, y])) else t) = some (dat 39 (reck fits v x y)) := by
  subst ht
  unfold oddB oddD reck
  cases [x, y].any isErr <;> cases [x, y].any isNul <;> cases fits <;> rfl

theorem ty_nn {n : Nat} {x : D} (h : Ty Tryd.prog n 39 x) : inR (nn x) = true := by
  obtain ⟨k, m, rfl, _, h2⟩ := ty23 h
  exact h2

theorem ref_add {a b : Int} (ha : inR a = true) (hb : inR b = true) : (bif ((decide (b > 0)) == true) then
      bif ((decide (a > (IntKind.wrap .i64 (9223372036854775807 - b)))) == false) then
        bif ((decide (b < 0)) == true) then bif decide (a < (IntKind.wrap .i64 ((-9223372036854775808) - b))) then some (dat 39 (.agg [.lit (.int .i64 2), .lit (.int .i64 0)])) else some (dat 39 (.agg [.lit (.int .i64 0), .lit (.int .i64 (IntKind.wrap .i64 (a + b)))])) else some (dat 39 (.agg [.lit (.int .i64 0), .lit (.int .i64 (IntKind.wrap .i64 (a + b)))]))
      else some (dat 39 (.agg [.lit (.int .i64 2), .lit (.int .i64 0)]))
    else bif ((decide (b < 0)) == true) then bif decide (a < (IntKind.wrap .i64 ((-9223372036854775808) - b))) then some (dat 39 (.agg [.lit (.int .i64 2), .lit (.int .i64 0)])) else some (dat 39 (.agg [.lit (.int .i64 0), .lit (.int .i64 (IntKind.wrap .i64 (a + b)))])) else some (dat 39 (.agg [.lit (.int .i64 0), .lit (.int .i64 (IntKind.wrap .i64 (a + b)))]))) = bif inR (a + b) then some (dat 39 (vv 0 (a + b))) else some (dat 39 (vv 2 0)) := by
  rw [inR_iff] at ha hb
  by_cases hb0 : b > 0
  · have e1 : IntKind.wrap .i64 (9223372036854775807 - b) = 9223372036854775807 - b := wrap_in (by rw [inR_iff]; omega)
    have d1 : decide (b > 0) = true := by simpa using hb0
    have d2 : decide (b < 0) = false := by simp; omega
    cases hin : inR (a + b) with
    | true =>
      have hw := wrap_in hin
      rw [inR_iff] at hin
      have d3 : decide (a > 9223372036854775807 - b) = false := by simp; omega
      rw [e1, d1, d2, d3, hw]; rfl
    | false =>
      rw [inR_not] at hin
      have d3 : decide (a > 9223372036854775807 - b) = true := by simp; omega
      rw [e1, d1, d2, d3]; rfl
  · have d1 : decide (b > 0) = false := by simpa using hb0
    by_cases hb1 : b < 0
    · have e1 : IntKind.wrap .i64 ((-9223372036854775808) - b) = (-9223372036854775808) - b := wrap_in (by rw [inR_iff]; omega)
      have d2 : decide (b < 0) = true := by simpa using hb1
      cases hin : inR (a + b) with
      | true =>
        have hw := wrap_in hin
        rw [inR_iff] at hin
        have d3 : decide (a < (-9223372036854775808) - b) = false := by simp; omega
        rw [e1, d1, d2, d3, hw]; rfl
      | false =>
        rw [inR_not] at hin
        have d3 : decide (a < (-9223372036854775808) - b) = true := by simp; omega
        rw [e1, d1, d2, d3]; rfl
    · have d2 : decide (b < 0) = false := by simpa using hb1
      have hin : inR (a + b) = true := by rw [inR_iff]; omega
      rw [d1, d2, wrap_in hin, hin]; rfl

theorem ref_sub {a b : Int} (ha : inR a = true) (hb : inR b = true) : (bif ((decide (b < 0)) == true) then
      bif ((decide (a > (IntKind.wrap .i64 (9223372036854775807 + b)))) == false) then
        bif ((decide (b > 0)) == true) then bif decide (a < (IntKind.wrap .i64 ((-9223372036854775808) + b))) then some (dat 39 (.agg [.lit (.int .i64 2), .lit (.int .i64 0)])) else some (dat 39 (.agg [.lit (.int .i64 0), .lit (.int .i64 (IntKind.wrap .i64 (a - b)))])) else some (dat 39 (.agg [.lit (.int .i64 0), .lit (.int .i64 (IntKind.wrap .i64 (a - b)))]))
      else some (dat 39 (.agg [.lit (.int .i64 2), .lit (.int .i64 0)]))
    else bif ((decide (b > 0)) == true) then bif decide (a < (IntKind.wrap .i64 ((-9223372036854775808) + b))) then some (dat 39 (.agg [.lit (.int .i64 2), .lit (.int .i64 0)])) else some (dat 39 (.agg [.lit (.int .i64 0), .lit (.int .i64 (IntKind.wrap .i64 (a - b)))])) else some (dat 39 (.agg [.lit (.int .i64 0), .lit (.int .i64 (IntKind.wrap .i64 (a - b)))]))) = bif inR (a - b) then some (dat 39 (vv 0 (a - b))) else some (dat 39 (vv 2 0)) := by
  rw [inR_iff] at ha hb
  by_cases hb0 : b < 0
  · have e1 : IntKind.wrap .i64 (9223372036854775807 + b) = 9223372036854775807 + b := wrap_in (by rw [inR_iff]; omega)
    have d1 : decide (b < 0) = true := by simpa using hb0
    have d2 : decide (b > 0) = false := by simp; omega
    cases hin : inR (a - b) with
    | true =>
      have hw := wrap_in hin
      rw [inR_iff] at hin
      have d3 : decide (a > 9223372036854775807 + b) = false := by simp; omega
      rw [e1, d1, d2, d3, hw]; rfl
    | false =>
      rw [inR_not] at hin
      have d3 : decide (a > 9223372036854775807 + b) = true := by simp; omega
      rw [e1, d1, d2, d3]; rfl
  · have d1 : decide (b < 0) = false := by simpa using hb0
    by_cases hb1 : b > 0
    · have e1 : IntKind.wrap .i64 ((-9223372036854775808) + b) = (-9223372036854775808) + b := wrap_in (by rw [inR_iff]; omega)
      have d2 : decide (b > 0) = true := by simpa using hb1
      cases hin : inR (a - b) with
      | true =>
        have hw := wrap_in hin
        rw [inR_iff] at hin
        have d3 : decide (a < (-9223372036854775808) + b) = false := by simp; omega
        rw [e1, d1, d2, d3, hw]; rfl
      | false =>
        rw [inR_not] at hin
        have d3 : decide (a < (-9223372036854775808) + b) = true := by simp; omega
        rw [e1, d1, d2, d3]; rfl
    · have d2 : decide (b > 0) = false := by simpa using hb1
      have hin : inR (a - b) = true := by rw [inR_iff]; omega
      rw [d1, d2, wrap_in hin, hin]; rfl

theorem ref_quot {a b : Int} (ha : inR a = true) (hb : inR b = true) (h0 : b ≠ 0) (h1 : ¬ (b = -1 ∧ a = -9223372036854775808)) :
    (bif (!(b == 0)) then bif ((IntKind.wrap .i64 (Int.tdiv (IntKind.wrap .i64 (a * b)) b) != a) == false) then bif (!(b == 0)) then bif (Int.tmod (IntKind.wrap .i64 (a * b)) b != 0) then some (dat 39 (.agg [.lit (.int .i64 2), .lit (.int .i64 0)])) else some (dat 39 (.agg [.lit (.int .i64 0), .lit (.int .i64 (IntKind.wrap .i64 (a * b)))])) else none else some (dat 39 (.agg [.lit (.int .i64 2), .lit (.int .i64 0)])) else none) = bif inR (a * b) then some (dat 39 (vv 0 (a * b))) else some (dat 39 (vv 2 0)) := by
  have b0 : (b == 0) = false := by simpa using h0
  have key : (IntKind.wrap .i64 (Int.tdiv (IntKind.wrap .i64 (a * b)) b) == a) = inR (a * b) := by
    by_cases hb1 : b = -1
    · subst hb1
      have hin : inR (a * -1) = true := by rw [inR_iff] at ha ⊢; omega
      have hin2 : inR (Int.tdiv (a * -1) (-1)) = true := by rw [Int.mul_tdiv_cancel _ (by decide)]; exact ha
      rw [wrap_in hin, wrap_in hin2, hin, Int.mul_tdiv_cancel _ (by decide)]
      simp
    · have := quot_fits hb ha h0 hb1
      rw [Int.mul_comm b a] at this
      exact this
  have key2 : (IntKind.wrap .i64 (Int.tdiv (IntKind.wrap .i64 (a * b)) b) != a) = !inR (a * b) := by rw [← key]; rfl
  rw [key2, b0]
  cases hin : inR (a * b) with
  | true =>
    have hw := wrap_in hin
    rw [hw]
    have : (Int.tmod (a * b) b != 0) = false := by rw [Int.mul_tmod_left]; rfl
    rw [this]
    rfl
  | false => rfl

theorem ref_mul {a b : Int} (ha : inR a = true) (hb : inR b = true) : (bif ((a == 0) == false) then
      bif (b == 0) then some (dat 39 (.agg [.lit (.int .i64 0), .lit (.int .i64 0)]))
      else bif ((a == (-1)) == true) then
          bif ((b == (-9223372036854775808)) == false) then
            bif ((b == (-1)) == true) then bif (a == (-9223372036854775808)) then some (dat 39 (.agg [.lit (.int .i64 2), .lit (.int .i64 0)])) else bif (!(b == 0)) then bif ((IntKind.wrap .i64 (Int.tdiv (IntKind.wrap .i64 (a * b)) b) != a) == false) then bif (!(b == 0)) then bif (Int.tmod (IntKind.wrap .i64 (a * b)) b != 0) then some (dat 39 (.agg [.lit (.int .i64 2), .lit (.int .i64 0)])) else some (dat 39 (.agg [.lit (.int .i64 0), .lit (.int .i64 (IntKind.wrap .i64 (a * b)))])) else none else some (dat 39 (.agg [.lit (.int .i64 2), .lit (.int .i64 0)])) else none
            else bif (!(b == 0)) then bif ((IntKind.wrap .i64 (Int.tdiv (IntKind.wrap .i64 (a * b)) b) != a) == false) then bif (!(b == 0)) then bif (Int.tmod (IntKind.wrap .i64 (a * b)) b != 0) then some (dat 39 (.agg [.lit (.int .i64 2), .lit (.int .i64 0)])) else some (dat 39 (.agg [.lit (.int .i64 0), .lit (.int .i64 (IntKind.wrap .i64 (a * b)))])) else none else some (dat 39 (.agg [.lit (.int .i64 2), .lit (.int .i64 0)])) else none
          else some (dat 39 (.agg [.lit (.int .i64 2), .lit (.int .i64 0)]))
        else bif ((b == (-1)) == true) then bif (a == (-9223372036854775808)) then some (dat 39 (.agg [.lit (.int .i64 2), .lit (.int .i64 0)])) else bif (!(b == 0)) then bif ((IntKind.wrap .i64 (Int.tdiv (IntKind.wrap .i64 (a * b)) b) != a) == false) then bif (!(b == 0)) then bif (Int.tmod (IntKind.wrap .i64 (a * b)) b != 0) then some (dat 39 (.agg [.lit (.int .i64 2), .lit (.int .i64 0)])) else some (dat 39 (.agg [.lit (.int .i64 0), .lit (.int .i64 (IntKind.wrap .i64 (a * b)))])) else none else some (dat 39 (.agg [.lit (.int .i64 2), .lit (.int .i64 0)])) else none
          else bif (!(b == 0)) then bif ((IntKind.wrap .i64 (Int.tdiv (IntKind.wrap .i64 (a * b)) b) != a) == false) then bif (!(b == 0)) then bif (Int.tmod (IntKind.wrap .i64 (a * b)) b != 0) then some (dat 39 (.agg [.lit (.int .i64 2), .lit (.int .i64 0)])) else some (dat 39 (.agg [.lit (.int .i64 0), .lit (.int .i64 (IntKind.wrap .i64 (a * b)))])) else none else some (dat 39 (.agg [.lit (.int .i64 2), .lit (.int .i64 0)])) else none
    else some (dat 39 (.agg [.lit (.int .i64 0), .lit (.int .i64 0)]))) = bif inR (a * b) then some (dat 39 (vv 0 (a * b))) else some (dat 39 (vv 2 0)) := by
  by_cases a0 : a = 0
  · subst a0
    have : inR (0 * b) = true := by rw [Int.zero_mul]; decide
    rw [this, Int.zero_mul]; rfl
  · have A0 : (a == 0) = false := by simpa using a0
    by_cases b0 : b = 0
    · subst b0
      have : inR (a * 0) = true := by rw [Int.mul_zero]; decide
      rw [this, A0, Int.mul_zero]; rfl
    · have B0 : (b == 0) = false := by simpa using b0
      by_cases hbad : b = -1 ∧ a = -9223372036854775808
      · obtain ⟨rfl, rfl⟩ := hbad
        rfl
      · by_cases hbad2 : a = -1 ∧ b = -9223372036854775808
        · obtain ⟨rfl, rfl⟩ := hbad2
          rfl
        · have hq := ref_quot ha hb b0 hbad
          rw [hq, A0, B0]
          have M1 : (a == (-1) && b == (-9223372036854775808)) = false := by
            simp; omega
          have M2 : (b == (-1) && a == (-9223372036854775808)) = false := by
            simp; omega
          cases x1 : (a == (-1)) <;> cases x2 : (b == (-9223372036854775808)) <;> cases x3 : (b == (-1)) <;> cases x4 : (a == (-9223372036854775808)) <;> simp [x1, x2, x3, x4] at M1 M2 ⊢

theorem ref_div {a b : Int} (ha : inR a = true) : (bif ((b == 0) == false) then
      bif ((b == (-1)) == true) then
        bif (a == (-9223372036854775808)) then some (dat 39 (.agg [.lit (.int .i64 2), .lit (.int .i64 0)]))
        else bif (!(b == 0)) then some (dat 39 (.agg [.lit (.int .i64 0), .lit (.int .i64 (IntKind.wrap .i64 (Int.tdiv a b)))])) else none
      else bif (!(b == 0)) then some (dat 39 (.agg [.lit (.int .i64 0), .lit (.int .i64 (IntKind.wrap .i64 (Int.tdiv a b)))])) else none
    else some (dat 39 (.agg [.lit (.int .i64 2), .lit (.int .i64 0)]))) = bif divOK a b then some (dat 39 (vv 0 (divV a b))) else some (dat 39 (vv 2 0)) := by
  unfold divV divOK
  by_cases b0 : b = 0
  · subst b0; rfl
  · have B0 : (b == 0) = false := by simpa using b0
    have ht := tdiv_fits ha b0
    rw [B0, ht]
    cases x1 : (a == (-9223372036854775808)) <;> cases x2 : (b == (-1)) <;> simp [x1, x2] at ht ⊢
    all_goals first | rfl | (rw [wrap_in ht]; rfl)

end Go.Proofs.YtbidfbpaeemhhaaDoor

namespace Go.Proofs.YtbidfbpaeemhhaaDoor
open Go.Ev
set_option linter.unusedVariables false
set_option linter.unusedSimpArgs false

theorem total_cons (y : D) (l : List D) : total (y :: l) = nn y + total l := by simp [total]

theorem step_int {i : Nat} {l : List D} (hl : l.length ≤ maxLen) (h : i < l.length) : IntKind.wrap .i64 ((i : Int) + 1) = ((i + 1 : Nat) : Int) := by
  rw [wrap_in]
  · omega
  · rw [inR_iff]; unfold maxLen at hl; omega

/-- How often the total has gone round: only what is left of that at last is an error. -/
theorem sum_loop {N : Nat} {x : D} (hl : (elemsD x).length ≤ maxLen) (hall : ∀ y ∈ elemsD x, inR (nn y) = true) (T : Int) : ∀ (n i : Nat) (v c : Int), i ≤ (elemsD x).length → (elemsD x).length - i < n →
    inR v = true → -(i : Int) ≤ c → c ≤ (i : Int) → v + c * 18446744073709551616 + total ((elemsD x).drop i) = T →
    t52_lp7 Tryd.prog Tryd.f52 N n x v c (i : Int) = bif inR T then some (dat 39 (vv 0 T)) else some (dat 39 (vv 2 0))
  | 0, i, _, _, _, h, _, _, _, _ => by omega
  | n + 1, i, v, c, hi, h, hv, hc1, hc2, hT => by
    rw [t52_lp7_step]
    by_cases hlt : i < (elemsD x).length
    · have h1 : decide ((i : Int) < ((elemsD x).length : Int)) = true := by simpa using hlt
      rw [idx_ok hlt, h1, cond_true, cond_true, Int.toNat_natCast]
      have h2 : (elemsD x).getD i .nil = (elemsD x)[i] := by simp [List.getD, hlt]
      rw [h2, step_int hl hlt]
      rw [List.drop_eq_getElem_cons hlt, total_cons] at hT
      have hy := hall (elemsD x)[i] (List.getElem_mem hlt)
      have hmax : ((elemsD x).length : Int) ≤ 9223372036854775807 := by unfold maxLen at hl; omega
      generalize (elemsD x)[i] = y at *
      have hnn : intD (fieldD y 1) = nn y := rfl
      rw [hnn]
      generalize nn y = b at *
      have hs := wrap_inR (v + b)
      have hvb := hv
      have hbb := hy
      rw [inR_iff] at hvb hbb
      cases ho : addOK v b with
      | true =>
        have ho' : inR (v + b) = true := ho
        rw [wrap_in ho']
        refine Eq.trans ?_ (sum_loop (N := N) hl hall T n (i + 1) (v + b) c (by omega) (by omega) ho' (by omega) (by omega) (by omega))
        rfl
      | false =>
        have ho' : inR (v + b) = false := ho
        rw [inR_not] at ho'
        by_cases hb0 : b > 0
        · have d : decide (b > 0) = true := by simpa using hb0
          have hw : IntKind.wrap .i64 (v + b) = v + b - 18446744073709551616 := by rw [wrap64_eq]; omega
          have hc : IntKind.wrap .i64 (c + 1) = c + 1 := wrap_in (by rw [inR_iff]; omega)
          rw [d, hc]
          refine Eq.trans ?_ (sum_loop (N := N) hl hall T n (i + 1) (IntKind.wrap .i64 (v + b)) (c + 1) (by omega) (by omega) hs (by omega) (by omega) (by rw [hw]; omega))
          rfl
        · have d : decide (b > 0) = false := by simpa using hb0
          have hw : IntKind.wrap .i64 (v + b) = v + b + 18446744073709551616 := by rw [wrap64_eq]; omega
          have hc : IntKind.wrap .i64 (c - 1) = c - 1 := wrap_in (by rw [inR_iff]; omega)
          rw [d, hc]
          refine Eq.trans ?_ (sum_loop (N := N) hl hall T n (i + 1) (IntKind.wrap .i64 (v + b)) (c - 1) (by omega) (by omega) hs (by omega) (by omega) (by rw [hw]; omega))
          rfl
    · have h1 : decide ((i : Int) < ((elemsD x).length : Int)) = false := by simpa using hlt
      have h2 : (elemsD x).drop i = [] := List.drop_of_length_le (by omega)
      rw [h1, cond_false]
      rw [h2] at hT
      have ht0 : total [] = 0 := rfl
      rw [ht0] at hT
      rw [inR_iff] at hv
      by_cases hc0 : c = 0
      · subst hc0
        have hTv : T = v := by omega
        have hin : inR T = true := by rw [inR_iff]; omega
        rw [hin, hTv]
        rfl
      · have hin : inR T = false := by rw [inR_not]; omega
        have hne : (c != 0) = true := by simpa using hc0
        rw [hin, hne]
        rfl

theorem k52 : FnOK Tryd.prog 52 Tryd.f52 := ⟨Tryd.func52, rfl, by kernel_rfl⟩
theorem elems_nn {n : Nat} {x : D} (hx : Ty Tryd.prog n 34 x) : ∀ y ∈ elemsD x, inR (nn y) = true := by
  obtain ⟨es, rfl, _, hall⟩ := ty28 hx
  intro y hy
  obtain ⟨k, m, rfl, _, h⟩ := hall y hy
  exact h
theorem c52 : ∀ args d, e52.2.2.2 args = some d → CallOK Tryd.prog 52 args (mkRes Tryd.prog 39 d) :=
  ent1 k52 fun x d h ⟨_, hx⟩ => by
    cases h
    rw [n28]
    refine fn_ok (fuel := (elemsD x).length + 1) hm env4 k52 ((t52 ((elemsD x).length + 1) x).trans ?_)
    have hs := sum_loop (N := (elemsD x).length + 1) (elems_len hx) (elems_nn hx) (total (elemsD x)) ((elemsD x).length + 1) 0 0 0 (Nat.zero_le _) (by omega) (by decide) (by omega) (by omega) (by rw [List.drop_zero]; omega)
    have hs' : t52_lp7 Tryd.prog Tryd.f52 ((elemsD x).length + 1) ((elemsD x).length + 1) x 0 0 0 = _ := hs
    rw [hs', m23]
    unfold sumD
    cases (elemsD x).any isErr <;> cases (elemsD x).any isNum <;> cases inR (total (elemsD x)) <;> rfl

/-! ### The document's own: by parts of 2^32 -/
def cnt (l : List D) : Nat := (l.filter isNum).length

theorem nul_nn {y : D} (hy : ∃ k m, y = vv k m ∧ inR k = true ∧ inR m = true) (h2 : (kk (readD y) == 2) = false) (h0 : (kk (readD y) == 0) = false) : isNum y = false ∧ nn y = 0 := by
  obtain ⟨k, m, rfl, _, _⟩ := hy
  rcases read_cases k m with ⟨_, e⟩ | ⟨rfl, rfl, e⟩ | ⟨_, _, e⟩
  · rw [e] at h0; simp [kk_vv] at h0
  · exact ⟨rfl, rfl⟩
  · rw [e] at h2; simp [kk_vv] at h2

theorem num_read {y : D} (hy : ∃ k m, y = vv k m ∧ inR k = true ∧ inR m = true) (h0 : (kk (readD y) == 0) = true) : isNum y = true ∧ readD y = y := by
  obtain ⟨k, m, rfl, _, _⟩ := hy
  rcases read_cases k m with ⟨rfl, e⟩ | ⟨_, _, e⟩ | ⟨_, _, e⟩
  · exact ⟨rfl, e⟩
  · rw [e] at h0; simp [kk_vv] at h0
  · rw [e] at h0; simp [kk_vv] at h0

theorem parts32 {b : Int} (hb : inR b = true) : ∃ q p : Int, 0 ≤ p ∧ p < 4294967296 ∧ b = q * 4294967296 + p ∧ -2147483648 ≤ q ∧ q ≤ 2147483647 ∧
    ((Int.tmod b 4294967296 < 0 ∧ IntKind.wrap .i64 (Int.tmod b 4294967296 + 4294967296) = p) ∨ (¬ Int.tmod b 4294967296 < 0 ∧ Int.tmod b 4294967296 = p)) ∧
    IntKind.wrap .i64 (Int.tdiv (IntKind.wrap .i64 (b - p)) 4294967296) = q := by
  have hr := Int.mul_tdiv_add_tmod b 4294967296
  have hrm : (b.tmod 4294967296).natAbs < 4294967296 := by
    rw [Int.natAbs_tmod]
    exact Nat.mod_lt _ (by decide)
  rw [inR_iff] at hb
  refine ⟨b / 4294967296, b % 4294967296, by omega, by omega, by omega, by omega, by omega, ?_, ?_⟩
  · by_cases hneg : b.tmod 4294967296 < 0
    · left
      refine ⟨hneg, ?_⟩
      rw [wrap_in (by rw [inR_iff]; omega)]
      omega
    · right
      exact ⟨hneg, by omega⟩
  · have e1 : IntKind.wrap .i64 (b - b % 4294967296) = b / 4294967296 * 4294967296 := by rw [wrap_in (by rw [inR_iff]; omega)]; omega
    rw [e1, Int.mul_tdiv_cancel _ (by decide)]
    exact wrap_in (by rw [inR_iff]; omega)

theorem ref_sum_end {h l m : Int} {T : Int} (hl0 : 0 ≤ l) (hl1 : l ≤ 4294967296000) (hh : -2147483648000 ≤ h) (hh' : h ≤ 2147483648000) (hT : h * 4294967296 + l = T) :
    (bif ((decide ((IntKind.wrap .i64 (h + (IntKind.wrap .i64 (Int.tdiv l 4294967296)))) > 2147483647)) == false) then
        bif decide ((IntKind.wrap .i64 (h + (IntKind.wrap .i64 (Int.tdiv l 4294967296)))) < (-2147483648)) then
          some (dat 39 (.agg [.lit (.int .i64 2), .lit (.int .i64 0)]))
        else some (dat 39 (.agg [.lit (.int .i64 0), .lit (.int .i64 (IntKind.wrap .i64 ((IntKind.wrap .i64 ((IntKind.wrap .i64 (h + (IntKind.wrap .i64 (Int.tdiv l 4294967296)))) * 4294967296)) + (Int.tmod l 4294967296))))]))
      else some (dat 39 (.agg [.lit (.int .i64 2), .lit (.int .i64 0)]))) = bif inR T then some (dat 39 (vv 0 T)) else some (dat 39 (vv 2 0)) := by
  have e1 : Int.tdiv l 4294967296 = l / 4294967296 := Int.tdiv_eq_ediv_of_nonneg hl0
  have e2 : Int.tmod l 4294967296 = l % 4294967296 := Int.tmod_eq_emod_of_nonneg hl0
  have e3 : IntKind.wrap .i64 (l / 4294967296) = l / 4294967296 := wrap_in (by rw [inR_iff]; omega)
  have e4 : IntKind.wrap .i64 (h + l / 4294967296) = h + l / 4294967296 := wrap_in (by rw [inR_iff]; omega)
  rw [e1, e2, e3, e4]
  by_cases c1 : h + l / 4294967296 > 2147483647
  · have d1 : decide (h + l / 4294967296 > 2147483647) = true := by simpa using c1
    have hin : inR T = false := by rw [inR_not]; omega
    rw [d1, hin]; rfl
  · have d1 : decide (h + l / 4294967296 > 2147483647) = false := by simpa using c1
    by_cases c2 : h + l / 4294967296 < -2147483648
    · have d2 : decide (h + l / 4294967296 < (-2147483648)) = true := by simpa using c2
      have hin : inR T = false := by rw [inR_not]; omega
      rw [d1, d2, hin]; rfl
    · have d2 : decide (h + l / 4294967296 < (-2147483648)) = false := by simpa using c2
      have hin : inR T = true := by rw [inR_iff]; omega
      have e5 : IntKind.wrap .i64 ((h + l / 4294967296) * 4294967296) = (h + l / 4294967296) * 4294967296 := wrap_in (by rw [inR_iff]; omega)
      have e6 : (h + l / 4294967296) * 4294967296 + l % 4294967296 = T := by omega
      rw [d1, d2, hin, e5, e6, wrap_in hin]
      rfl

theorem cnt_any (l : List D) : ((0 : Int) + (cnt l : Int) == 0) = !(l.any isNum) := by
  unfold cnt
  induction l with
  | nil => rfl
  | cons y l ih =>
    rw [List.filter_cons, List.any_cons]
    cases isNum y with
    | true =>
      simp
      omega
    | false => simpa using ih

theorem env5 : EnvOK Tryd.prog (envOf T5) := (envOK_cons env4 c52)

end Go.Proofs.YtbidfbpaeemhhaaDoor

namespace Go.Proofs.YtbidfbpaeemhhaaDoor
open Go.Ev
set_option linter.unusedVariables false
set_option linter.unusedSimpArgs false

theorem reckon_of {fits : Bool} {v w : Int} {x y : D} (hw : fits = true → w = v) :
    (bif (!(isNum (ifNum 0 [x, y]))) then some (dat 39 (ifNum 0 [x, y]))
     else bif (!fits) then some (dat 39 (.agg [.lit (.int .i64 2), .lit (.int .i64 0)])) else some (dat 39 (.agg [.lit (.int .i64 0), .lit (.int .i64 w)]))) = some (dat 39 (reck fits v x y)) := by
  unfold ifNum reck
  cases [x, y].any isErr <;> cases [x, y].any isNul <;> cases fits <;> try rfl
  rw [hw rfl]
  rfl

theorem env6 : EnvOK Tryd.prog (envOf T6) := env5

theorem env7 : EnvOK Tryd.prog (envOf T7) := env6

theorem env8 : EnvOK Tryd.prog (envOf T8) := env7

end Go.Proofs.YtbidfbpaeemhhaaDoor
