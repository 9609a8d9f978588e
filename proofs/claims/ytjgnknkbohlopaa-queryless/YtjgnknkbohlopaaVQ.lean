/- Layer 1, the rest of its functions. Nothing here is trusted. -/
import Derived.Test.YtjgnknkbohlopaaVP
namespace Go.Proofs.Ytjgnknkbohlopaa
open Go.Ev
set_option linter.unusedVariables false
set_option linter.unusedSimpArgs false

/-- A value that counts as it stands, by cases. -/
theorem read_cases (k m : Int) : (k = 0 ∧ readD (vv k m) = vv 0 m) ∨ (k = 1 ∧ m = 0 ∧ readD (vv k m) = vv 1 0) ∨ (k ≠ 0 ∧ ¬ (k = 1 ∧ m = 0) ∧ readD (vv k m) = vv 2 0) := by
  by_cases h0 : k = 0
  · subst h0; exact .inl ⟨rfl, rfl⟩
  · by_cases h1 : k = 1 ∧ m = 0
    · obtain ⟨rfl, rfl⟩ := h1; exact .inr (.inl ⟨rfl, rfl, rfl⟩)
    · refine .inr (.inr ⟨h0, h1, ?_⟩)
      unfold readD mayB
      rw [kk_vv, nn_vv]
      have e0 : (k == 0) = false := by simpa using h0
      rw [e0]
      by_cases h2 : k = 2 ∧ m = 0
      · obtain ⟨rfl, rfl⟩ := h2; rfl
      · have : (false || (k == 1 || k == 2) && m == 0) = false := by
          simp
          omega
        rw [this]
        rfl

theorem kk_read (x : D) : (kk (readD x) == 2) = isErr x := rfl

theorem idx_ok {i n : Nat} (h : i < n) : (decide (0 ≤ (i : Int)) && decide ((i : Int) < (n : Int))) = true := by simp [h]

/-- A loop that looks for one of a list. -/
theorem any_loop (LP : Nat → Int → Option AV) (l : List D) (p : D → Bool) (T F : Option AV) (hl : l.length ≤ maxLen)
    (hstep : ∀ (n : Nat) (v : Int), LP (n + 1) v = bif decide (v < (l.length : Int)) then
      bif (decide (0 ≤ v) && decide (v < (l.length : Int))) then bif p (l.getD (v).toNat .nil) then T else LP n (IntKind.wrap .i64 (v + 1)) else none else F) :
    ∀ (n i : Nat), i ≤ l.length → l.length - i < n → LP n (i : Int) = bif (l.drop i).any p then T else F
  | 0, i, _, h => by omega
  | n + 1, i, hi, h => by
    rw [hstep]
    by_cases hlt : i < l.length
    · have h1 : decide ((i : Int) < (l.length : Int)) = true := by simpa using hlt
      rw [idx_ok hlt, h1, cond_true, cond_true, List.drop_eq_getElem_cons hlt, List.any_cons, Int.toNat_natCast]
      have h2 : l.getD i .nil = l[i] := by simp [List.getD, hlt]
      rw [h2]
      have hw : IntKind.wrap .i64 ((i : Int) + 1) = ((i + 1 : Nat) : Int) := by
        rw [wrap_in]
        · omega
        · rw [inR_iff]; unfold maxLen at hl; omega
      rw [hw, any_loop LP l p T F hl hstep n (i + 1) (by omega) (by omega)]
      cases p l[i] <;> rfl
    · have h1 : decide ((i : Int) < (l.length : Int)) = false := by simpa using hlt
      have h2 : l.drop i = [] := List.drop_of_length_le (by omega)
      rw [h1, h2, cond_false]
      rfl

theorem elems_len {n : Nat} {x : D} (hx : Ty Try.prog n 73 x) : (elemsD x).length ≤ maxLen := by
  obtain ⟨es, rfl, hl, _⟩ := ty28 hx
  exact hl

/-! ### T2 -/
theorem k102 : FnOK Try.prog 102 Try.f102 := ⟨Try.func102, rfl, by kernel_rfl⟩
theorem c102 : ∀ args d, ent [38] (f1 fun x => some (readD x)) args = some d → CallOK Try.prog 102 args (mkRes Try.prog 38 d) :=
  ent1 k102 fun x d h _ => by
    cases h
    rw [n23]
    refine fn_ok hm env1 k102 ((t102 1 x).trans ?_)
    rw [m23]
    unfold readD
    cases mayB x <;> rfl
theorem k95 : FnOK Try.prog 95 Try.f95 := ⟨Try.func95, rfl, by kernel_rfl⟩
theorem c95 : ∀ args d, ent [38] (f1 fun x => some (.lit (.bool (isFal x)))) args = some d → CallOK Try.prog 95 args (mkRes Try.prog 4 d) :=
  ent1 k95 fun x d h _ => by
    cases h
    rw [n23]
    refine fn_ok hm env1 k95 ((t95 1 x).trans ?_)
    rw [m4, Bool.and_true]
    rfl
theorem env2 : EnvOK Try.prog (envOf T2) := (envOK_cons (envOK_cons env1 c95) c102)

/-! ### T3 -/
theorem k100 : FnOK Try.prog 100 Try.f100 := ⟨Try.func100, rfl, by kernel_rfl⟩
theorem c100 : ∀ args d, ent [38] (f1 fun x => some (.lit (.bool (isErr x)))) args = some d → CallOK Try.prog 100 args (mkRes Try.prog 4 d) :=
  ent1 k100 fun x d h _ => by
    cases h
    rw [n23]
    refine fn_ok hm env2 k100 ((t100 1 x).trans ?_)
    rw [m4]
    rfl
theorem k101 : FnOK Try.prog 101 Try.f101 := ⟨Try.func101, rfl, by kernel_rfl⟩
theorem c101 : ∀ args d, ent [38] (f1 fun x => some (.lit (.bool (isNul x)))) args = some d → CallOK Try.prog 101 args (mkRes Try.prog 4 d) :=
  ent1 k101 fun x d h _ => by
    cases h
    rw [n23]
    refine fn_ok hm env2 k101 ((t101 1 x).trans ?_)
    rw [m4]
    rfl
theorem env3 : EnvOK Try.prog (envOf T3) := (envOK_cons (envOK_cons env2 c101) c100)

/-! ### T4 -/
theorem some_52 {n : Nat} {x : D} (hx : Ty Try.prog n 73 x) : evFn Try.prog (envOf T3) t94_95_h ((elemsD x).length + 1) Try.f94 [dat 73 x, dat 80 (.held (.func (.func 95) #[] #[]))] = some (dat 4 (.lit (.bool ((elemsD x).any isFal)))) := by
  rw [t94_95]
  have h := any_loop (fun n v => t94_95_lp2 Try.prog Try.f94 ((elemsD x).length + 1) n x v) (elemsD x) isFal (some (dat 4 (.lit (.bool true)))) (some (dat 4 (.lit (.bool false)))) (elems_len hx)
    (fun n v => t94_95_lp2_step ((elemsD x).length + 1) n x v) ((elemsD x).length + 1) 0 (Nat.zero_le _) (by omega)
  rw [List.drop_zero] at h
  refine Eq.trans h ?_
  cases (elemsD x).any isFal <;> rfl
theorem some_36 {n : Nat} {x : D} (hx : Ty Try.prog n 73 x) : evFn Try.prog (envOf T3) t94_96_h ((elemsD x).length + 1) Try.f94 [dat 73 x, dat 80 (.held (.func (.func 96) #[] #[]))] = some (dat 4 (.lit (.bool ((elemsD x).any isTru)))) := by
  rw [t94_96]
  have h := any_loop (fun n v => t94_96_lp2 Try.prog Try.f94 ((elemsD x).length + 1) n x v) (elemsD x) isTru (some (dat 4 (.lit (.bool true)))) (some (dat 4 (.lit (.bool false)))) (elems_len hx)
    (fun n v => t94_96_lp2_step ((elemsD x).length + 1) n x v) ((elemsD x).length + 1) 0 (Nat.zero_le _) (by omega)
  rw [List.drop_zero] at h
  refine Eq.trans h ?_
  cases (elemsD x).any isTru <;> rfl
theorem some_53 {n : Nat} {x : D} (hx : Ty Try.prog n 73 x) : evFn Try.prog (envOf T3) t94_100_h ((elemsD x).length + 1) Try.f94 [dat 73 x, dat 80 (.held (.func (.func 100) #[] #[]))] = some (dat 4 (.lit (.bool ((elemsD x).any isErr)))) := by
  rw [t94_100]
  have h := any_loop (fun n v => t94_100_lp2 Try.prog Try.f94 ((elemsD x).length + 1) n x v) (elemsD x) isErr (some (dat 4 (.lit (.bool true)))) (some (dat 4 (.lit (.bool false)))) (elems_len hx)
    (fun n v => t94_100_lp2_step ((elemsD x).length + 1) n x v) ((elemsD x).length + 1) 0 (Nat.zero_le _) (by omega)
  rw [List.drop_zero] at h
  refine Eq.trans h ?_
  cases (elemsD x).any isErr <;> rfl
theorem some_55 {n : Nat} {x : D} (hx : Ty Try.prog n 73 x) : evFn Try.prog (envOf T3) t94_98_h ((elemsD x).length + 1) Try.f94 [dat 73 x, dat 80 (.held (.func (.func 98) #[] #[]))] = some (dat 4 (.lit (.bool ((elemsD x).any isNum)))) := by
  rw [t94_98]
  have h := any_loop (fun n v => t94_98_lp2 Try.prog Try.f94 ((elemsD x).length + 1) n x v) (elemsD x) isNum (some (dat 4 (.lit (.bool true)))) (some (dat 4 (.lit (.bool false)))) (elems_len hx)
    (fun n v => t94_98_lp2_step ((elemsD x).length + 1) n x v) ((elemsD x).length + 1) 0 (Nat.zero_le _) (by omega)
  rw [List.drop_zero] at h
  refine Eq.trans h ?_
  cases (elemsD x).any isNum <;> rfl
theorem some_56 {n : Nat} {x : D} (hx : Ty Try.prog n 73 x) : evFn Try.prog (envOf T3) t94_101_h ((elemsD x).length + 1) Try.f94 [dat 73 x, dat 80 (.held (.func (.func 101) #[] #[]))] = some (dat 4 (.lit (.bool ((elemsD x).any isNul)))) := by
  rw [t94_101]
  have h := any_loop (fun n v => t94_101_lp2 Try.prog Try.f94 ((elemsD x).length + 1) n x v) (elemsD x) isNul (some (dat 4 (.lit (.bool true)))) (some (dat 4 (.lit (.bool false)))) (elems_len hx)
    (fun n v => t94_101_lp2_step ((elemsD x).length + 1) n x v) ((elemsD x).length + 1) 0 (Nat.zero_le _) (by omega)
  rw [List.drop_zero] at h
  refine Eq.trans h ?_
  cases (elemsD x).any isNul <;> rfl
theorem k94 : FnOK Try.prog 94 Try.f94 := ⟨Try.func94, rfl, by kernel_rfl⟩
theorem ty25 {n : Nat} {x : D} {t : TypeId} {p q : Array TypeId} {r : Bool} {f : FuncId} (hu : Try.prog.underlying t = some (.func p q r)) (h : Ty Try.prog n t x) (hf : fnD x = some f) : x = .held (.func (.func f) #[] #[]) := by
  cases n with
  | zero => exact h.elim
  | succ n =>
    unfold Ty at h
    rw [hu] at h
    split at h <;> try (exact h.elim)
    all_goals try (simp_all; done)
    · rename_i v heq
      rcases h with rfl | ⟨g, rfl⟩
      · simp [fnD] at hf
      · simp only [fnD, Option.some.injEq] at hf
        rw [hf]
    · simp [fnD] at hf

theorem c94 : ∀ args d, e94.2.2.2 args = some d → CallOK Try.prog 94 args (mkRes Try.prog 4 d) :=
  ent2 k94 fun x y d h ⟨_, hx⟩ ⟨_, hy⟩ => by
    rw [n28, n25]
    split at h
    · rename_i hf
      cases h
      rw [ty25 u25 hy hf]
      refine fn_ok hm env3 k94 ((some_52 hx).trans ?_)
      rw [m4]
      rfl
    · rename_i hf
      cases h
      rw [ty25 u25 hy hf]
      refine fn_ok hm env3 k94 ((some_36 hx).trans ?_)
      rw [m4]
      rfl
    · rename_i hf
      cases h
      rw [ty25 u25 hy hf]
      refine fn_ok hm env3 k94 ((some_53 hx).trans ?_)
      rw [m4]
      rfl
    · rename_i hf
      cases h
      rw [ty25 u25 hy hf]
      refine fn_ok hm env3 k94 ((some_55 hx).trans ?_)
      rw [m4]
      rfl
    · rename_i hf
      cases h
      rw [ty25 u25 hy hf]
      refine fn_ok hm env3 k94 ((some_56 hx).trans ?_)
      rw [m4]
      rfl
    · cases h

/-- Of values that may be, an error is the one that is read as such. -/
theorem err_read {y : D} (hy : ∃ k m, y = vv k m ∧ inR k = true ∧ inR m = true) (h : (kk (readD y) == 2) = true) : readD y = vv 2 0 := by
  obtain ⟨k, m, rfl, _, _⟩ := hy
  rcases read_cases k m with ⟨_, e⟩ | ⟨_, _, e⟩ | ⟨_, _, e⟩
  · rw [e] at h; simp [kk_vv] at h
  · rw [e] at h; simp [kk_vv] at h
  · exact e

theorem env4 : EnvOK Try.prog (envOf T4) := (envOK_cons env3 c94)

end Go.Proofs.Ytjgnknkbohlopaa

namespace Go.Proofs.Ytjgnknkbohlopaa
open Go.Ev
set_option linter.unusedVariables false
set_option linter.unusedSimpArgs false

theorem vdef (k m : Int) : (.agg [.lit (.int .i64 k), .lit (.int .i64 m)] : D) = vv k m := rfl

/-! ### T5 -/
theorem k92 : FnOK Try.prog 92 Try.f92 := ⟨Try.func92, rfl, by kernel_rfl⟩
theorem c92 : ∀ args d, e92.2.2.2 args = some d → CallOK Try.prog 92 args (mkRes Try.prog 38 d) :=
  ent2 k92 fun x y d h _ _ => by
    cases h
    rw [n3, n28]
    refine fn_ok hm env4 k92 ((t92 1 (intD x) y).trans ?_)
    rw [m23]
    unfold ifNum
    cases (elemsD y).any isErr <;> cases (elemsD y).any isNul <;> rfl

/-- The document's own shape: odd values first. -/
theorem reck_of {fits : Bool} {v : Int} {x y : D} {t : Option AV} (ht : t = bif fits then some (dat 38 (vv 0 v)) else some (dat 38 (vv 2 0))) :
    (bif oddB [x, y] then some (dat 38 (oddD [x, y])) else t) = some (dat 38 (reck fits v x y)) := by
  subst ht
  unfold oddB oddD reck
  cases [x, y].any isErr <;> cases [x, y].any isNul <;> cases fits <;> rfl

theorem ty_nn {n : Nat} {x : D} (h : Ty Try.prog n 38 x) : inR (nn x) = true := by
  obtain ⟨k, m, rfl, _, h2⟩ := ty23 h
  exact h2

theorem ref_add {a b : Int} (ha : inR a = true) (hb : inR b = true) : (bif ((decide (b > 0)) == true) then
      bif ((decide (a > (IntKind.wrap .i64 (9223372036854775807 - b)))) == false) then
        bif ((decide (b < 0)) == true) then bif decide (a < (IntKind.wrap .i64 ((-9223372036854775808) - b))) then some (dat 38 (.agg [.lit (.int .i64 2), .lit (.int .i64 0)])) else some (dat 38 (.agg [.lit (.int .i64 0), .lit (.int .i64 (IntKind.wrap .i64 (a + b)))])) else some (dat 38 (.agg [.lit (.int .i64 0), .lit (.int .i64 (IntKind.wrap .i64 (a + b)))]))
      else some (dat 38 (.agg [.lit (.int .i64 2), .lit (.int .i64 0)]))
    else bif ((decide (b < 0)) == true) then bif decide (a < (IntKind.wrap .i64 ((-9223372036854775808) - b))) then some (dat 38 (.agg [.lit (.int .i64 2), .lit (.int .i64 0)])) else some (dat 38 (.agg [.lit (.int .i64 0), .lit (.int .i64 (IntKind.wrap .i64 (a + b)))])) else some (dat 38 (.agg [.lit (.int .i64 0), .lit (.int .i64 (IntKind.wrap .i64 (a + b)))]))) = bif inR (a + b) then some (dat 38 (vv 0 (a + b))) else some (dat 38 (vv 2 0)) := by
  rw [inR_iff] at ha hb
  by_cases hb0 : b > 0
  · have e1 : IntKind.wrap .i64 (9223372036854775807 - b) = 9223372036854775807 - b := wrap_in (by rw [inR_iff]; omega)
    have d1 : decide (b > 0) = true := by simpa using hb0
    have d2 : decide (b < 0) = false := by simp; omega
    cases hin : inR (a + b) with
    | true =>
      have hw := wrap_in hin
      rw [inR_iff] at hin
      have d3 : decide (a > 9223372036854775807 - b) = false := by simp; omega
      rw [e1, d1, d2, d3, hw]; rfl
    | false =>
      rw [inR_not] at hin
      have d3 : decide (a > 9223372036854775807 - b) = true := by simp; omega
      rw [e1, d1, d2, d3]; rfl
  · have d1 : decide (b > 0) = false := by simpa using hb0
    by_cases hb1 : b < 0
    · have e1 : IntKind.wrap .i64 ((-9223372036854775808) - b) = (-9223372036854775808) - b := wrap_in (by rw [inR_iff]; omega)
      have d2 : decide (b < 0) = true := by simpa using hb1
      cases hin : inR (a + b) with
      | true =>
        have hw := wrap_in hin
        rw [inR_iff] at hin
        have d3 : decide (a < (-9223372036854775808) - b) = false := by simp; omega
        rw [e1, d1, d2, d3, hw]; rfl
      | false =>
        rw [inR_not] at hin
        have d3 : decide (a < (-9223372036854775808) - b) = true := by simp; omega
        rw [e1, d1, d2, d3]; rfl
    · have d2 : decide (b < 0) = false := by simpa using hb1
      have hin : inR (a + b) = true := by rw [inR_iff]; omega
      rw [d1, d2, wrap_in hin, hin]; rfl

theorem ref_sub {a b : Int} (ha : inR a = true) (hb : inR b = true) : (bif ((decide (b < 0)) == true) then
      bif ((decide (a > (IntKind.wrap .i64 (9223372036854775807 + b)))) == false) then
        bif ((decide (b > 0)) == true) then bif decide (a < (IntKind.wrap .i64 ((-9223372036854775808) + b))) then some (dat 38 (.agg [.lit (.int .i64 2), .lit (.int .i64 0)])) else some (dat 38 (.agg [.lit (.int .i64 0), .lit (.int .i64 (IntKind.wrap .i64 (a - b)))])) else some (dat 38 (.agg [.lit (.int .i64 0), .lit (.int .i64 (IntKind.wrap .i64 (a - b)))]))
      else some (dat 38 (.agg [.lit (.int .i64 2), .lit (.int .i64 0)]))
    else bif ((decide (b > 0)) == true) then bif decide (a < (IntKind.wrap .i64 ((-9223372036854775808) + b))) then some (dat 38 (.agg [.lit (.int .i64 2), .lit (.int .i64 0)])) else some (dat 38 (.agg [.lit (.int .i64 0), .lit (.int .i64 (IntKind.wrap .i64 (a - b)))])) else some (dat 38 (.agg [.lit (.int .i64 0), .lit (.int .i64 (IntKind.wrap .i64 (a - b)))]))) = bif inR (a - b) then some (dat 38 (vv 0 (a - b))) else some (dat 38 (vv 2 0)) := by
  rw [inR_iff] at ha hb
  by_cases hb0 : b < 0
  · have e1 : IntKind.wrap .i64 (9223372036854775807 + b) = 9223372036854775807 + b := wrap_in (by rw [inR_iff]; omega)
    have d1 : decide (b < 0) = true := by simpa using hb0
    have d2 : decide (b > 0) = false := by simp; omega
    cases hin : inR (a - b) with
    | true =>
      have hw := wrap_in hin
      rw [inR_iff] at hin
      have d3 : decide (a > 9223372036854775807 + b) = false := by simp; omega
      rw [e1, d1, d2, d3, hw]; rfl
    | false =>
      rw [inR_not] at hin
      have d3 : decide (a > 9223372036854775807 + b) = true := by simp; omega
      rw [e1, d1, d2, d3]; rfl
  · have d1 : decide (b < 0) = false := by simpa using hb0
    by_cases hb1 : b > 0
    · have e1 : IntKind.wrap .i64 ((-9223372036854775808) + b) = (-9223372036854775808) + b := wrap_in (by rw [inR_iff]; omega)
      have d2 : decide (b > 0) = true := by simpa using hb1
      cases hin : inR (a - b) with
      | true =>
        have hw := wrap_in hin
        rw [inR_iff] at hin
        have d3 : decide (a < (-9223372036854775808) + b) = false := by simp; omega
        rw [e1, d1, d2, d3, hw]; rfl
      | false =>
        rw [inR_not] at hin
        have d3 : decide (a < (-9223372036854775808) + b) = true := by simp; omega
        rw [e1, d1, d2, d3]; rfl
    · have d2 : decide (b > 0) = false := by simpa using hb1
      have hin : inR (a - b) = true := by rw [inR_iff]; omega
      rw [d1, d2, wrap_in hin, hin]; rfl

theorem ref_quot {a b : Int} (ha : inR a = true) (hb : inR b = true) (h0 : b ≠ 0) (h1 : ¬ (b = -1 ∧ a = -9223372036854775808)) :
    (bif (!(b == 0)) then bif ((IntKind.wrap .i64 (Int.tdiv (IntKind.wrap .i64 (a * b)) b) != a) == false) then bif (!(b == 0)) then bif (Int.tmod (IntKind.wrap .i64 (a * b)) b != 0) then some (dat 38 (.agg [.lit (.int .i64 2), .lit (.int .i64 0)])) else some (dat 38 (.agg [.lit (.int .i64 0), .lit (.int .i64 (IntKind.wrap .i64 (a * b)))])) else none else some (dat 38 (.agg [.lit (.int .i64 2), .lit (.int .i64 0)])) else none) = bif inR (a * b) then some (dat 38 (vv 0 (a * b))) else some (dat 38 (vv 2 0)) := by
  have b0 : (b == 0) = false := by simpa using h0
  have key : (IntKind.wrap .i64 (Int.tdiv (IntKind.wrap .i64 (a * b)) b) == a) = inR (a * b) := by
    by_cases hb1 : b = -1
    · subst hb1
      have hin : inR (a * -1) = true := by rw [inR_iff] at ha ⊢; omega
      have hin2 : inR (Int.tdiv (a * -1) (-1)) = true := by rw [Int.mul_tdiv_cancel _ (by decide)]; exact ha
      rw [wrap_in hin, wrap_in hin2, hin, Int.mul_tdiv_cancel _ (by decide)]
      simp
    · have := quot_fits hb ha h0 hb1
      rw [Int.mul_comm b a] at this
      exact this
  have key2 : (IntKind.wrap .i64 (Int.tdiv (IntKind.wrap .i64 (a * b)) b) != a) = !inR (a * b) := by rw [← key]; rfl
  rw [key2, b0]
  cases hin : inR (a * b) with
  | true =>
    have hw := wrap_in hin
    rw [hw]
    have : (Int.tmod (a * b) b != 0) = false := by rw [Int.mul_tmod_left]; rfl
    rw [this]
    rfl
  | false => rfl

theorem ref_mul {a b : Int} (ha : inR a = true) (hb : inR b = true) : (bif ((a == 0) == false) then
      bif (b == 0) then some (dat 38 (.agg [.lit (.int .i64 0), .lit (.int .i64 0)]))
      else bif ((a == (-1)) == true) then
          bif ((b == (-9223372036854775808)) == false) then
            bif ((b == (-1)) == true) then bif (a == (-9223372036854775808)) then some (dat 38 (.agg [.lit (.int .i64 2), .lit (.int .i64 0)])) else bif (!(b == 0)) then bif ((IntKind.wrap .i64 (Int.tdiv (IntKind.wrap .i64 (a * b)) b) != a) == false) then bif (!(b == 0)) then bif (Int.tmod (IntKind.wrap .i64 (a * b)) b != 0) then some (dat 38 (.agg [.lit (.int .i64 2), .lit (.int .i64 0)])) else some (dat 38 (.agg [.lit (.int .i64 0), .lit (.int .i64 (IntKind.wrap .i64 (a * b)))])) else none else some (dat 38 (.agg [.lit (.int .i64 2), .lit (.int .i64 0)])) else none
            else bif (!(b == 0)) then bif ((IntKind.wrap .i64 (Int.tdiv (IntKind.wrap .i64 (a * b)) b) != a) == false) then bif (!(b == 0)) then bif (Int.tmod (IntKind.wrap .i64 (a * b)) b != 0) then some (dat 38 (.agg [.lit (.int .i64 2), .lit (.int .i64 0)])) else some (dat 38 (.agg [.lit (.int .i64 0), .lit (.int .i64 (IntKind.wrap .i64 (a * b)))])) else none else some (dat 38 (.agg [.lit (.int .i64 2), .lit (.int .i64 0)])) else none
          else some (dat 38 (.agg [.lit (.int .i64 2), .lit (.int .i64 0)]))
        else bif ((b == (-1)) == true) then bif (a == (-9223372036854775808)) then some (dat 38 (.agg [.lit (.int .i64 2), .lit (.int .i64 0)])) else bif (!(b == 0)) then bif ((IntKind.wrap .i64 (Int.tdiv (IntKind.wrap .i64 (a * b)) b) != a) == false) then bif (!(b == 0)) then bif (Int.tmod (IntKind.wrap .i64 (a * b)) b != 0) then some (dat 38 (.agg [.lit (.int .i64 2), .lit (.int .i64 0)])) else some (dat 38 (.agg [.lit (.int .i64 0), .lit (.int .i64 (IntKind.wrap .i64 (a * b)))])) else none else some (dat 38 (.agg [.lit (.int .i64 2), .lit (.int .i64 0)])) else none
          else bif (!(b == 0)) then bif ((IntKind.wrap .i64 (Int.tdiv (IntKind.wrap .i64 (a * b)) b) != a) == false) then bif (!(b == 0)) then bif (Int.tmod (IntKind.wrap .i64 (a * b)) b != 0) then some (dat 38 (.agg [.lit (.int .i64 2), .lit (.int .i64 0)])) else some (dat 38 (.agg [.lit (.int .i64 0), .lit (.int .i64 (IntKind.wrap .i64 (a * b)))])) else none else some (dat 38 (.agg [.lit (.int .i64 2), .lit (.int .i64 0)])) else none
    else some (dat 38 (.agg [.lit (.int .i64 0), .lit (.int .i64 0)]))) = bif inR (a * b) then some (dat 38 (vv 0 (a * b))) else some (dat 38 (vv 2 0)) := by
  by_cases a0 : a = 0
  · subst a0
    have : inR (0 * b) = true := by rw [Int.zero_mul]; decide
    rw [this, Int.zero_mul]; rfl
  · have A0 : (a == 0) = false := by simpa using a0
    by_cases b0 : b = 0
    · subst b0
      have : inR (a * 0) = true := by rw [Int.mul_zero]; decide
      rw [this, A0, Int.mul_zero]; rfl
    · have B0 : (b == 0) = false := by simpa using b0
      by_cases hbad : b = -1 ∧ a = -9223372036854775808
      · obtain ⟨rfl, rfl⟩ := hbad
        rfl
      · by_cases hbad2 : a = -1 ∧ b = -9223372036854775808
        · obtain ⟨rfl, rfl⟩ := hbad2
          rfl
        · have hq := ref_quot ha hb b0 hbad
          rw [hq, A0, B0]
          have M1 : (a == (-1) && b == (-9223372036854775808)) = false := by
            simp; omega
          have M2 : (b == (-1) && a == (-9223372036854775808)) = false := by
            simp; omega
          cases x1 : (a == (-1)) <;> cases x2 : (b == (-9223372036854775808)) <;> cases x3 : (b == (-1)) <;> cases x4 : (a == (-9223372036854775808)) <;> simp [x1, x2, x3, x4] at M1 M2 ⊢

theorem ref_div {a b : Int} (ha : inR a = true) : (bif ((b == 0) == false) then
      bif ((b == (-1)) == true) then
        bif (a == (-9223372036854775808)) then some (dat 38 (.agg [.lit (.int .i64 2), .lit (.int .i64 0)]))
        else bif (!(b == 0)) then some (dat 38 (.agg [.lit (.int .i64 0), .lit (.int .i64 (IntKind.wrap .i64 (Int.tdiv a b)))])) else none
      else bif (!(b == 0)) then some (dat 38 (.agg [.lit (.int .i64 0), .lit (.int .i64 (IntKind.wrap .i64 (Int.tdiv a b)))])) else none
    else some (dat 38 (.agg [.lit (.int .i64 2), .lit (.int .i64 0)]))) = bif divOK a b then some (dat 38 (vv 0 (divV a b))) else some (dat 38 (vv 2 0)) := by
  unfold divV divOK
  by_cases b0 : b = 0
  · subst b0; rfl
  · have B0 : (b == 0) = false := by simpa using b0
    have ht := tdiv_fits ha b0
    rw [B0, ht]
    cases x1 : (a == (-9223372036854775808)) <;> cases x2 : (b == (-1)) <;> simp [x1, x2] at ht ⊢
    all_goals first | rfl | (rw [wrap_in ht]; rfl)

end Go.Proofs.Ytjgnknkbohlopaa

namespace Go.Proofs.Ytjgnknkbohlopaa
open Go.Ev
set_option linter.unusedVariables false
set_option linter.unusedSimpArgs false

theorem total_cons (y : D) (l : List D) : total (y :: l) = nn y + total l := by simp [total]

theorem step_int {i : Nat} {l : List D} (hl : l.length ≤ maxLen) (h : i < l.length) : IntKind.wrap .i64 ((i : Int) + 1) = ((i + 1 : Nat) : Int) := by
  rw [wrap_in]
  · omega
  · rw [inR_iff]; unfold maxLen at hl; omega

theorem elems_nn {n : Nat} {x : D} (hx : Ty Try.prog n 73 x) : ∀ y ∈ elemsD x, inR (nn y) = true := by
  obtain ⟨es, rfl, _, hall⟩ := ty28 hx
  intro y hy
  obtain ⟨k, m, rfl, _, h⟩ := hall y hy
  exact h
/-! ### The document's own: by parts of 2^32 -/
def cnt (l : List D) : Nat := (l.filter isNum).length

theorem nul_nn {y : D} (hy : ∃ k m, y = vv k m ∧ inR k = true ∧ inR m = true) (h2 : (kk (readD y) == 2) = false) (h0 : (kk (readD y) == 0) = false) : isNum y = false ∧ nn y = 0 := by
  obtain ⟨k, m, rfl, _, _⟩ := hy
  rcases read_cases k m with ⟨_, e⟩ | ⟨rfl, rfl, e⟩ | ⟨_, _, e⟩
  · rw [e] at h0; simp [kk_vv] at h0
  · exact ⟨rfl, rfl⟩
  · rw [e] at h2; simp [kk_vv] at h2

theorem num_read {y : D} (hy : ∃ k m, y = vv k m ∧ inR k = true ∧ inR m = true) (h0 : (kk (readD y) == 0) = true) : isNum y = true ∧ readD y = y := by
  obtain ⟨k, m, rfl, _, _⟩ := hy
  rcases read_cases k m with ⟨rfl, e⟩ | ⟨_, _, e⟩ | ⟨_, _, e⟩
  · exact ⟨rfl, e⟩
  · rw [e] at h0; simp [kk_vv] at h0
  · rw [e] at h0; simp [kk_vv] at h0

theorem parts32 {b : Int} (hb : inR b = true) : ∃ q p : Int, 0 ≤ p ∧ p < 4294967296 ∧ b = q * 4294967296 + p ∧ -2147483648 ≤ q ∧ q ≤ 2147483647 ∧
    ((Int.tmod b 4294967296 < 0 ∧ IntKind.wrap .i64 (Int.tmod b 4294967296 + 4294967296) = p) ∨ (¬ Int.tmod b 4294967296 < 0 ∧ Int.tmod b 4294967296 = p)) ∧
    IntKind.wrap .i64 (Int.tdiv (IntKind.wrap .i64 (b - p)) 4294967296) = q := by
  have hr := Int.mul_tdiv_add_tmod b 4294967296
  have hrm : (b.tmod 4294967296).natAbs < 4294967296 := by
    rw [Int.natAbs_tmod]
    exact Nat.mod_lt _ (by decide)
  rw [inR_iff] at hb
  refine ⟨b / 4294967296, b % 4294967296, by omega, by omega, by omega, by omega, by omega, ?_, ?_⟩
  · by_cases hneg : b.tmod 4294967296 < 0
    · left
      refine ⟨hneg, ?_⟩
      rw [wrap_in (by rw [inR_iff]; omega)]
      omega
    · right
      exact ⟨hneg, by omega⟩
  · have e1 : IntKind.wrap .i64 (b - b % 4294967296) = b / 4294967296 * 4294967296 := by rw [wrap_in (by rw [inR_iff]; omega)]; omega
    rw [e1, Int.mul_tdiv_cancel _ (by decide)]
    exact wrap_in (by rw [inR_iff]; omega)

theorem ref_sum_end {h l m : Int} {T : Int} (hl0 : 0 ≤ l) (hl1 : l ≤ 4294967296000) (hh : -2147483648000 ≤ h) (hh' : h ≤ 2147483648000) (hT : h * 4294967296 + l = T) :
    (bif ((decide ((IntKind.wrap .i64 (h + (IntKind.wrap .i64 (Int.tdiv l 4294967296)))) > 2147483647)) == false) then
        bif decide ((IntKind.wrap .i64 (h + (IntKind.wrap .i64 (Int.tdiv l 4294967296)))) < (-2147483648)) then
          some (dat 38 (.agg [.lit (.int .i64 2), .lit (.int .i64 0)]))
        else some (dat 38 (.agg [.lit (.int .i64 0), .lit (.int .i64 (IntKind.wrap .i64 ((IntKind.wrap .i64 ((IntKind.wrap .i64 (h + (IntKind.wrap .i64 (Int.tdiv l 4294967296)))) * 4294967296)) + (Int.tmod l 4294967296))))]))
      else some (dat 38 (.agg [.lit (.int .i64 2), .lit (.int .i64 0)]))) = bif inR T then some (dat 38 (vv 0 T)) else some (dat 38 (vv 2 0)) := by
  have e1 : Int.tdiv l 4294967296 = l / 4294967296 := Int.tdiv_eq_ediv_of_nonneg hl0
  have e2 : Int.tmod l 4294967296 = l % 4294967296 := Int.tmod_eq_emod_of_nonneg hl0
  have e3 : IntKind.wrap .i64 (l / 4294967296) = l / 4294967296 := wrap_in (by rw [inR_iff]; omega)
  have e4 : IntKind.wrap .i64 (h + l / 4294967296) = h + l / 4294967296 := wrap_in (by rw [inR_iff]; omega)
  rw [e1, e2, e3, e4]
  by_cases c1 : h + l / 4294967296 > 2147483647
  · have d1 : decide (h + l / 4294967296 > 2147483647) = true := by simpa using c1
    have hin : inR T = false := by rw [inR_not]; omega
    rw [d1, hin]; rfl
  · have d1 : decide (h + l / 4294967296 > 2147483647) = false := by simpa using c1
    by_cases c2 : h + l / 4294967296 < -2147483648
    · have d2 : decide (h + l / 4294967296 < (-2147483648)) = true := by simpa using c2
      have hin : inR T = false := by rw [inR_not]; omega
      rw [d1, d2, hin]; rfl
    · have d2 : decide (h + l / 4294967296 < (-2147483648)) = false := by simpa using c2
      have hin : inR T = true := by rw [inR_iff]; omega
      have e5 : IntKind.wrap .i64 ((h + l / 4294967296) * 4294967296) = (h + l / 4294967296) * 4294967296 := wrap_in (by rw [inR_iff]; omega)
      have e6 : (h + l / 4294967296) * 4294967296 + l % 4294967296 = T := by omega
      rw [d1, d2, hin, e5, e6, wrap_in hin]
      rfl

theorem cnt_any (l : List D) : ((0 : Int) + (cnt l : Int) == 0) = !(l.any isNum) := by
  unfold cnt
  induction l with
  | nil => rfl
  | cons y l ih =>
    rw [List.filter_cons, List.any_cons]
    cases isNum y with
    | true =>
      simp
      omega
    | false => simpa using ih

theorem env5 : EnvOK Try.prog (envOf T5) := (envOK_cons env4 c92)

end Go.Proofs.Ytjgnknkbohlopaa

namespace Go.Proofs.Ytjgnknkbohlopaa
open Go.Ev
set_option linter.unusedVariables false
set_option linter.unusedSimpArgs false

theorem k87 : FnOK Try.prog 87 Try.f87 := ⟨Try.func87, rfl, by kernel_rfl⟩
theorem u40 : Try.prog.underlying 111 = some (.func #[3, 3] #[3, 4] false) := by kernel_rfl

theorem reckon_of {fits : Bool} {v w : Int} {x y : D} (hw : fits = true → w = v) :
    (bif (!(isNum (ifNum 0 [x, y]))) then some (dat 38 (ifNum 0 [x, y]))
     else bif (!fits) then some (dat 38 (.agg [.lit (.int .i64 2), .lit (.int .i64 0)])) else some (dat 38 (.agg [.lit (.int .i64 0), .lit (.int .i64 w)]))) = some (dat 38 (reck fits v x y)) := by
  unfold ifNum reck
  cases [x, y].any isErr <;> cases [x, y].any isNul <;> cases fits <;> try rfl
  rw [hw rfl]
  rfl

theorem c87 : ∀ args d, e87.2.2.2 args = some d → CallOK Try.prog 87 args (mkRes Try.prog 38 d) :=
  ent3 k87 fun x y z d h ⟨_, hx⟩ _ _ => by
    rw [n40, n23, n23]
    split at h
    · rename_i hf
      cases h
      rw [ty25 u40 hx hf]
      refine fn_ok hm env5 k87 ((t87_88 1 y z).trans ?_)
      rw [m23]
      exact reckon_of wrap_in
    · rename_i hf
      cases h
      rw [ty25 u40 hx hf]
      refine fn_ok hm env5 k87 ((t87_89 1 y z).trans ?_)
      rw [m23]
      exact reckon_of wrap_in
    · rename_i hf
      cases h
      rw [ty25 u40 hx hf]
      refine fn_ok hm env5 k87 ((t87_90 1 y z).trans ?_)
      rw [m23]
      exact reckon_of wrap_in
    · rename_i hf
      cases h
      rw [ty25 u40 hx hf]
      refine fn_ok hm env5 k87 ((t87_91 1 y z).trans ?_)
      rw [m23]
      exact reckon_of fun _ => rfl
    · cases h

theorem k75 : FnOK Try.prog 75 Try.f75 := ⟨Try.func75, rfl, by kernel_rfl⟩
theorem c75 : ∀ args d, e75.2.2.2 args = some d → CallOK Try.prog 75 args (mkRes Try.prog 38 d) :=
  ent2 k75 fun x y d h _ _ => by
    cases h
    rw [n23, n23]
    refine fn_ok hm env5 k75 ((t75 1 x y).trans ?_)
    rw [m23]
    rfl
theorem k76 : FnOK Try.prog 76 Try.f76 := ⟨Try.func76, rfl, by kernel_rfl⟩
theorem c76 : ∀ args d, e76.2.2.2 args = some d → CallOK Try.prog 76 args (mkRes Try.prog 38 d) :=
  ent2 k76 fun x y d h _ _ => by
    cases h
    rw [n23, n23]
    refine fn_ok hm env5 k76 ((t76 1 x y).trans ?_)
    rw [m23]
    rfl
theorem k77 : FnOK Try.prog 77 Try.f77 := ⟨Try.func77, rfl, by kernel_rfl⟩
theorem c77 : ∀ args d, e77.2.2.2 args = some d → CallOK Try.prog 77 args (mkRes Try.prog 38 d) :=
  ent1 k77 fun x d h _ => by
    cases h
    rw [n28]
    refine fn_ok hm env5 k77 ((t77 1 x).trans ?_)
    rw [m23]
    unfold andD
    cases (elemsD x).any isFal <;> rfl
theorem k78 : FnOK Try.prog 78 Try.f78 := ⟨Try.func78, rfl, by kernel_rfl⟩
theorem c78 : ∀ args d, e78.2.2.2 args = some d → CallOK Try.prog 78 args (mkRes Try.prog 38 d) :=
  ent1 k78 fun x d h _ => by
    cases h
    rw [n28]
    refine fn_ok hm env5 k78 ((t78 1 x).trans ?_)
    rw [m23]
    unfold orD
    cases (elemsD x).any isTru <;> rfl
theorem k79 : FnOK Try.prog 79 Try.f79 := ⟨Try.func79, rfl, by kernel_rfl⟩
theorem c79 : ∀ args d, e79.2.2.2 args = some d → CallOK Try.prog 79 args (mkRes Try.prog 38 d) :=
  ent1 k79 fun x d h _ => by
    cases h
    rw [n23]
    refine fn_ok hm env5 k79 ((t79 1 x).trans ?_)
    rw [m23]
    rfl

theorem env6 : EnvOK Try.prog (envOf T6) := (envOK_cons (envOK_cons (envOK_cons (envOK_cons (envOK_cons (envOK_cons env5 c79) c78) c77) c76) c75) c87)

theorem k71 : FnOK Try.prog 71 Try.f71 := ⟨Try.func71, rfl, by kernel_rfl⟩
theorem c71 : ∀ args d, e71.2.2.2 args = some d → CallOK Try.prog 71 args (mkRes Try.prog 38 d) :=
  ent2 k71 fun x y d h _ _ => by
    cases h
    rw [n23, n23]
    refine fn_ok hm env6 k71 ((t71 1 x y).trans ?_)
    rw [m23]
theorem k72 : FnOK Try.prog 72 Try.f72 := ⟨Try.func72, rfl, by kernel_rfl⟩
theorem c72 : ∀ args d, e72.2.2.2 args = some d → CallOK Try.prog 72 args (mkRes Try.prog 38 d) :=
  ent2 k72 fun x y d h _ _ => by
    cases h
    rw [n23, n23]
    refine fn_ok hm env6 k72 ((t72 1 x y).trans ?_)
    rw [m23]
theorem k73 : FnOK Try.prog 73 Try.f73 := ⟨Try.func73, rfl, by kernel_rfl⟩
theorem c73 : ∀ args d, e73.2.2.2 args = some d → CallOK Try.prog 73 args (mkRes Try.prog 38 d) :=
  ent2 k73 fun x y d h _ _ => by
    cases h
    rw [n23, n23]
    refine fn_ok hm env6 k73 ((t73 1 x y).trans ?_)
    rw [m23]
theorem k74 : FnOK Try.prog 74 Try.f74 := ⟨Try.func74, rfl, by kernel_rfl⟩
theorem c74 : ∀ args d, e74.2.2.2 args = some d → CallOK Try.prog 74 args (mkRes Try.prog 38 d) :=
  ent2 k74 fun x y d h _ _ => by
    cases h
    rw [n23, n23]
    refine fn_ok hm env6 k74 ((t74 1 x y).trans ?_)
    rw [m23]

theorem env7 : EnvOK Try.prog (envOf T7) := (envOK_cons (envOK_cons (envOK_cons (envOK_cons env6 c74) c73) c72) c71)

theorem env8 : EnvOK Try.prog (envOf T8) := env7

end Go.Proofs.Ytjgnknkbohlopaa
