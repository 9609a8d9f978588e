/- ExprOwn: what a call answers. Nothing here is trusted. -/
import Derived.Test.YtochjfimogijjaaWX
import Derived.Test.YtochjfimogijjaaWL4
namespace Go.Proofs.Ytochjfimogijjaa
open Go.Ev
set_option linter.unusedVariables false
set_option linter.unusedSimpArgs false

def colL (n : Nat) : List D := (List.range n).map fun j : Nat => .lit (.int .i64 (j : Int))
def rowL (f : Nat → D) (n : Nat) : List D := (List.range n).map f
theorem colL_succ (n : Nat) : colL (n + 1) = colL n ++ [.lit (.int .i64 (n : Int))] := by unfold colL; rw [List.range_succ, List.map_append]; rfl
theorem rowL_succ (f : Nat → D) (n : Nat) : rowL f (n + 1) = rowL f n ++ [f n] := by unfold rowL; rw [List.range_succ, List.map_append]; rfl
theorem colL_len (n : Nat) : (colL n).length = n := by unfold colL; simp
theorem rowL_len (f : Nat → D) (n : Nat) : (rowL f n).length = n := by unfold rowL; simp
theorem sixteen {z : Int} (h0 : 0 ≤ z) (h1 : z ≤ 15) : z = 0 ∨ z = 1 ∨ z = 2 ∨ z = 3 ∨ z = 4 ∨ z = 5 ∨ z = 6 ∨ z = 7 ∨ z = 8 ∨ z = 9 ∨ z = 10 ∨ z = 11 ∨ z = 12 ∨ z = 13 ∨ z = 14 ∨ z = 15 := by omega
theorem at_fwd {z : Int} (h0 : 0 ≤ z) (h1 : z ≤ 15) (f : Nat → D) : atD z (colL 16) (rowL f 16) = bif mayB (f z.toNat) then f z.toNat else vv 2 0 := by
  rcases sixteen h0 h1 with rfl | rfl | rfl | rfl | rfl | rfl | rfl | rfl | rfl | rfl | rfl | rfl | rfl | rfl | rfl | rfl <;> rfl
theorem at_rev {z : Int} (h0 : 0 ≤ z) (h1 : z ≤ 15) (f : Nat → D) : atD z (colL 16).reverse (rowL f 16).reverse = bif mayB (f z.toNat) then f z.toNat else vv 2 0 := by
  rcases sixteen h0 h1 with rfl | rfl | rfl | rfl | rfl | rfl | rfl | rfl | rfl | rfl | rfl | rfl | rfl | rfl | rfl | rfl <;> rfl
theorem cols_range : ∀ (K : Nat) (e : D), okK K e = true → ∀ z ∈ colsI K e, 0 ≤ z ∧ z ≤ 15
  | 0, e, h, z, _ => by cases h
  | K + 1, e, h, z, hz => by
    rw [okK_succ, Bool.and_eq_true, List.all_eq_true] at h
    rw [colsI_succ, List.mem_append, List.mem_flatMap] at hz
    rcases hz with hz | ⟨p, hp, hz⟩
    · cases h1 : (opI e == 1) with
      | true =>
        rw [h1, cond_true, List.mem_singleton] at hz
        obtain ⟨_, _, a, b, _⟩ := fits_op h.1
        rw [hz]
        exact ⟨a, b⟩
      | false => rw [h1] at hz; cases hz
    · exact cols_range K p (h.2 p hp) z hz

def ownB (e : D) (j : Int) : Bool := (colsE e).any fun d => intD d == j
theorem ownB_mem {e : D} (h : mayE e = true) {z : Int} (hz : z ∈ colsI 7 e) : ownB e z = true := by
  unfold ownB
  rw [List.any_eq_true]
  refine ⟨litI z, ?_, by simp [litI, intD]⟩
  rw [colsE_eq h]
  exact List.mem_map.2 ⟨z, mem_cset.2 hz, rfl⟩
def fR (x1 : D) : Nat → D := fun j => (elemsD x1).getD j .nil
def gR (x0 x1 x2 : D) : Nat → D := fun j => bif ownB x0 (j : Int) then (elemsD x1).getD j .nil else (elemsD x2).getD j .nil
theorem own_same {x0 x1 x2 : D} (h : mayE x0 = true) : evalE x0 (colL 16) (rowL (fR x1) 16) = evalE x0 (colL 16).reverse (rowL (gR x0 x1 x2) 16).reverse := by
  unfold evalE
  rw [h, cond_true, cond_true]
  refine eval_same 7 x0 fun z hz => ?_
  obtain ⟨h0, h1⟩ := cols_range 7 x0 (mayE_ok h) z hz
  rw [at_fwd h0 h1, at_rev h0 h1]
  have hg : gR x0 x1 x2 z.toNat = fR x1 z.toNat := by
    unfold gR fR
    rw [Int.toNat_of_nonneg h0, ownB_mem h hz]
    rfl
  rw [hg]

theorem own_15 {x0 x1 x2 : D} {v11 v13 b10 b12 : List D} {N m c : Nat} (hc : c < 16) (h : mayE x0 = true) (l1 : (elemsD x1).length = 16) (l2 : (elemsD x2).length = 16) (s1 : v11.length ≤ 16) (s2 : v13.length ≤ 16) (s3 : b10.length ≤ 16) (s4 : b12.length ≤ 16) :
    ∀ (n i : Nat) (b : Bool), i ≤ (colsE x0).length → (colsE x0).length - i < n →
    t4_lp15 Try.prog Try.f4 N n x0 x1 x2 v11 v13 (c : Int) b10 b12 m b (i : Int) =
      t4_lp11 Try.prog Try.f4 N m x0 x1 x2 ([.lit (.int .i64 (c : Int))] ++ v11) ([bif (b || ((colsE x0).drop i).any fun d => intD d == (c : Int)) then (elemsD x1).getD c .nil else (elemsD x2).getD c .nil] ++ v13) ((c + 1 : Nat) : Int) (b10 ++ [.lit (.int .i64 (c : Int))]) (b12 ++ [(elemsD x1).getD c .nil])
  | 0, i, b, _, h => by omega
  | n + 1, i, b, hi, hn => by
    rw [t4_lp15_step]
    have hlen : (colsE x0).length ≤ 30 := by
      rw [colsE_eq h, List.length_map]
      refine Nat.le_trans (cset_len _) ?_
      unfold colsI
      rw [List.length_map]
      exact mayE_cols h
    by_cases hlt : i < (colsE x0).length
    · have h1 : decide ((i : Int) < ((colsE x0).length : Int)) = true := by simpa using hlt
      rw [idx_ok hlt, h1, cond_true, cond_true, Int.toNat_natCast, getD_lt hlt, wrap_step (by simp only [maxLen]; omega) hlt, List.drop_eq_getElem_cons hlt, List.any_cons]
      cases b with
      | true =>
        rw [own_15 hc h l1 l2 s1 s2 s3 s4 n (i + 1) true (by omega) (by omega), Bool.true_or, Bool.true_or]
        rfl
      | false =>
        rw [own_15 hc h l1 l2 s1 s2 s3 s4 n (i + 1) _ (by omega) (by omega), Bool.false_or]
        rfl
    · have h1 : decide ((i : Int) < ((colsE x0).length : Int)) = false := by simpa using hlt
      have h2 : (colsE x0).drop i = [] := List.drop_of_length_le (by omega)
      have i1 : (decide (0 ≤ (c : Int)) && decide ((c : Int) < ((elemsD x1).length : Int))) = true := idx_ok (by omega)
      have i2 : (decide (0 ≤ (c : Int)) && decide ((c : Int) < ((elemsD x2).length : Int))) = true := idx_ok (by omega)
      have d1 : decide (b10.length + 1 ≤ 2147483648) = true := by simp; omega
      have d2 : decide (b12.length + 1 ≤ 2147483648) = true := by simp; omega
      have d3 : decide (1 + v11.length ≤ 2147483648) = true := by simp; omega
      have d4 : decide (1 + v13.length ≤ 2147483648) = true := by simp; omega
      have hw : IntKind.wrap .i64 ((c : Int) + 1) = ((c + 1 : Nat) : Int) := by rw [wrap_in (by rw [inR_iff]; omega)]; rfl
      rw [h1, h2, i1, i2, d1, d2, d3, d4, hw, Int.toNat_natCast, List.any_nil, Bool.or_false]
      simp only [cond_true, cond_false]
      cases b <;> rfl
theorem own_11 {x0 x1 x2 : D} {N : Nat} (hN : 30 < N) (h : mayE x0 = true) (l1 : (elemsD x1).length = 16) (l2 : (elemsD x2).length = 16) : ∀ (n i : Nat), i ≤ 16 → 16 - i < n →
    t4_lp11 Try.prog Try.f4 N n x0 x1 x2 (colL i).reverse (rowL (gR x0 x1 x2) i).reverse (i : Int) (colL i) (rowL (fR x1) i) = some (dat 4 (.lit (.bool true)))
  | 0, i, _, h => by omega
  | n + 1, i, hi, hn => by
    rw [t4_lp11_step]
    by_cases hlt : i < 16
    · have h1 : decide ((i : Int) < 16) = true := by simp; omega
      have hlen : (colsE x0).length ≤ 30 := by
        rw [colsE_eq h, List.length_map]
        refine Nat.le_trans (cset_len _) ?_
        unfold colsI
        rw [List.length_map]
        exact mayE_cols h
      have H := own_15 (x0 := x0) (x1 := x1) (x2 := x2) (v11 := (colL i).reverse) (v13 := (rowL (gR x0 x1 x2) i).reverse) (b10 := colL i) (b12 := rowL (fR x1) i) (N := N) (m := n) hlt h l1 l2
        (by rw [List.length_reverse, colL_len]; omega) (by rw [List.length_reverse, rowL_len]; omega) (by rw [colL_len]; omega) (by rw [rowL_len]; omega) N 0 false (Nat.zero_le _) (by omega)
      have ih := own_11 hN h l1 l2 n (i + 1) (by omega) (by omega)
      rw [colL_succ, rowL_succ, rowL_succ, List.reverse_append, List.reverse_append] at ih
      rw [h1, cond_true]
      refine (H.trans ?_)
      rw [Bool.false_or, List.drop_zero]
      exact ih
    · have hi2 : i = 16 := by omega
      subst hi2
      have h1 : decide (((16 : Nat) : Int) < 16) = false := rfl
      rw [h1, cond_false, ← own_same (x1 := x1) (x2 := x2) h, beq_self_eq_true, beq_self_eq_true]
      rfl

theorem k4 : FnOK Try.prog 4 Try.f4 := ⟨Try.func4, rfl, by kernel_rfl⟩
theorem law_ok4 {hh : Hints} {fuel : Nat} {f : FuncId} {fn : Func} {args : List AV} (hf : FnOK Try.prog f fn) (h : evFn Try.prog (envH U9 []) hh fuel fn args = some (dat 4 (.lit (.bool true)))) : CallOK Try.prog f args (dat 4 (.lit (.bool true))) := by
  have := fn_ok hm envU9 hf (t := 4) (d := .lit (.bool true)) (h.trans (by rw [m4]; rfl))
  rw [m4] at this
  exact this
theorem law4 (x0 x1 x2 : D) : CallOK Try.prog 4 [dat 26 x0, dat 28 x1, dat 28 x2] (dat 4 (.lit (.bool true))) := by
  refine law_ok4 k4 ((t4 31 x0 x1 x2).trans ?_)
  rw [show (decide ((0 : Nat) ≤ 200) && decide ((200 : Nat) ≤ 1000)) = true from rfl, cond_true]
  cases fewB x0 200 with
  | false => rfl
  | true =>
    by_cases l1 : (elemsD x1).length = 16
    · have h1 : (((elemsD x1).length : Int) != 16) = false := by rw [l1]; rfl
      by_cases l2 : (elemsD x2).length = 16
      · have h2 : (((elemsD x2).length : Int) != 16) = false := by rw [l2]; rfl
        rw [h1, h2]
        cases hmay : mayE x0 with
        | false => rfl
        | true =>
          have H := own_11 (x0 := x0) (x1 := x1) (x2 := x2) (N := 31) (by omega) hmay l1 l2 31 0 (by omega) (by omega)
          simp only [Bool.not_true, beq_self_eq_true, cond_true, cond_false]
          exact H
      · have h2 : (((elemsD x2).length : Int) != 16) = true := by
          rw [bne_iff_ne]
          omega
        rw [h1, h2]
        rfl
    · have h1 : (((elemsD x1).length : Int) != 16) = true := by
        rw [bne_iff_ne]
        omega
      rw [h1]
      rfl

end Go.Proofs.Ytochjfimogijjaa
