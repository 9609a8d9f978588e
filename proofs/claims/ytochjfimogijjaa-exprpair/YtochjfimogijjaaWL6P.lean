/- ExprPair: what a call answers. Nothing here is trusted. -/
import Derived.Test.YtochjfimogijjaaWX
import Derived.Test.YtochjfimogijjaaWL6
namespace Go.Proofs.Ytochjfimogijjaa
open Go.Ev
set_option linter.unusedVariables false
set_option linter.unusedSimpArgs false

def colP (n : Nat) : List D := (List.range n).map fun j : Nat => .lit (.int .i64 (j : Int))
theorem colP_succ (n : Nat) : colP (n + 1) = colP n ++ [.lit (.int .i64 (n : Int))] := by unfold colP; rw [List.range_succ, List.map_append]; rfl
theorem colP_len (n : Nat) : (colP n).length = n := by unfold colP; simp
theorem idx_colP {z : Int} (h0 : 0 ≤ z) (h1 : z ≤ 15) : Lib.idxOf ((colP 16).map intD) z = z := by
  have : z = 0 ∨ z = 1 ∨ z = 2 ∨ z = 3 ∨ z = 4 ∨ z = 5 ∨ z = 6 ∨ z = 7 ∨ z = 8 ∨ z = 9 ∨ z = 10 ∨ z = 11 ∨ z = 12 ∨ z = 13 ∨ z = 14 ∨ z = 15 := by omega
  rcases this with rfl | rfl | rfl | rfl | rfl | rfl | rfl | rfl | rfl | rfl | rfl | rfl | rfl | rfl | rfl | rfl <;> rfl
theorem at_colP {z : Int} (h0 : 0 ≤ z) (h1 : z ≤ 15) {l : List D} (hl : l.length = 16) : atD z (colP 16) l = readD (l.getD z.toNat .nil) := by
  unfold atD
  rw [idx_colP h0 h1, hl]
  have d1 : decide (z < 0) = false := by simp; omega
  have d2 : decide (z ≥ ((16 : Nat) : Int)) = false := by simp; omega
  rw [d1, d2]
  rfl

theorem readv_cases (v : D) : (kk v = 0 ∧ readD v = v ∧ isErr (readD v) = false ∧ isNul (readD v) = false) ∨ (kk v ≠ 0 ∧ isErr (readD v) = true) ∨ (kk v ≠ 0 ∧ isErr (readD v) = false ∧ isNul (readD v) = true) := by
  by_cases h0 : kk v = 0
  · have hm : mayB v = true := by simp [mayB, h0]
    have hr : readD v = v := by unfold readD; rw [hm]; rfl
    left
    refine ⟨h0, hr, ?_, ?_⟩
    · rw [hr]; unfold isErr; rw [hr, h0]; rfl
    · rw [hr]; unfold isNul; rw [hr, h0]; rfl
  · right
    cases hm : mayB v with
    | false =>
      have hr : readD v = vv 2 0 := by unfold readD; rw [hm]; rfl
      left
      exact ⟨h0, by rw [hr]; rfl⟩
    | true =>
      have hr : readD v = v := by unfold readD; rw [hm]; rfl
      have e1 : isErr v = (kk v == 2) := by unfold isErr; rw [hr]
      have e2 : isNul v = (kk v == 1) := by unfold isNul; rw [hr]
      rw [hr, e1, e2]
      simp only [mayB, Bool.or_eq_true, Bool.and_eq_true, beq_iff_eq] at hm
      have : kk v = 1 ∨ kk v = 2 := by omega
      rcases this with h | h
      · right; exact ⟨h0, by simp [h], by simp [h]⟩
      · left; exact ⟨h0, by simp [h]⟩
theorem eq_tru (a b : D) : isTru (eqV (readD a) (readD b)) = (kk a == 0 && (kk b == 0 && nn a == nn b)) := by
  unfold eqV ifNum
  simp only [List.any_cons, List.any_nil, Bool.or_false]
  rcases readv_cases a with ⟨a0, a1, a2, a3⟩ | ⟨a0, a2⟩ | ⟨a0, a2, a3⟩
  · rcases readv_cases b with ⟨b0, b1, b2, b3⟩ | ⟨b0, b2⟩ | ⟨b0, b2, b3⟩
    · rw [a2, a3, b2, b3, a1, b1, a0, b0]
      cases (nn a == nn b) <;> rfl
    · have hb : (kk b == 0) = false := by simp [b0]
      rw [a2, b2, a0, hb]
      rfl
    · have hb : (kk b == 0) = false := by simp [b0]
      rw [a2, a3, b2, b3, a0, hb]
      rfl
  · have ha : (kk a == 0) = false := by simp [a0]
    rw [a2, ha]
    rfl
  · have ha : (kk a == 0) = false := by simp [a0]
    rw [a2, a3, ha]
    cases isErr (readD b) <;> rfl

structure IsPair (x k0 k1 : D) : Prop where
  may : mayE x = true
  op : opI x = 6
  kid : kids x = [k0, k1]
  o0 : opI k0 = 1
  o1 : opI k1 = 1
  ne : colI k0 ≠ colI k1
  a : pairA x = colI k0
  b : pairB x = colI k1
  r0 : 0 ≤ colI k0 ∧ colI k0 ≤ 15
  r1 : 0 ≤ colI k1 ∧ colI k1 ≤ 15
  n0 : kids k0 = []
  n1 : kids k1 = []
theorem col_kids {k : D} (h : okK 6 k = true) (h1 : opI k = 1) : (0 ≤ colI k ∧ colI k ≤ 15) ∧ kids k = [] := by
  rw [okK_succ, Bool.and_eq_true] at h
  obtain ⟨_, _, a, b, _, ht⟩ := fits_op h.1
  rw [h1] at ht
  have : (((kids k).length : Int) == 0) = true := ht
  have hl : (kids k).length = 0 := by
    have := beq_iff_eq.1 this
    omega
  exact ⟨⟨a, b⟩, List.length_eq_zero_iff.1 hl⟩
theorem pair_of {x : D} (h : pairE x = true) : ∃ k0 k1, IsPair x k0 k1 := by
  have h' := h
  unfold pairE at h'
  simp only [Bool.and_eq_true, beq_iff_eq, Bool.not_eq_true', beq_eq_false_iff_ne] at h'
  obtain ⟨hm, h6, q0, q1, hne⟩ := h'
  have hl := pair_len hm h6
  match hk : kids x, hl with
  | [k0, k1], _ =>
    rw [hk] at q0 q1 hne
    have q0 : opI k0 = 1 := q0
    have q1 : opI k1 = 1 := q1
    obtain ⟨r0, n0⟩ := col_kids (may_part hm (p := k0) (by rw [hk]; simp)).2 q0
    obtain ⟨r1, n1⟩ := col_kids (may_part hm (p := k1) (by rw [hk]; simp)).2 q1
    refine ⟨k0, k1, hm, h6, hk, q0, q1, hne, ?_, ?_, r0, r1, n0, n1⟩
    · unfold pairA; rw [h, hk]; rfl
    · unfold pairB; rw [h, hk]; rfl
theorem pair_not {x : D} (h : pairE x = false) : pairA x = 0 ∧ pairB x = 0 := by
  unfold pairA pairB
  rw [h]
  exact ⟨rfl, rfl⟩
theorem pair_keeps {x k0 k1 : D} (H : IsPair x k0 k1) {row : List D} (hl : row.length = 16) : keepsE x (colP 16) row = (kk (row.getD (colI k0).toNat .nil) == 0 && (kk (row.getD (colI k1).toNat .nil) == 0 && nn (row.getD (colI k0).toNat .nil) == nn (row.getD (colI k1).toNat .nil))) := by
  unfold keepsE evalE
  rw [H.may, cond_true, evalK_succ, H.op, H.kid]
  have e0 : evalK (colP 16) row 6 k0 = readD (row.getD (colI k0).toNat .nil) := by
    rw [evalK_succ, H.o0, ← at_colP H.r0.1 H.r0.2 hl]
    rfl
  have e1 : evalK (colP 16) row 6 k1 = readD (row.getD (colI k1).toNat .nil) := by
    rw [evalK_succ, H.o1, ← at_colP H.r1.1 H.r1.2 hl]
    rfl
  show isTru (eqV (evalK (colP 16) row 6 k0) (evalK (colP 16) row 6 k1)) = _
  rw [e0, e1]
  exact eq_tru _ _
theorem pair_cols {x k0 k1 : D} (H : IsPair x k0 k1) : (colsE x).length = 2 := by
  have hc : colsI 7 x = [colI k0, colI k1] := by
    rw [colsI_succ, H.op, H.kid]
    show [k0, k1].flatMap (colsI 6) = _
    have g0 : colsI 6 k0 = [colI k0] := by rw [colsI_succ, H.o0, H.n0]; rfl
    have g1 : colsI 6 k1 = [colI k1] := by rw [colsI_succ, H.o1, H.n1]; rfl
    simp [g0, g1]
  rw [colsE_eq H.may, List.length_map, hc]
  have l1 := len_sub (cset_nodup [colI k0, colI k1]) (fun z hz => mem_cset.1 hz)
  have hnd : [colI k0, colI k1].Nodup := by simp [H.ne]
  have l2 := len_sub hnd (fun z hz => mem_cset.2 hz)
  simp at l1 l2
  omega

theorem pair_10 {x0 x1 k0 k1 : D} {N : Nat} (H : IsPair x0 k0 k1) (hl : (elemsD x1).length = 16) : ∀ (n i : Nat), i ≤ 16 → 16 - i < n →
    t6_lp10 Try.prog Try.f6 N n x0 x1 (i : Int) (colP i) = some (dat 4 (.lit (.bool true)))
  | 0, i, _, h => by omega
  | n + 1, i, hi, hn => by
    rw [t6_lp10_step]
    by_cases hlt : i < 16
    · have h1 : decide ((i : Int) < 16) = true := by simp; omega
      have h2 : decide ((colP i).length + 1 ≤ 2147483648) = true := by rw [colP_len]; simp; omega
      have ih := pair_10 (N := N) H hl n (i + 1) (by omega) (by omega)
      rw [colP_succ] at ih
      have hw : IntKind.wrap .i64 ((i : Int) + 1) = ((i + 1 : Nat) : Int) := by rw [wrap_in (by rw [inR_iff]; omega)]; rfl
      rw [h1, h2, cond_true, cond_true, hw]
      exact ih
    · have hi2 : i = 16 := by omega
      subst hi2
      have h1 : decide (((16 : Nat) : Int) < 16) = false := rfl
      have r0 := H.r0
      have r1 := H.r1
      have i0 : (decide (0 ≤ colI k0) && decide (colI k0 < ((elemsD x1).length : Int))) = true := by
        rw [hl]; simp only [Bool.and_eq_true, decide_eq_true_eq]; omega
      have i1 : (decide (0 ≤ colI k1) && decide (colI k1 < ((elemsD x1).length : Int))) = true := by
        rw [hl]; simp only [Bool.and_eq_true, decide_eq_true_eq]; omega
      have hc : (((colsE x0).length : Int) == 2) = true := by rw [pair_cols H]; rfl
      rw [h1, cond_false, H.a, H.b, i0, i1, hc, pair_keeps H hl]
      generalize (elemsD x1).getD (colI k0).toNat .nil = u
      generalize (elemsD x1).getD (colI k1).toNat .nil = v
      rw [show intD (fieldD u 0) = kk u from rfl, show intD (fieldD v 0) = kk v from rfl, show intD (fieldD u 1) = nn u from rfl, show intD (fieldD v 1) = nn v from rfl]
      by_cases hu : kk u = 0
      · have hmu : mayB u = true := by simp [mayB, hu]
        rw [hmu, hu]
        have hs : ((0 : Int) == kk v) = (kk v == 0) := by
          by_cases hv : kk v = 0
          · rw [hv]
          · have g1 : ((0 : Int) == kk v) = false := by simp; omega
            have g2 : (kk v == 0) = false := by simp [hv]
            rw [g1, g2]
        rw [hs]
        generalize (kk v == 0) = p
        generalize (nn u == nn v) = q
        cases p <;> cases q <;> rfl
      · have hu' : (kk u == 0) = false := by simp [hu]
        rw [hu']
        rfl

theorem pair_start {x0 x1 k0 k1 : D} (H : IsPair x0 k0 k1) (hl : (elemsD x1).length = 16) : t6_lp10 Try.prog Try.f6 31 31 x0 x1 0 [] = some (dat 4 (.lit (.bool true))) := by
  have HH := pair_10 (x1 := x1) (N := 31) H hl 31 0 (by omega) (by omega)
  rw [show colP 0 = [] from rfl, show ((0 : Nat) : Int) = 0 from rfl] at HH
  exact HH

theorem k6 : FnOK Try.prog 6 Try.f6 := ⟨Try.func6, rfl, by kernel_rfl⟩
theorem law_ok6 {hh : Hints} {fuel : Nat} {f : FuncId} {fn : Func} {args : List AV} (hf : FnOK Try.prog f fn) (h : evFn Try.prog (envH UP []) hh fuel fn args = some (dat 4 (.lit (.bool true)))) : CallOK Try.prog f args (dat 4 (.lit (.bool true))) := by
  have := fn_ok hm envUP hf (t := 4) (d := .lit (.bool true)) (h.trans (by rw [m4]; rfl))
  rw [m4] at this
  exact this
theorem law6 (x0 x1 : D) : CallOK Try.prog 6 [dat 26 x0, dat 28 x1] (dat 4 (.lit (.bool true))) := by
  refine law_ok6 k6 ((t6 31 x0 x1).trans ?_)
  rw [show (decide ((0 : Nat) ≤ 200) && decide ((200 : Nat) ≤ 1000)) = true from rfl, cond_true]
  cases fewB x0 200 with
  | false => rfl
  | true =>
    by_cases l1 : (elemsD x1).length = 16
    · have h1 : (((elemsD x1).length : Int) != 16) = false := by rw [l1]; rfl
      rw [h1]
      cases hp : pairE x0 with
      | false =>
        obtain ⟨ha, hb⟩ := pair_not hp
        rw [ha, hb]
        simp only [Bool.not_false, Bool.not_true, beq_self_eq_true, cond_true, cond_false, show (true == false) = false from rfl]
      | true =>
        obtain ⟨k0, k1, H⟩ := pair_of hp
        have r0 := H.r0
        have r1 := H.r1
        have d1 : decide (colI k0 < 0) = false := by simp; omega
        have d2 : decide (colI k1 < 0) = false := by simp; omega
        have d3 : decide (colI k0 > 15) = false := by simp; omega
        have d4 : decide (colI k1 > 15) = false := by simp; omega
        have d5 : (colI k0 == colI k1) = false := by simp [H.ne]
        rw [H.a, H.b, d1, d2, d3, d4, d5]
        rw [show ((!true) == false) = true from rfl, show (false == false) = true from rfl, cond_true, cond_false, cond_true, cond_true, cond_true, cond_true, cond_true, cond_false]
        exact pair_start H l1
    · have h1 : (((elemsD x1).length : Int) != 16) = true := by
        rw [bne_iff_ne]
        omega
      rw [h1]
      rfl

end Go.Proofs.Ytochjfimogijjaa
