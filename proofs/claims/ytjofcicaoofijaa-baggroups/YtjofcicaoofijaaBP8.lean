/- Layer 3: Group. Nothing here is trusted. -/
import Derived.Test.YtjofcicaoofijaaBT8
import Derived.Test.YtjofcicaoofijaaBT9
import Derived.Test.YtjofcicaoofijaaBP7
import Derived.Test.YtjofcicaoofijaaVG
namespace Go.Proofs.Ytjofcicaoofijaa
open Go.Ev
set_option linter.unusedVariables false
set_option linter.unusedSimpArgs false

theorem grp_loop {N : Nat} {cs rs : List D} {x1 : Int} {x2 : D} (hb : hasB cs x1 = true) (hs : hasAllB cs (elemsD x2) = true) (h4 : (elemsD x2).length ≤ 4) : ∀ (n : Nat) (rows acc : List D), rows.length < n → MayBag cs rows → acc.length + rows.length ≤ 5000 →
    t6_lp6 Try.prog Try.f6 N n (bagD cs rs) x1 x2 rows acc = some (tupA [25, 4] (.agg [bagD (groupColsL x1 ((elemsD x2).length : Int)) (acc ++ grpK cs (placeI cs x1) (elemsD x2) rows.length rows), .lit (.bool true)]))
  | 0, rows, acc, h, _, _ => by omega
  | n + 1, [], acc, h, hm, hl => by
    rw [t6_lp6_step]
    have g1 : decide ((([] : List D).length : Int) > 0) = false := rfl
    have g2 : (decide (0 ≤ ((elemsD x2).length : Int)) && decide (((elemsD x2).length : Int) ≤ 1000)) = true := by simp only [Bool.and_eq_true, decide_eq_true_eq]; omega
    rw [g1, g2, cond_false, cond_true]
    show _ = some (tupA [25, 4] (.agg [bagD (groupColsL x1 ((elemsD x2).length : Int)) (acc ++ []), .lit (.bool true)]))
    rw [List.append_nil]
    rfl
  | n + 1, r :: rows, acc, h, hm, hl => by
    rw [t6_lp6_step]
    have hz : Lib.idxOf ((elemsD (fieldD (bagD cs rs) 0)).map intD) x1 = placeI cs x1 := rfl
    rw [hz]
    obtain ⟨a, ha⟩ : ∃ a, a = alikeN (r :: rows) (placeI cs x1) := ⟨_, rfl⟩
    have a1 : 0 < a := by rw [ha]; exact alike_pos _ _
    have a2 : a ≤ (r :: rows).length := by rw [ha]; exact alike_le _ (by simp)
    rw [← ha]
    have g0 : decide (((r :: rows).length : Int) > 0) = true := by rw [decide_eq_true_eq]; omega
    have g1 : decide (0 < (r :: rows).length) = true := by simp
    have g2 : (decide (0 ≤ (0 : Int)) && decide ((0 : Int) ≤ (a : Int)) && decide ((a : Int) ≤ ((r :: rows).length : Int))) = true := by simp only [Bool.and_eq_true, decide_eq_true_eq]; omega
    have g3 : (decide (0 ≤ (a : Int)) && decide ((a : Int) ≤ ((r :: rows).length : Int)) && decide (((r :: rows).length : Int) ≤ ((r :: rows).length : Int))) = true := by simp only [Bool.and_eq_true, decide_eq_true_eq]; omega
    have e1 : (List.drop ((0 : Int) : Int).toNat (r :: rows)).take ((a : Int) - (0 : Int)).toNat = (r :: rows).take a := by
      have : ((a : Int) - (0 : Int)).toNat = a := by omega
      rw [this]; rfl
    have e2 : (List.drop ((a : Int) : Int).toNat (r :: rows)).take (((r :: rows).length : Int) - (a : Int)).toNat = (r :: rows).drop a := by
      have : (((r :: rows).length : Int) - (a : Int)).toNat = (r :: rows).length - a := by omega
      rw [this, Int.toNat_natCast]
      exact List.take_of_length_le (by rw [List.length_drop]; omega)
    have hmt : MayBag cs ((r :: rows).take a) := ⟨hm.c, by have := hm.n; rw [List.length_take]; omega, fun x hx => hm.l x (List.mem_of_mem_take hx), fun x hx => hm.m x (List.mem_of_mem_take hx)⟩
    have hmd : MayBag cs ((r :: rows).drop a) := ⟨hm.c, by have := hm.n; rw [List.length_drop]; omega, fun x hx => hm.l x (List.mem_of_mem_drop hx), fun x hx => hm.m x (List.mem_of_mem_drop hx)⟩
    have g4 : sumOK (.agg [fieldD (bagD cs rs) 0, .slice ((r :: rows).take a) []]) (placeI cs x1) (elemsD x2) = true := sum_ok hb hs h4 (by rw [List.length_take]; omega) hmt
    have g5 : decide (acc.length + 1 ≤ 2147483648) = true := by rw [decide_eq_true_eq]; omega
    simp only [e1, e2]
    rw [g0, g1, g2, g3, g4, g5]
    simp only [cond_true]
    have key := grp_loop (N := N) (rs := rs) hb hs h4 n ((r :: rows).drop a) (acc ++ [.slice (summedL (bagD cs ((r :: rows).take a)) (placeI cs x1) (elemsD x2)) []]) (by rw [List.length_drop]; simp only [List.length_cons] at *; omega) hmd (by rw [List.length_drop]; simp only [List.length_append, List.length_cons, List.length_nil] at *; omega)
    refine Eq.trans ?_ (key.trans ?_)
    · rfl
    · have f1 : grpK cs (placeI cs x1) (elemsD x2) (r :: rows).length (r :: rows) = .slice (summedL (bagD cs ((r :: rows).take a)) (placeI cs x1) (elemsD x2)) [] :: grpK cs (placeI cs x1) (elemsD x2) ((r :: rows).drop a).length ((r :: rows).drop a) := by
        rw [List.length_cons, grpK, ← ha, grp_fuel cs (placeI cs x1) (elemsD x2) rows.length ((r :: rows).drop a).length ((r :: rows).drop a) (by rw [List.length_drop]; simp only [List.length_cons]; omega) (Nat.le_refl _)]
        simp
      rw [f1]
      simp only [List.append_assoc, List.cons_append, List.nil_append]
theorem k6 : FnOK Try.prog 6 Try.f6 := ⟨Try.func6, rfl, by kernel_rfl⟩
theorem c6 : ∀ args d, e6.2.2.2 args = some d → CallOK Try.prog 6 args (mkRes Try.prog 28 d) :=
  ent3 k6 fun x y z d h ⟨_, hx⟩ _ _ => by
    cases h
    rw [nB, n3, nI]
    obtain ⟨cs, rs, rfl, h1, h2, h3, h4⟩ := tyB hx
    refine fn_ok hm envB5 k6 ((t6 (rs.length + 1) (bagD cs rs) (intD y) z).trans ?_)
    rw [mTBB]
    cases q1 : mayBagB (bagD cs rs) with
    | false =>
      have : groupOK (bagD cs rs) (intD y) (elemsD z) = false := by unfold groupOK; rw [q1]; rfl
      rw [groupBag, this]; rfl
    | true =>
      cases q2 : hasB cs (intD y) with
      | false =>
        have : groupOK (bagD cs rs) (intD y) (elemsD z) = false := by unfold groupOK; rw [q1, show bCols (bagD cs rs) = cs from rfl, q2]; rfl
        rw [groupBag, this, show elemsD (fieldD (bagD cs rs) 0) = cs from rfl, q2]; rfl
      | true =>
        cases q3 : hasAllB cs (elemsD z) with
        | false =>
          have : groupOK (bagD cs rs) (intD y) (elemsD z) = false := by unfold groupOK; rw [q1, show bCols (bagD cs rs) = cs from rfl, q2, q3]; rfl
          rw [groupBag, this, show elemsD (fieldD (bagD cs rs) 0) = cs from rfl, q2, q3]; rfl
        | true =>
          by_cases q4 : (elemsD z).length ≤ 4
          · have hok : groupOK (bagD cs rs) (intD y) (elemsD z) = true := by
              unfold groupOK
              rw [q1, show bCols (bagD cs rs) = cs from rfl, q2, q3]
              simpa using q4
            have g1 : decide (((elemsD z).length : Int) > 4) = false := by rw [decide_eq_false_iff_not]; omega
            have hmb := may_bag q1
            have hms : MayBag cs (sortRows (placeI cs (intD y)) rs) := by
              have := perm_may (placeI cs (intD y)) cs rs
              rw [q1] at this
              exact may_bag this
            have hlen : (sortRows (placeI cs (intD y)) rs).length = rs.length := sortK_len rs
            rw [show elemsD (fieldD (bagD cs rs) 0) = cs from rfl, q2, q3, g1, may_sort hmb]
            have key := grp_loop (N := rs.length + 1) (rs := rs) q2 q3 q4 (rs.length + 1) (sortRows (placeI cs (intD y)) rs) [] (by omega) hms (by have := hmb.n; simp; omega)
            rw [hlen] at key
            rw [groupBag, hok]
            exact key
          · have hok : groupOK (bagD cs rs) (intD y) (elemsD z) = false := by
              unfold groupOK
              rw [q1, show bCols (bagD cs rs) = cs from rfl, q2, q3]
              simpa using q4
            have g1 : decide (((elemsD z).length : Int) > 4) = true := by rw [decide_eq_true_eq]; omega
            rw [groupBag, hok, show elemsD (fieldD (bagD cs rs) 0) = cs from rfl, q2, q3, g1]
            rfl
theorem envB6 : EnvOK Try.prog (envR B6 H7 R3 []) := envOK_cons envB5 c6

/-! ### awake -/
theorem k4 : FnOK Try.prog 4 Try.f4 := ⟨Try.func4, rfl, by kernel_rfl⟩
theorem c4 : ∀ args d, e4.2.2.2 args = some d → CallOK Try.prog 4 args (mkRes Try.prog 4 d) :=
  ent0 fun d h => by
    cases h
    refine fn_ok hm envB6 k4 ((t4 1).trans ?_)
    rw [m4]
    kernel_rfl
theorem envB7 : EnvOK Try.prog (envR B7 H7 R3 []) := envOK_cons envB6 c4

end Go.Proofs.Ytjofcicaoofijaa
