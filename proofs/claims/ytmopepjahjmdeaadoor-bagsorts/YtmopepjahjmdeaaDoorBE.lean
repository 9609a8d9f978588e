/- What the evaluator comes to, function by function: by the kernel. Nothing here is trusted. -/
import Derived.Test.YtmopepjahjmdeaaDoorBC
import Derived.Test.YtmopepjahjmdeaaDoorV2
namespace Go.Proofs.YtmopepjahjmdeaaDoor
open Go.Ev
set_option linter.unusedVariables false
/- roadbook/bag.Group -/
def t14_h : Hints := fun i => if i = 6 then some ([0, 4, 5, 7, 11, 12, 13, 14, 15, 16, 17, 18, 19, 20, 21, 22, 23, 24, 25, 26, 27, 28, 29, 30, 31, 32, 33, 34, 35, 36, 37, 38, 39, 40, 41, 42, 43, 44, 45, 46, 47, 48, 49, 50, 51, 52, 53, 54, 55, 56, 57, 58, 59, 60, 61, 62, 63, 64, 65, 66, 67, 68, 69], [3, 6, 9, 60, 900000], []) else none
def t14_lp6 (P : Program) (fn : Func) (N n : Nat) (x0 : D) (x1 : Int) (x2 : D) (v10 : List D) (b9 : List D) : Option AV := evLoop (preL t14_h (sub [1, 1, 1, 1, 0, 1, 0, 0] (bodyOf fn))) (evCode P (envR B5 H7 R3 []) t14_h N (sub [1, 1, 1, 1, 0, 1, 0, 0] (bodyOf fn))) n ⟨[dead, dat 3 (.lit (.int .i64 x1)), dat 22 x2, bxp 3 25, dead, dead, bxp 6 25, dead, dat 3 (.lit (.int .i64 (Lib.idxOf ((elemsD (fieldD x0 0)).map intD) x1))), bxp 9 23, dat 23 (.slice v10 []), dead, dead, dead, dead, dead, dead, dead, dead, dead, dead, dead, dead, dead, dead, dead, dead, dead, dead, dead, dead, dead, dead, dead, dead, dead, dead, dead, dead, dead, dead, dead, dead, dead, dead, dead, dead, dead, dead, dead, dead, dead, dead, dead, dead, dead, dead, dead, dead, dead, dead, dead, dead, dead, dead, dead, dead, dead, dead, dead], lookB [(3, some ⟨25, x0, 0, none⟩), (6, some ⟨25, .agg [.slice [] [], .slice [] []], 0, none⟩), (9, some ⟨23, .slice b9 [], 1, none⟩), (60, none), (900000, none)]⟩ (blockK 0 (seqC P (envR B5 H7 R3 []) t14_h N (sub [1, 1, 1, 1, 1] (bodyOf fn)) (finK P fn) ))
theorem t14_lp6_step  (N n : Nat) (x0 : D) (x1 : Int) (x2 : D) (v10 : List D) (b9 : List D) : t14_lp6 Tryd.prog Tryd.f14 N (n + 1) x0 x1 x2 v10 b9 =
  bif decide ((v10.length : Int) > 0) then
    bif decide (0 < v10.length) then
      bif (decide (0 ≤ (0 : Int)) && decide ((0 : Int) ≤ (alikeN v10 (Lib.idxOf ((elemsD (fieldD x0 0)).map intD) x1) : Int)) && decide ((alikeN v10 (Lib.idxOf ((elemsD (fieldD x0 0)).map intD) x1) : Int) ≤ (v10.length : Int))) then
        bif sumOK (.agg [fieldD x0 0, .slice ((v10.drop ((0 : Int) : Int).toNat).take ((alikeN v10 (Lib.idxOf ((elemsD (fieldD x0 0)).map intD) x1) : Int) - (0 : Int)).toNat) []]) (Lib.idxOf ((elemsD (fieldD x0 0)).map intD) x1) (elemsD x2) then
          bif decide ((b9).length + 1 ≤ 2147483648) then
            bif (decide (0 ≤ (alikeN v10 (Lib.idxOf ((elemsD (fieldD x0 0)).map intD) x1) : Int)) && decide ((alikeN v10 (Lib.idxOf ((elemsD (fieldD x0 0)).map intD) x1) : Int) ≤ (v10.length : Int)) && decide ((v10.length : Int) ≤ (v10.length : Int))) then
              t14_lp6 Tryd.prog Tryd.f14 N n x0 x1 x2 ((v10.drop ((alikeN v10 (Lib.idxOf ((elemsD (fieldD x0 0)).map intD) x1) : Int) : Int).toNat).take ((v10.length : Int) - (alikeN v10 (Lib.idxOf ((elemsD (fieldD x0 0)).map intD) x1) : Int)).toNat) (b9 ++ [.slice (summedL (.agg [fieldD x0 0, .slice ((v10.drop ((0 : Int) : Int).toNat).take ((alikeN v10 (Lib.idxOf ((elemsD (fieldD x0 0)).map intD) x1) : Int) - (0 : Int)).toNat) []]) (Lib.idxOf ((elemsD (fieldD x0 0)).map intD) x1) (elemsD x2)) []])
            else none
          else none
        else none
      else none
    else none
  else bif (decide (0 ≤ ((elemsD x2).length : Int)) && decide (((elemsD x2).length : Int) ≤ 1000)) then
      some (tupA [25, 4] (.agg [.agg [.slice (groupColsL x1 ((elemsD x2).length : Int)) [], .slice b9 []], .lit (.bool true)]))
    else none := by kernel_rfl
theorem t14 (N : Nat) (x0 : D) (x1 : Int) (x2 : D) : evFn Tryd.prog (envR B5 H7 R3 []) t14_h N Tryd.f14 [dat 25 x0, dat 3 (.lit (.int .i64 x1)), dat 22 x2] =
  bif ((!(mayBagB x0)) == false) then
    bif ((!(hasB (elemsD (fieldD x0 0)) x1)) == false) then
      bif ((!(hasAllB (elemsD (fieldD x0 0)) (elemsD x2))) == false) then
        bif decide (((elemsD x2).length : Int) > 4) then
          some (tupA [25, 4] (.agg [.agg [.slice [] [], .slice [] []], .lit (.bool false)]))
        else bif sortOK x0 then
            t14_lp6 Tryd.prog Tryd.f14 N N x0 x1 x2 (elemsD (fieldD (sortBag x0 x1) 1)) []
          else none
      else some (tupA [25, 4] (.agg [.agg [.slice [] [], .slice [] []], .lit (.bool false)]))
    else some (tupA [25, 4] (.agg [.agg [.slice [] [], .slice [] []], .lit (.bool false)]))
  else some (tupA [25, 4] (.agg [.agg [.slice [] [], .slice [] []], .lit (.bool false)])) := by kernel_rfl

end Go.Proofs.YtmopepjahjmdeaaDoor

namespace Go.Proofs.YtmopepjahjmdeaaDoor
open Go.Ev
set_option linter.unusedVariables false
/- roadbook/roadbooklaw03.awake -/
def t6_h : Hints := fun _ =>  none
theorem t6 (N : Nat)  : evFn Tryd.prog (envR B6 H7 R3 []) t6_h N Tryd.f6 [] =
  bif ((mayBagB threeD) == true) then
    bif ((groupOK threeD 0 [.lit (.int .i64 1)]) == true) then
      bif ((likeB (groupBag threeD 0 [.lit (.int .i64 1)]) (.agg [.slice [.lit (.int .i64 0), .lit (.int .i64 16), .lit (.int .i64 17)] [], .slice [.slice [.agg [.lit (.int .i64 0), .lit (.int .i64 1)], .agg [.lit (.int .i64 0), .lit (.int .i64 2)], .agg [.lit (.int .i64 0), .lit (.int .i64 7)]] [], .slice [.agg [.lit (.int .i64 0), .lit (.int .i64 3)], .agg [.lit (.int .i64 0), .lit (.int .i64 1)], .agg [.lit (.int .i64 0), .lit (.int .i64 4)]] []] []])) == true) then
        bif ((!(sortedB threeD 0)) == true) then
          bif sortOK threeD then
            some (dat 4 (.lit (.bool (sortedB (sortBag threeD 0) 0))))
          else none
        else some (dat 4 (.lit (.bool false)))
      else some (dat 4 (.lit (.bool false)))
    else some (dat 4 (.lit (.bool false)))
  else some (dat 4 (.lit (.bool false))) := by kernel_rfl

end Go.Proofs.YtmopepjahjmdeaaDoor

namespace Go.Proofs.YtmopepjahjmdeaaDoor
open Go.Ev
set_option linter.unusedVariables false
set_option maxRecDepth 10000
set_option linter.unusedSimpArgs false

theorem grp_loop {N : Nat} {cs rs : List D} {x1 : Int} {x2 : D} (hb : hasB cs x1 = true) (hs : hasAllB cs (elemsD x2) = true) (h4 : (elemsD x2).length ≤ 4) : ∀ (n : Nat) (rows acc : List D), rows.length < n → MayBag cs rows → acc.length + rows.length ≤ 5000 →
    t14_lp6 Tryd.prog Tryd.f14 N n (bagD cs rs) x1 x2 rows acc = some (tupA [25, 4] (.agg [bagD (groupColsL x1 ((elemsD x2).length : Int)) (acc ++ grpK cs (placeI cs x1) (elemsD x2) rows.length rows), .lit (.bool true)]))
  | 0, rows, acc, h, _, _ => by omega
  | n + 1, [], acc, h, hm, hl => by
    rw [t14_lp6_step]
    have g1 : decide ((([] : List D).length : Int) > 0) = false := rfl
    have g2 : (decide (0 ≤ ((elemsD x2).length : Int)) && decide (((elemsD x2).length : Int) ≤ 1000)) = true := by simp only [Bool.and_eq_true, decide_eq_true_eq]; omega
    rw [g1, g2, cond_false, cond_true]
    show _ = some (tupA [25, 4] (.agg [bagD (groupColsL x1 ((elemsD x2).length : Int)) (acc ++ []), .lit (.bool true)]))
    rw [List.append_nil]
    rfl
  | n + 1, r :: rows, acc, h, hm, hl => by
    rw [t14_lp6_step]
    have hz : Lib.idxOf ((elemsD (fieldD (bagD cs rs) 0)).map intD) x1 = placeI cs x1 := rfl
    rw [hz]
    obtain ⟨a, ha⟩ : ∃ a, a = alikeN (r :: rows) (placeI cs x1) := ⟨_, rfl⟩
    have a1 : 0 < a := by rw [ha]; exact alike_pos _ _
    have a2 : a ≤ (r :: rows).length := by rw [ha]; exact alike_le _ (by simp)
    rw [← ha]
    have g0 : decide (((r :: rows).length : Int) > 0) = true := by rw [decide_eq_true_eq]; omega
    have g1 : decide (0 < (r :: rows).length) = true := by simp
    have g2 : (decide (0 ≤ (0 : Int)) && decide ((0 : Int) ≤ (a : Int)) && decide ((a : Int) ≤ ((r :: rows).length : Int))) = true := by simp only [Bool.and_eq_true, decide_eq_true_eq]; omega
    have g3 : (decide (0 ≤ (a : Int)) && decide ((a : Int) ≤ ((r :: rows).length : Int)) && decide (((r :: rows).length : Int) ≤ ((r :: rows).length : Int))) = true := by simp only [Bool.and_eq_true, decide_eq_true_eq]; omega
    have e1 : (List.drop ((0 : Int) : Int).toNat (r :: rows)).take ((a : Int) - (0 : Int)).toNat = (r :: rows).take a := by
      have : ((a : Int) - (0 : Int)).toNat = a := by omega
      rw [this]; rfl
    have e2 : (List.drop ((a : Int) : Int).toNat (r :: rows)).take (((r :: rows).length : Int) - (a : Int)).toNat = (r :: rows).drop a := by
      have : (((r :: rows).length : Int) - (a : Int)).toNat = (r :: rows).length - a := by omega
      rw [this, Int.toNat_natCast]
      exact List.take_of_length_le (by rw [List.length_drop]; omega)
    have hmt : MayBag cs ((r :: rows).take a) := ⟨hm.c, by have := hm.n; rw [List.length_take]; omega, fun x hx => hm.l x (List.mem_of_mem_take hx), fun x hx => hm.m x (List.mem_of_mem_take hx)⟩
    have hmd : MayBag cs ((r :: rows).drop a) := ⟨hm.c, by have := hm.n; rw [List.length_drop]; omega, fun x hx => hm.l x (List.mem_of_mem_drop hx), fun x hx => hm.m x (List.mem_of_mem_drop hx)⟩
    have g4 : sumOK (.agg [fieldD (bagD cs rs) 0, .slice ((r :: rows).take a) []]) (placeI cs x1) (elemsD x2) = true := sum_ok hb hs h4 (by rw [List.length_take]; omega) hmt
    have g5 : decide (acc.length + 1 ≤ 2147483648) = true := by rw [decide_eq_true_eq]; omega
    simp only [e1, e2]
    rw [g0, g1, g2, g3, g4, g5]
    simp only [cond_true]
    have key := grp_loop (N := N) (rs := rs) hb hs h4 n ((r :: rows).drop a) (acc ++ [.slice (summedL (bagD cs ((r :: rows).take a)) (placeI cs x1) (elemsD x2)) []]) (by rw [List.length_drop]; simp only [List.length_cons] at *; omega) hmd (by rw [List.length_drop]; simp only [List.length_append, List.length_cons, List.length_nil] at *; omega)
    refine Eq.trans ?_ (key.trans ?_)
    · rfl
    · have f1 : grpK cs (placeI cs x1) (elemsD x2) (r :: rows).length (r :: rows) = .slice (summedL (bagD cs ((r :: rows).take a)) (placeI cs x1) (elemsD x2)) [] :: grpK cs (placeI cs x1) (elemsD x2) ((r :: rows).drop a).length ((r :: rows).drop a) := by
        rw [List.length_cons, grpK, ← ha, grp_fuel cs (placeI cs x1) (elemsD x2) rows.length ((r :: rows).drop a).length ((r :: rows).drop a) (by rw [List.length_drop]; simp only [List.length_cons]; omega) (Nat.le_refl _)]
        simp
      rw [f1]
      simp only [List.append_assoc, List.cons_append, List.nil_append]
theorem k14 : FnOK Tryd.prog 14 Tryd.f14 := ⟨Tryd.func14, rfl, by kernel_rfl⟩
theorem c14 : ∀ args d, e14.2.2.2 args = some d → CallOK Tryd.prog 14 args (mkRes Tryd.prog 30 d) :=
  ent3 k14 fun x y z d h ⟨_, hx⟩ _ _ => by
    cases h
    rw [nB, n3, nI]
    obtain ⟨cs, rs, rfl, h1, h2, h3, h4⟩ := tyB hx
    refine fn_ok hm envB5 k14 ((t14 (rs.length + 1) (bagD cs rs) (intD y) z).trans ?_)
    rw [mTBB]
    cases q1 : mayBagB (bagD cs rs) with
    | false =>
      have : groupOK (bagD cs rs) (intD y) (elemsD z) = false := by unfold groupOK; rw [q1]; rfl
      rw [groupBag, this]; rfl
    | true =>
      cases q2 : hasB cs (intD y) with
      | false =>
        have : groupOK (bagD cs rs) (intD y) (elemsD z) = false := by unfold groupOK; rw [q1, show bCols (bagD cs rs) = cs from rfl, q2]; rfl
        rw [groupBag, this, show elemsD (fieldD (bagD cs rs) 0) = cs from rfl, q2]; rfl
      | true =>
        cases q3 : hasAllB cs (elemsD z) with
        | false =>
          have : groupOK (bagD cs rs) (intD y) (elemsD z) = false := by unfold groupOK; rw [q1, show bCols (bagD cs rs) = cs from rfl, q2, q3]; rfl
          rw [groupBag, this, show elemsD (fieldD (bagD cs rs) 0) = cs from rfl, q2, q3]; rfl
        | true =>
          by_cases q4 : (elemsD z).length ≤ 4
          · have hok : groupOK (bagD cs rs) (intD y) (elemsD z) = true := by
              unfold groupOK
              rw [q1, show bCols (bagD cs rs) = cs from rfl, q2, q3]
              simpa using q4
            have g1 : decide (((elemsD z).length : Int) > 4) = false := by rw [decide_eq_false_iff_not]; omega
            have hmb := may_bag q1
            have hms : MayBag cs (sortRows (placeI cs (intD y)) rs) := by
              have := perm_may (placeI cs (intD y)) cs rs
              rw [q1] at this
              exact may_bag this
            have hlen : (sortRows (placeI cs (intD y)) rs).length = rs.length := sortK_len rs
            rw [show elemsD (fieldD (bagD cs rs) 0) = cs from rfl, q2, q3, g1, may_sort hmb]
            have key := grp_loop (N := rs.length + 1) (rs := rs) q2 q3 q4 (rs.length + 1) (sortRows (placeI cs (intD y)) rs) [] (by omega) hms (by have := hmb.n; simp; omega)
            rw [hlen] at key
            rw [groupBag, hok]
            exact key
          · have hok : groupOK (bagD cs rs) (intD y) (elemsD z) = false := by
              unfold groupOK
              rw [q1, show bCols (bagD cs rs) = cs from rfl, q2, q3]
              simpa using q4
            have g1 : decide (((elemsD z).length : Int) > 4) = true := by rw [decide_eq_true_eq]; omega
            rw [groupBag, hok, show elemsD (fieldD (bagD cs rs) 0) = cs from rfl, q2, q3, g1]
            rfl
theorem envB6 : EnvOK Tryd.prog (envR B6 H7 R3 []) := envOK_cons envB5 c14

/-! ### awake -/
theorem k6 : FnOK Tryd.prog 6 Tryd.f6 := ⟨Tryd.func6, rfl, by kernel_rfl⟩
theorem c6 : ∀ args d, e6.2.2.2 args = some d → CallOK Tryd.prog 6 args (mkRes Tryd.prog 4 d) :=
  ent0 fun d h => by
    cases h
    refine fn_ok hm envB6 k6 ((t6 1).trans ?_)
    rw [m4]
    kernel_rfl
theorem envB7 : EnvOK Tryd.prog (envR B7 H7 R3 []) := envOK_cons envB6 c6

end Go.Proofs.YtmopepjahjmdeaaDoor
