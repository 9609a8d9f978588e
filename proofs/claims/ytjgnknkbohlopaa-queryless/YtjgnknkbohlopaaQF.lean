/- QueryLess: the query less a conjunct, less its order, and with one more occurrence is a query as before. Proved for every world, every order, every argument that the statement takes. -/
import Derived.Test.YtjgnknkbohlopaaQE2
import Derived.Test.YtjgnknkbohlopaaV3
import Derived.WalkKit
import Derived.ProofKit
import Derived.OpenShut
import Derived.ShutString
import Derived.ChangeOld
import Derived.Below
namespace Go.Proofs.Ytjgnknkbohlopaa
namespace X
open Go.Ev
set_option linter.unusedVariables false
/- roadbook/roadbooklaw05.QueryLess -/
def t6_h : Hints := fun _ =>  none
theorem t6 (N : Nat) (x0 : D) (x1 : D) (x2 : Int) (x3 : Int) : evFn Try.prog (envS (envR QA [] [] []) [(40, 101), (62, 101)]) t6_h N Try.f6 [dat 24 x0, dat 28 x1, dat 3 (.lit (.int .i64 x2)), dat 3 (.lit (.int .i64 x3))] =
  bif ((!(fewQ fewB x0 x1)) == false) then
    bif (!(mayQ x0 x1)) then
      some (dat 4 (.lit (.bool true)))
    else bif decide ((elemsD (fieldD x1 0)).length ≤ 2147483648) then
        bif decide ((elemsD (fieldD x1 0)).length + 1 ≤ 2147483648) then
          bif ((decide (x2 ≥ 0)) == true) then
            bif decide (x2 < ((elemsD (fieldD x1 1)).length : Int)) then
              bif (decide (0 ≤ (0 : Int)) && decide ((0 : Int) ≤ x2) && decide (x2 ≤ ((elemsD (fieldD x1 1)).length : Int))) then
                bif decide ((((elemsD (fieldD x1 1)).drop ((0 : Int) : Int).toNat).take (x2 - (0 : Int)).toNat).length ≤ 2147483648) then
                  bif (decide (0 ≤ (IntKind.wrap .i64 (x2 + 1))) && decide ((IntKind.wrap .i64 (x2 + 1)) ≤ ((elemsD (fieldD x1 1)).length : Int)) && decide (((elemsD (fieldD x1 1)).length : Int) ≤ ((elemsD (fieldD x1 1)).length : Int))) then
                    bif decide ((((elemsD (fieldD x1 1)).drop ((0 : Int) : Int).toNat).take (x2 - (0 : Int)).toNat).length + (((elemsD (fieldD x1 1)).drop ((IntKind.wrap .i64 (x2 + 1)) : Int).toNat).take (((elemsD (fieldD x1 1)).length : Int) - (IntKind.wrap .i64 (x2 + 1))).toNat).length ≤ 2147483648) then
                      bif ((decide (((elemsD (fieldD x1 0)).length : Int) < 4)) == true) then
                        bif ((decide (x3 ≥ 0)) == true) then
                          bif ((mayQ x0 (setD x1 5 (.lit (.int .i64 (-1))))) == true) then
                            bif ((mayQ x0 (setD x1 1 (.slice ((((elemsD (fieldD x1 1)).drop ((0 : Int) : Int).toNat).take (x2 - (0 : Int)).toNat) ++ (((elemsD (fieldD x1 1)).drop ((IntKind.wrap .i64 (x2 + 1)) : Int).toNat).take (((elemsD (fieldD x1 1)).length : Int) - (IntKind.wrap .i64 (x2 + 1))).toNat)) []))) == true) then
                              bif (((mayQ x0 (setD x1 0 (.slice ((elemsD (fieldD x1 0)) ++ [.lit (.int .i64 x3)]) []))) == (decide (x3 < ((elemsD (fieldD x0 0)).length : Int)))) == true) then
                                bif decide ((qP (setD x1 5 (.lit (.int .i64 (-1))))).length ≤ 400000) then
                                  bif decide ((qP x1).length ≤ 400000) then
                                    some (dat 4 (.lit (.bool (decide (((ordersL (setD x1 5 (.lit (.int .i64 (-1))))).length : Int) ≤ ((ordersL x1).length : Int))))))
                                  else none
                                else none
                              else some (dat 4 (.lit (.bool false)))
                            else some (dat 4 (.lit (.bool false)))
                          else some (dat 4 (.lit (.bool false)))
                        else bif ((mayQ x0 (setD x1 5 (.lit (.int .i64 (-1))))) == true) then
                            bif ((mayQ x0 (setD x1 1 (.slice ((((elemsD (fieldD x1 1)).drop ((0 : Int) : Int).toNat).take (x2 - (0 : Int)).toNat) ++ (((elemsD (fieldD x1 1)).drop ((IntKind.wrap .i64 (x2 + 1)) : Int).toNat).take (((elemsD (fieldD x1 1)).length : Int) - (IntKind.wrap .i64 (x2 + 1))).toNat)) []))) == true) then
                              bif (((mayQ x0 (setD x1 0 (.slice ((elemsD (fieldD x1 0)) ++ [.lit (.int .i64 x3)]) []))) == false) == true) then
                                bif decide ((qP (setD x1 5 (.lit (.int .i64 (-1))))).length ≤ 400000) then
                                  bif decide ((qP x1).length ≤ 400000) then
                                    some (dat 4 (.lit (.bool (decide (((ordersL (setD x1 5 (.lit (.int .i64 (-1))))).length : Int) ≤ ((ordersL x1).length : Int))))))
                                  else none
                                else none
                              else some (dat 4 (.lit (.bool false)))
                            else some (dat 4 (.lit (.bool false)))
                          else some (dat 4 (.lit (.bool false)))
                      else bif ((mayQ x0 (setD x1 5 (.lit (.int .i64 (-1))))) == true) then
                          bif ((mayQ x0 (setD x1 1 (.slice ((((elemsD (fieldD x1 1)).drop ((0 : Int) : Int).toNat).take (x2 - (0 : Int)).toNat) ++ (((elemsD (fieldD x1 1)).drop ((IntKind.wrap .i64 (x2 + 1)) : Int).toNat).take (((elemsD (fieldD x1 1)).length : Int) - (IntKind.wrap .i64 (x2 + 1))).toNat)) []))) == true) then
                            bif (((mayQ x0 (setD x1 0 (.slice ((elemsD (fieldD x1 0)) ++ [.lit (.int .i64 x3)]) []))) == false) == true) then
                              bif decide ((qP (setD x1 5 (.lit (.int .i64 (-1))))).length ≤ 400000) then
                                bif decide ((qP x1).length ≤ 400000) then
                                  some (dat 4 (.lit (.bool (decide (((ordersL (setD x1 5 (.lit (.int .i64 (-1))))).length : Int) ≤ ((ordersL x1).length : Int))))))
                                else none
                              else none
                            else some (dat 4 (.lit (.bool false)))
                          else some (dat 4 (.lit (.bool false)))
                        else some (dat 4 (.lit (.bool false)))
                    else none
                  else none
                else none
              else none
            else bif ((decide (((elemsD (fieldD x1 0)).length : Int) < 4)) == true) then
                bif ((decide (x3 ≥ 0)) == true) then
                  bif ((mayQ x0 (setD x1 5 (.lit (.int .i64 (-1))))) == true) then
                    bif ((mayQ x0 x1) == true) then
                      bif (((mayQ x0 (setD x1 0 (.slice ((elemsD (fieldD x1 0)) ++ [.lit (.int .i64 x3)]) []))) == (decide (x3 < ((elemsD (fieldD x0 0)).length : Int)))) == true) then
                        bif decide ((qP (setD x1 5 (.lit (.int .i64 (-1))))).length ≤ 400000) then
                          bif decide ((qP x1).length ≤ 400000) then
                            some (dat 4 (.lit (.bool (decide (((ordersL (setD x1 5 (.lit (.int .i64 (-1))))).length : Int) ≤ ((ordersL x1).length : Int))))))
                          else none
                        else none
                      else some (dat 4 (.lit (.bool false)))
                    else some (dat 4 (.lit (.bool false)))
                  else some (dat 4 (.lit (.bool false)))
                else bif ((mayQ x0 (setD x1 5 (.lit (.int .i64 (-1))))) == true) then
                    bif ((mayQ x0 x1) == true) then
                      bif (((mayQ x0 (setD x1 0 (.slice ((elemsD (fieldD x1 0)) ++ [.lit (.int .i64 x3)]) []))) == false) == true) then
                        bif decide ((qP (setD x1 5 (.lit (.int .i64 (-1))))).length ≤ 400000) then
                          bif decide ((qP x1).length ≤ 400000) then
                            some (dat 4 (.lit (.bool (decide (((ordersL (setD x1 5 (.lit (.int .i64 (-1))))).length : Int) ≤ ((ordersL x1).length : Int))))))
                          else none
                        else none
                      else some (dat 4 (.lit (.bool false)))
                    else some (dat 4 (.lit (.bool false)))
                  else some (dat 4 (.lit (.bool false)))
              else bif ((mayQ x0 (setD x1 5 (.lit (.int .i64 (-1))))) == true) then
                  bif ((mayQ x0 x1) == true) then
                    bif (((mayQ x0 (setD x1 0 (.slice ((elemsD (fieldD x1 0)) ++ [.lit (.int .i64 x3)]) []))) == false) == true) then
                      bif decide ((qP (setD x1 5 (.lit (.int .i64 (-1))))).length ≤ 400000) then
                        bif decide ((qP x1).length ≤ 400000) then
                          some (dat 4 (.lit (.bool (decide (((ordersL (setD x1 5 (.lit (.int .i64 (-1))))).length : Int) ≤ ((ordersL x1).length : Int))))))
                        else none
                      else none
                    else some (dat 4 (.lit (.bool false)))
                  else some (dat 4 (.lit (.bool false)))
                else some (dat 4 (.lit (.bool false)))
          else bif ((decide (((elemsD (fieldD x1 0)).length : Int) < 4)) == true) then
              bif ((decide (x3 ≥ 0)) == true) then
                bif ((mayQ x0 (setD x1 5 (.lit (.int .i64 (-1))))) == true) then
                  bif ((mayQ x0 x1) == true) then
                    bif (((mayQ x0 (setD x1 0 (.slice ((elemsD (fieldD x1 0)) ++ [.lit (.int .i64 x3)]) []))) == (decide (x3 < ((elemsD (fieldD x0 0)).length : Int)))) == true) then
                      bif decide ((qP (setD x1 5 (.lit (.int .i64 (-1))))).length ≤ 400000) then
                        bif decide ((qP x1).length ≤ 400000) then
                          some (dat 4 (.lit (.bool (decide (((ordersL (setD x1 5 (.lit (.int .i64 (-1))))).length : Int) ≤ ((ordersL x1).length : Int))))))
                        else none
                      else none
                    else some (dat 4 (.lit (.bool false)))
                  else some (dat 4 (.lit (.bool false)))
                else some (dat 4 (.lit (.bool false)))
              else bif ((mayQ x0 (setD x1 5 (.lit (.int .i64 (-1))))) == true) then
                  bif ((mayQ x0 x1) == true) then
                    bif (((mayQ x0 (setD x1 0 (.slice ((elemsD (fieldD x1 0)) ++ [.lit (.int .i64 x3)]) []))) == false) == true) then
                      bif decide ((qP (setD x1 5 (.lit (.int .i64 (-1))))).length ≤ 400000) then
                        bif decide ((qP x1).length ≤ 400000) then
                          some (dat 4 (.lit (.bool (decide (((ordersL (setD x1 5 (.lit (.int .i64 (-1))))).length : Int) ≤ ((ordersL x1).length : Int))))))
                        else none
                      else none
                    else some (dat 4 (.lit (.bool false)))
                  else some (dat 4 (.lit (.bool false)))
                else some (dat 4 (.lit (.bool false)))
            else bif ((mayQ x0 (setD x1 5 (.lit (.int .i64 (-1))))) == true) then
                bif ((mayQ x0 x1) == true) then
                  bif (((mayQ x0 (setD x1 0 (.slice ((elemsD (fieldD x1 0)) ++ [.lit (.int .i64 x3)]) []))) == false) == true) then
                    bif decide ((qP (setD x1 5 (.lit (.int .i64 (-1))))).length ≤ 400000) then
                      bif decide ((qP x1).length ≤ 400000) then
                        some (dat 4 (.lit (.bool (decide (((ordersL (setD x1 5 (.lit (.int .i64 (-1))))).length : Int) ≤ ((ordersL x1).length : Int))))))
                      else none
                    else none
                  else some (dat 4 (.lit (.bool false)))
                else some (dat 4 (.lit (.bool false)))
              else some (dat 4 (.lit (.bool false)))
        else none
      else none
  else some (dat 4 (.lit (.bool true))) := by kernel_rfl

end X
end Go.Proofs.Ytjgnknkbohlopaa

namespace Go.Proofs.Ytjgnknkbohlopaa
namespace X
open Go.Ev
set_option linter.unusedVariables false
set_option maxRecDepth 10000
set_option linter.unusedSimpArgs false

def mkQ (o p : List D) (b : Int) (s u : List D) (r : Int) : D := .agg [.slice o [], .slice p [], litI b, .slice s [], .slice u [], litI r]
theorem q_form {q : D} (h : QOK q) : q = mkQ (qOcc q) (qP q) (qBy q) (qSums q) (qOut q) (qOrd q) := h.eq
theorem may_free {c : D} {o p s u : List D} {b r : Int} (h : mayQ c (mkQ o p b s u r) = true) : mayQ c (mkQ o p b s u (-1)) = true := by
  obtain ⟨h1, h2, h3, h4⟩ := may_cat h
  have h2 : occMayB c (mkQ o p b s u (-1)) = true := h2
  have h3 : exprMayB c (mkQ o p b s u (-1)) = true := h3
  have h4' : endB c (mkQ o p b s u (-1)) = true := by
    have e1 : qOrd (mkQ o p b s u (-1)) = -1 := rfl
    unfold endB at h4 ⊢
    have hb : qBy (mkQ o p b s u r) = b := rfl
    have hb' : qBy (mkQ o p b s u (-1)) = b := rfl
    rw [hb] at h4
    rw [hb']
    cases hq : (b == -1) with
    | true =>
      rw [hq, cond_true] at h4
      rw [cond_true]
      unfold toldB at h4 ⊢
      simp only [Bool.and_eq_true] at h4 ⊢
      obtain ⟨a1, a2, a3, a4, a5, _⟩ := h4
      exact ⟨a1, a2, a3, a4, a5, rfl⟩
    | false =>
      rw [hq, cond_false] at h4
      rw [cond_false]
      unfold groupsB at h4 ⊢
      simp only [Bool.and_eq_true] at h4 ⊢
      obtain ⟨a1, a2, a3, a4, _⟩ := h4
      exact ⟨a1, a2, a3, a4, rfl⟩
  unfold mayQ
  rw [h1, h2, h3, h4']
  rfl
theorem may_less {c : D} {o p p' s u : List D} {b r : Int} (hl : p'.length ≤ p.length) (hm : ∀ e ∈ p', e ∈ p) (h : mayQ c (mkQ o p b s u r) = true) : mayQ c (mkQ o p' b s u r) = true := by
  obtain ⟨h1, h2, h3, h4⟩ := may_cat h
  have h2 : occMayB c (mkQ o p' b s u r) = true := h2
  have h4 : endB c (mkQ o p' b s u r) = true := h4
  have h3' : exprMayB c (mkQ o p' b s u r) = true := by
    unfold exprMayB at h3 ⊢
    rw [Bool.and_eq_true, decide_eq_true_eq, List.all_eq_true] at h3 ⊢
    have h31 : p.length ≤ 6 := h3.1
    refine ⟨show p'.length ≤ 6 by omega, fun e he => ?_⟩
    exact h3.2 e (hm e he)
  unfold mayQ
  rw [h1, h2, h3', h4]
  rfl
theorem col_more {c : D} {o p s u : List D} {b r : Int} {t : D} {x : Int} (h : isColB c (mkQ o p b s u r) x = true) : isColB c (mkQ (o ++ [t]) p b s u r) x = true := by
  unfold isColB at h ⊢
  simp only [Bool.and_eq_true, decide_eq_true_eq] at h ⊢
  obtain ⟨h1, h2, h3⟩ := h
  have h2 : splitA x < (o.length : Int) := h2
  have hs := split_lt x
  refine ⟨h1, ?_, ?_⟩
  · show splitA x < ((o ++ [t]).length : Int)
    rw [List.length_append]
    simp
    omega
  · have e : tabC c (mkQ (o ++ [t]) p b s u r) (splitA x) = tabC c (mkQ o p b s u r) (splitA x) := by
      show defC ((tabs c).getD (intD ((o ++ [t]).getD (splitA x).toNat .nil)).toNat .nil) = defC ((tabs c).getD (intD (o.getD (splitA x).toNat .nil)).toNat .nil)
      rw [show (o ++ [t]).getD (splitA x).toNat .nil = o.getD (splitA x).toNat .nil by
        rw [List.getD_eq_getElem?_getD, List.getD_eq_getElem?_getD, List.getElem?_append_left (by omega)]]
    rw [e]
    exact h3
theorem are_more {c : D} {o p s u l : List D} {b r : Int} {t : D} (h : areColB c (mkQ o p b s u r) l = true) : areColB c (mkQ (o ++ [t]) p b s u r) l = true := by
  unfold areColB at h ⊢
  rw [List.all_eq_true] at h ⊢
  exact fun x hx => col_more (h x hx)
theorem may_more {c : D} {o p s u : List D} {b r z : Int} (h : mayQ c (mkQ o p b s u r) = true) : mayQ c (mkQ (o ++ [litI z]) p b s u r) = (decide ((o.length : Int) < 4) && (decide (z ≥ 0) && decide (z < ((tabs c).length : Int)))) := by
  obtain ⟨h1, h2, h3, h4⟩ := may_cat h
  have ho : occMayB c (mkQ (o ++ [litI z]) p b s u r) = (decide ((o.length : Int) < 4) && (decide (z ≥ 0) && decide (z < ((tabs c).length : Int)))) := by
    unfold occMayB at h2 ⊢
    simp only [Bool.and_eq_true, decide_eq_true_eq] at h2
    show (decide (1 ≤ (o ++ [litI z]).length) && decide ((o ++ [litI z]).length ≤ 4) && (o ++ [litI z]).all (fun x => belowB (intD x) ((tabs c).length : Int))) = _
    have hall : o.all (fun x => belowB (intD x) ((tabs c).length : Int)) = true := h2.2
    rw [List.all_append, hall, Bool.true_and, List.length_append, List.all_cons, List.all_nil, Bool.and_true]
    rw [show decide (1 ≤ o.length + [litI z].length) = true from dT (by simp), Bool.true_and]
    rw [show decide (o.length + [litI z].length ≤ 4) = decide ((o.length : Int) < 4) by rw [Bool.eq_iff_iff, decide_eq_true_eq, decide_eq_true_eq]; simp; omega]
    rfl
  have h3' : exprMayB c (mkQ (o ++ [litI z]) p b s u r) = true := by
    unfold exprMayB at h3 ⊢
    rw [Bool.and_eq_true, List.all_eq_true] at h3 ⊢
    refine ⟨h3.1, fun e he => ?_⟩
    have := h3.2 e he
    unfold exprB at this ⊢
    rw [Bool.and_eq_true] at this ⊢
    exact ⟨this.1, are_more this.2⟩
  have h4' : endB c (mkQ (o ++ [litI z]) p b s u r) = true := by
    unfold endB at h4 ⊢
    have hb : qBy (mkQ o p b s u r) = b := rfl
    have hb' : qBy (mkQ (o ++ [litI z]) p b s u r) = b := rfl
    rw [hb] at h4
    rw [hb']
    cases hq : (b == -1) with
    | true =>
      rw [hq, cond_true] at h4
      rw [cond_true]
      unfold toldB at h4 ⊢
      simp only [Bool.and_eq_true] at h4 ⊢
      obtain ⟨a1, a2, a3, a4, a5, a6⟩ := h4
      exact ⟨a1, a2, a3, are_more a4, a5, a6⟩
    | false =>
      rw [hq, cond_false] at h4
      rw [cond_false]
      unfold groupsB at h4 ⊢
      simp only [Bool.and_eq_true] at h4 ⊢
      obtain ⟨a1, a2, a3, a4, a5⟩ := h4
      exact ⟨col_more a1, a2, are_more a3, a4, a5⟩
  unfold mayQ
  rw [h1, ho, h3', h4']
  simp
theorem orders_less {o p s u : List D} {b r : Int} : (ordersL (mkQ o p b s u (-1))).length ≤ (ordersL (mkQ o p b s u r)).length := by
  have hl : ∀ q : D, (ordersL q).length = (cset ((ordRaw q).map intD)).length := by
    intro q
    unfold ordersL compD sortD cset
    rw [map_litI, List.length_map]
  rw [hl, hl]
  refine len_sub (cset_nodup _) fun z hz => ?_
  rw [mem_cset] at hz ⊢
  rw [List.mem_map] at hz ⊢
  obtain ⟨x, hx, rfl⟩ := hz
  refine ⟨x, ?_, rfl⟩
  unfold ordRaw at hx ⊢
  have e : ordCol (qOrd (mkQ o p b s u (-1))) = [] := rfl
  rw [e, List.append_nil] at hx
  exact List.mem_append_left _ hx
theorem k6 : FnOK Try.prog 6 Try.f6 := ⟨Try.func6, rfl, by kernel_rfl⟩
theorem lawLess {n0 n1 n2 n3 : Nat} {c q x2 x3 : D} (h0 : Ty Try.prog n0 24 c) (h1 : Ty Try.prog n1 28 q) (h2 : Ty Try.prog n2 3 x2) (h3 : Ty Try.prog n3 3 x3) :
    CallOK Try.prog 6 [dat 24 c, dat 28 q, dat 3 x2, dat 3 x3] (dat 4 (.lit (.bool true))) := by
  obtain ⟨i, rfl, _⟩ := ty3' h2
  obtain ⟨z, rfl, _⟩ := ty3' h3
  have hq := tyQ h1
  have hform := q_form hq
  generalize qOcc q = o at hform
  generalize qP q = p at hform
  generalize qBy q = b at hform
  generalize qSums q = s at hform
  generalize qOut q = u at hform
  generalize qOrd q = r at hform
  subst hform
  refine law_ok (envOK_S envQA _) k6 ((t6 1 c (mkQ o p b s u r) i z).trans ?_)
  cases hf : fewQ fewB c (mkQ o p b s u r) with
  | false => rfl
  | true =>
    cases hmq : mayQ c (mkQ o p b s u r) with
    | false => rfl
    | true =>
      obtain ⟨l1, l2, _, _, _⟩ := few_len hf
      have l1 : p.length ≤ 8 := l1
      have l2 : o.length ≤ 20 := l2
      have eo : elemsD (fieldD (mkQ o p b s u r) 0) = o := rfl
      have ep : elemsD (fieldD (mkQ o p b s u r) 1) = p := rfl
      have g1 : setD (mkQ o p b s u r) 5 (.lit (.int .i64 (-1))) = mkQ o p b s u (-1) := rfl
      have g2 : ∀ l : List D, setD (mkQ o p b s u r) 1 (.slice l []) = mkQ o l b s u r := fun _ => rfl
      have g3 : setD (mkQ o p b s u r) 0 (.slice (o ++ [.lit (.int .i64 z)]) []) = mkQ (o ++ [litI z]) p b s u r := rfl
      have p1 : qP (mkQ o p b s u (-1)) = p := rfl
      have p2 : qP (mkQ o p b s u r) = p := rfl
      have et : elemsD (fieldD c 0) = tabs c := rfl
      have hol := orders_less (o := o) (p := p) (s := s) (u := u) (b := b) (r := r)
      rw [eo, ep, et, g1, g3, p1, p2, may_free hmq, may_more hmq, dT (show o.length ≤ 2147483648 by omega), dT (show o.length + 1 ≤ 2147483648 by omega), dT (show p.length ≤ 400000 by omega), dT (show ((ordersL (mkQ o p b s u (-1))).length : Int) ≤ ((ordersL (mkQ o p b s u r)).length : Int) by omega)]
      by_cases hi : i ≥ 0
      · by_cases hlt : i < (p.length : Int)
        · have w1 : IntKind.wrap .i64 (i + 1) = i + 1 := l_wrapI (l_in (by omega) (by omega))
          have c1 : (decide (0 ≤ (0 : Int)) && decide ((0 : Int) ≤ i) && decide (i ≤ (p.length : Int))) = true := by simp only [Bool.and_eq_true, decide_eq_true_eq]; omega
          have c3 : (decide (0 ≤ i + 1) && decide (i + 1 ≤ (p.length : Int)) && decide ((p.length : Int) ≤ (p.length : Int))) = true := by simp only [Bool.and_eq_true, decide_eq_true_eq]; omega
          have len1 : ((p.drop ((0 : Int) : Int).toNat).take (i - (0 : Int)).toNat).length ≤ i.toNat := by rw [List.length_take]; omega
          have len2 : ((p.drop ((i + 1 : Int)).toNat).take ((p.length : Int) - (i + 1)).toNat).length ≤ p.length - (i.toNat + 1) := by rw [List.length_take, List.length_drop]; omega
          have f2 : mayQ c (mkQ o (((p.drop ((0 : Int) : Int).toNat).take (i - (0 : Int)).toNat) ++ ((p.drop ((i + 1 : Int)).toNat).take ((p.length : Int) - (i + 1)).toNat)) b s u r) = true := by
            refine may_less (p := p) ?_ ?_ hmq
            · rw [List.length_append]; omega
            · intro e he
              rw [List.mem_append] at he
              rcases he with he | he
              · exact List.mem_of_mem_drop (List.mem_of_mem_take he)
              · exact List.mem_of_mem_drop (List.mem_of_mem_take he)
          rw [w1, c1, c3, g2, f2, dT hi, dT hlt, dT (show ((p.drop ((0 : Int) : Int).toNat).take (i - (0 : Int)).toNat).length ≤ 2147483648 by omega), dT (show ((p.drop ((0 : Int) : Int).toNat).take (i - (0 : Int)).toNat).length + ((p.drop ((i + 1 : Int)).toNat).take ((p.length : Int) - (i + 1)).toNat).length ≤ 2147483648 by omega)]
          generalize decide ((o.length : Int) < 4) = b1
          generalize decide (z ≥ 0) = b2
          generalize decide (z < ((tabs c).length : Int)) = b3
          cases b1 <;> cases b2 <;> cases b3 <;> rfl
        · rw [dT hi, dF hlt]
          generalize decide ((o.length : Int) < 4) = b1
          generalize decide (z ≥ 0) = b2
          generalize decide (z < ((tabs c).length : Int)) = b3
          cases b1 <;> cases b2 <;> cases b3 <;> rfl
      · rw [dF hi]
        generalize decide ((o.length : Int) < 4) = b1
        generalize decide (z ≥ 0) = b2
        generalize decide (z < ((tabs c).length : Int)) = b3
        cases b1 <;> cases b2 <;> cases b3 <;> rfl

end X
end Go.Proofs.Ytjgnknkbohlopaa

namespace Go.Proofs.Ytjgnknkbohlopaa
open Go.Ev
open Go.ChangeShapes Go.WideShapes Go.ChangeAt Go.RowKit
set_option linter.unusedVariables false

namespace queryLessLaw

theorem own : ownKnob Try.prog.godebug = none := by kernel_rfl
theorem laidOut : laidOutB Try.prog = true := by kernel_rfl
theorem types : okTypes Try.prog [3, 25, 26, 40, 38, 22, 66, 24, 28] = true := by kernel_rfl

set_option maxRecDepth 100000 in
theorem lifted (os : Os) (started : os.Started) (H : Type) (enc : TypeId × Value → H) :
    ReturnsInHanded {} Try.checked os 6 .any (Rows.queryLessSpec.pre6 enc Try.prog Try.f6 Rows.queryLessRow.domain false) (Rows.queryLessSpec.post enc Try.prog Try.f6 false true false false) := by
  refine returnsInHanded_of_change (C := Try.checked) own started (by kernel_rfl) Try.func6
    (ChangeSpec.witness6 (enc := enc) (C := Try.checked) false ⟨#[], #[.agg #[.slice none 0 0], .agg #[.slice none 0 0, .slice none 0 0, .int .i64 0, .slice none 0 0, .slice none 0 0, .int .i64 0], .int .i64 0, .int .i64 0], []⟩ 8 (by kernel_rfl) (by kernel_rfl) (by kernel_rfl) (by kernel_rfl)) ?_
  intro W base args ds gs before hval0 hW hcnd _
  have hval : ∀ (j : Nat) t v, Try.f6.params[j]? = some t → args[j]? = some v → Value.okWide Try.prog W .any base t v := hval0
  have hW' := hW
  obtain ⟨p, q, hA0, hV, rfl, hfz, hnd⟩ := hW
  have hA : DataW.TrodAll enc Try.prog W 0 (fun _ => true) true Try.f6.params.toList args.toList ds p := hA0
  rw [Try.params6] at hA hval
  obtain ⟨v0, vs0, d0, ds0, p0, q0, hargs, rfl, rfl, h0, r0⟩ := trodAll_cons hA
  obtain ⟨v1, vs1, d1, ds1, p1, q1, rfl, rfl, rfl, h1, r1⟩ := trodAll_cons r0
  obtain ⟨v2, vs2, d2, ds2, p2, q2, rfl, rfl, rfl, h2, r2⟩ := trodAll_cons r1
  obtain ⟨v3, vs3, d3, ds3, p3, q3, rfl, rfl, rfl, h3, r3⟩ := trodAll_cons r2
  obtain ⟨rfl, rfl, rfl⟩ := trodAll_nil r3
  obtain rfl : args = #[v0, v1, v2, v3] := by cases args; simp_all
  obtain ⟨rfl, rfl⟩ := trodVars_none hV
  have lt0 : ∀ x ∈ p0, x.block < W.heap.size := by obtain ⟨m, hm⟩ := h0; exact DataW.trod_lt m _ _ _ hm
  obtain ⟨n0, x0, ty0, rep0⟩ := arg_rep types (by decide) (hval 0 24 v0 rfl rfl) h0
  have lt1 : ∀ x ∈ p1, x.block < W.heap.size := by obtain ⟨m, hm⟩ := h1; exact DataW.trod_lt m _ _ _ hm
  obtain ⟨n1, x1, ty1, rep1⟩ := arg_rep types (by decide) (hval 1 28 v1 rfl rfl) h1
  have lt2 : ∀ x ∈ p2, x.block < W.heap.size := by obtain ⟨m, hm⟩ := h2; exact DataW.trod_lt m _ _ _ hm
  obtain ⟨n2, x2, ty2, rep2⟩ := arg_rep types (by decide) (hval 2 3 v2 rfl rfl) h2
  have lt3 : ∀ x ∈ p3, x.block < W.heap.size := by obtain ⟨m, hm⟩ := h3; exact DataW.trod_lt m _ _ _ hm
  obtain ⟨n3, x3, ty3, rep3⟩ := arg_rep types (by decide) (hval 3 3 v3 rfl rfl) h3
  clear hA0 hval0
  refine (calls_true Try.underlying4 (tabOn_none (by kernel_rfl) _ _) (X.lawLess ty0 ty1 ty2 ty3) (w := W) (vs := [v0, v1, v2, v3]) ⟨⟨rfl, rep0⟩, ⟨rfl, rep1⟩, ⟨rfl, rep2⟩, ⟨rfl, rep3⟩, trivial⟩).mono fun e W' ⟨he, bel⟩ => ?_
  subst he
  exact ⟨_, rfl, _, _, _, [], _, [], hW', trodAll_mk1 (shut_bool Try.underlying4 _), (trodAll_cons_mk (Below.trod laidOut (by kernel_rfl) (of_decide_eq_true (by kernel_rfl)) h0 bel lt0) (trodAll_cons_mk (Below.trod laidOut (by kernel_rfl) (of_decide_eq_true (by kernel_rfl)) h1 bel lt1) (trodAll_cons_mk (Below.trod laidOut (by kernel_rfl) (of_decide_eq_true (by kernel_rfl)) h2 bel lt2) (trodAll_cons_mk (Below.trod laidOut (by kernel_rfl) (of_decide_eq_true (by kernel_rfl)) h3 bel lt3) trodAll_mk0)))), rfl, bel.frame _, fun h => by cases h⟩

theorem over : Rows.queryLessRow.holds Try.pinned (OpenSpec.ofChange Rows.queryLessSpec) :=
  OpenClaim.holds_of_wide 6 Try.f6 rfl rfl rfl rfl rfl rfl rfl ⟨rfl, rfl, rfl, rfl, rfl⟩ rfl rfl rfl rfl rfl (by kernel_rfl) Try.func6 (by kernel_rfl)
    (of_decide_eq_true (by kernel_rfl)) (by unfold Func.isWrapper; first | (rw [if_pos (by decide +kernel)]; kernel_rfl) | (rw [if_neg (by decide +kernel)]; exact ⟨rfl, rfl⟩))
    (fun os started H enc _ => lifted os started H enc)

end queryLessLaw

/-- The statement. -/
theorem queryLessProved : Rows.QueryLessSaid := queryLessLaw.over

end Go.Proofs.Ytjgnknkbohlopaa
