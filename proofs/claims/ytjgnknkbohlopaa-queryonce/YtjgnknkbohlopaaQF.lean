/- QueryOnce: what must be so of two sets together is what must be of each, and what must be newly; so of three, whichever two are put together first. Proved for every world, every order, every argument that the statement takes. -/
import Derived.Test.YtjgnknkbohlopaaQE
import Derived.WalkKit
import Derived.ProofKit
import Derived.OpenShut
import Derived.ShutString
import Derived.ChangeOld
import Derived.Below
namespace Go.Proofs.Ytjgnknkbohlopaa
namespace X
open Go.Ev
set_option linter.unusedVariables false
/- roadbook/roadbooklaw05.QueryOnce -/
def t3_h : Hints := fun _ =>  none
theorem t3 (N : Nat) (x0 : D) (x1 : D) (x2 : Int) (x3 : Int) (x4 : Int) : evFn Try.prog (envR Q9 [] [] []) t3_h N Try.f3 [dat 24 x0, dat 28 x1, dat 3 (.lit (.int .i64 x2)), dat 3 (.lit (.int .i64 x3)), dat 3 (.lit (.int .i64 x4))] =
  bif ((!(fewQ fewB x0 x1)) == false) then
    bif ((!(mayQ x0 x1)) == false) then
      bif ((decide (x2 < 0)) == false) then
        bif ((decide (x3 < 0)) == false) then
          bif ((decide (x4 < 0)) == false) then
            bif ((decide (x2 > 15)) == false) then
              bif ((decide (x3 > 15)) == false) then
                bif ((decide (x4 > 15)) == false) then
                  bif (((andI .i64 x2 x3) != 0) == false) then
                    bif (((andI .i64 x2 x4) != 0) == false) then
                      bif ((andI .i64 x3 x4) != 0) then
                        some (dat 4 (.lit (.bool true)))
                      else bif decide ((qP x1).length ≤ 2147483647) then
                          bif decide ((qP x1).length ≤ 2147483647) then
                            bif decide ((qP x1).length ≤ 2147483647) then
                              bif decide ((qP x1).length ≤ 2147483647) then
                                bif decide ((qP x1).length ≤ 2147483647) then
                                  bif decide ((qP x1).length ≤ 2147483647) then
                                    bif decide ((qP x1).length ≤ 2147483647) then
                                      bif decide ((qP x1).length ≤ 2147483647) then
                                        bif (((IntKind.wrap .i64 ((IntKind.wrap .i64 (((ownL x1 x2).length : Int) + ((ownL x1 x3).length : Int))) + ((newL x1 x2 x3).length : Int))) == ((ownL x1 (orI .i64 x2 x3)).length : Int)) == true) then
                                          bif (((IntKind.wrap .i64 (((newL x1 x2 x3).length : Int) + ((newL x1 (orI .i64 x2 x3) x4).length : Int))) == (IntKind.wrap .i64 (((newL x1 x3 x4).length : Int) + ((newL x1 x2 (orI .i64 x3 x4)).length : Int)))) == true) then
                                            bif decide ((qP x1).length ≤ 2147483647) then
                                              bif decide ((qP x1).length ≤ 2147483647) then
                                                some (dat 4 (.lit (.bool (intsB (newL x1 x2 x3) (newL x1 x3 x2)))))
                                              else none
                                            else none
                                          else some (dat 4 (.lit (.bool false)))
                                        else some (dat 4 (.lit (.bool false)))
                                      else none
                                    else none
                                  else none
                                else none
                              else none
                            else none
                          else none
                        else none
                    else some (dat 4 (.lit (.bool true)))
                  else some (dat 4 (.lit (.bool true)))
                else some (dat 4 (.lit (.bool true)))
              else some (dat 4 (.lit (.bool true)))
            else some (dat 4 (.lit (.bool true)))
          else some (dat 4 (.lit (.bool true)))
        else some (dat 4 (.lit (.bool true)))
      else some (dat 4 (.lit (.bool true)))
    else some (dat 4 (.lit (.bool true)))
  else some (dat 4 (.lit (.bool true))) := by kernel_rfl

end X
end Go.Proofs.Ytjgnknkbohlopaa

namespace Go.Proofs.Ytjgnknkbohlopaa
namespace X
open Go.Ev
set_option linter.unusedVariables false
set_option maxRecDepth 10000
set_option linter.unusedSimpArgs false

theorem once_many {c q : D} {a b : Int} (h : exprMayB c q = true) (hd : andI .i64 a b = 0) : (ownL q a).length + (ownL q b).length + (newL q a b).length = (ownL q (orI .i64 a b)).length := by
  unfold ownL newL
  rw [plc_len, plc_len, plc_len, plc_len]
  exact count3 _ fun e he => own_new hd (of_ex (expr_ne h he).1)
theorem once_left {c q : D} {a b d : Int} (h : exprMayB c q = true) (h1 : andI .i64 a b = 0) (h2 : andI .i64 a d = 0) (h3 : andI .i64 b d = 0) :
    (newL q a b).length + (newL q (orI .i64 a b) d).length = (newL q b d).length + (newL q a (orI .i64 b d)).length := by
  unfold newL
  rw [plc_len, plc_len, plc_len, plc_len]
  exact count4 _ fun e he => new_new h1 h2 h3 (of_ex (expr_ne h he).1)
theorem once_comm (q : D) (a b : Int) : newL q a b = newL q b a := plc_congr _ _ fun e _ => new_comm a b (ofE e)
theorem own_len (q : D) (a : Int) : (ownL q a).length ≤ (qP q).length := by
  unfold ownL
  rw [plc_len]
  exact List.countP_le_length
theorem k3 : FnOK Try.prog 3 Try.f3 := ⟨Try.func3, rfl, by kernel_rfl⟩
theorem lawOnce {n0 n1 n2 n3 n4 : Nat} {c q x2 x3 x4 : D} (h0 : Ty Try.prog n0 24 c) (h1 : Ty Try.prog n1 28 q) (h2 : Ty Try.prog n2 3 x2) (h3 : Ty Try.prog n3 3 x3) (h4 : Ty Try.prog n4 3 x4) :
    CallOK Try.prog 3 [dat 24 c, dat 28 q, dat 3 x2, dat 3 x3, dat 3 x4] (dat 4 (.lit (.bool true))) := by
  obtain ⟨a, rfl, _⟩ := ty3' h2
  obtain ⟨b, rfl, _⟩ := ty3' h3
  obtain ⟨d, rfl, _⟩ := ty3' h4
  refine law_ok envQ9 k3 ((t3 1 c q a b d).trans ?_)
  cases hf : fewQ fewB c q with
  | false => rfl
  | true =>
    cases hmq : mayQ c q with
    | false => rfl
    | true =>
      by_cases a0 : a < 0
      · rw [dT a0]; rfl
      rw [dF a0]
      by_cases b0 : b < 0
      · rw [dT b0]; rfl
      rw [dF b0]
      by_cases d0 : d < 0
      · rw [dT d0]; rfl
      rw [dF d0]
      by_cases a1 : a > 15
      · rw [dT a1]; rfl
      rw [dF a1]
      by_cases b1 : b > 15
      · rw [dT b1]; rfl
      rw [dF b1]
      by_cases d1 : d > 15
      · rw [dT d1]; rfl
      rw [dF d1]
      by_cases e1 : andI .i64 a b = 0
      rotate_left
      · rw [show (andI .i64 a b != 0) = true from bne_iff_ne.2 e1]; rfl
      by_cases e2 : andI .i64 a d = 0
      rotate_left
      · rw [show (andI .i64 a b != 0) = false by rw [e1]; rfl, show (andI .i64 a d != 0) = true from bne_iff_ne.2 e2]; rfl
      by_cases e3 : andI .i64 b d = 0
      rotate_left
      · rw [show (andI .i64 a b != 0) = false by rw [e1]; rfl, show (andI .i64 a d != 0) = false by rw [e2]; rfl, show (andI .i64 b d != 0) = true from bne_iff_ne.2 e3]; rfl
      obtain ⟨_, _, he, _⟩ := may_cat hmq
      have hP := (few_len hf).1
      have l1 := own_len q a
      have l2 := own_len q b
      have l3 := new_len q a b
      have l4 := new_len q (orI .i64 a b) d
      have l5 := new_len q b d
      have l6 := new_len q a (orI .i64 b d)
      have s1 := once_many he e1
      have s2 := once_left he e1 e2 e3
      have E1 : (IntKind.wrap .i64 (IntKind.wrap .i64 (((ownL q a).length : Int) + ((ownL q b).length : Int)) + ((newL q a b).length : Int)) == ((ownL q (orI .i64 a b)).length : Int)) = true := by
        rw [l_wrapI (z := ((ownL q a).length : Int) + ((ownL q b).length : Int)) (l_in (by omega) (by omega)), l_wrapI (l_in (by omega) (by omega)), beq_iff_eq]
        omega
      have E2 : (IntKind.wrap .i64 (((newL q a b).length : Int) + ((newL q (orI .i64 a b) d).length : Int)) == IntKind.wrap .i64 (((newL q b d).length : Int) + ((newL q a (orI .i64 b d)).length : Int))) = true := by
        rw [l_wrapI (l_in (by omega) (by omega)), l_wrapI (l_in (by omega) (by omega)), beq_iff_eq]
        omega
      have E3 : intsB (newL q a b) (newL q b a) = true := by rw [once_comm q b a]; exact intsB_refl _
      rw [show (andI .i64 a b != 0) = false by rw [e1]; rfl, show (andI .i64 a d != 0) = false by rw [e2]; rfl, show (andI .i64 b d != 0) = false by rw [e3]; rfl, dT (show (qP q).length ≤ 2147483647 by omega), E1, E2, E3]
      rfl

end X
end Go.Proofs.Ytjgnknkbohlopaa

namespace Go.Proofs.Ytjgnknkbohlopaa
open Go.Ev
open Go.ChangeShapes Go.WideShapes Go.ChangeAt Go.RowKit
set_option linter.unusedVariables false

namespace queryOnceLaw

theorem own : ownKnob Try.prog.godebug = none := by kernel_rfl
theorem laidOut : laidOutB Try.prog = true := by kernel_rfl
theorem types : okTypes Try.prog [3, 25, 26, 40, 38, 22, 66, 24, 28] = true := by kernel_rfl

set_option maxRecDepth 100000 in
theorem lifted (os : Os) (started : os.Started) (H : Type) (enc : TypeId × Value → H) :
    ReturnsInHanded {} Try.checked os 3 .any (Rows.queryOnceSpec.pre6 enc Try.prog Try.f3 Rows.queryOnceRow.domain false) (Rows.queryOnceSpec.post enc Try.prog Try.f3 false true false false) := by
  refine returnsInHanded_of_change (C := Try.checked) own started (by kernel_rfl) Try.func3
    (ChangeSpec.witness6 (enc := enc) (C := Try.checked) false ⟨#[], #[.agg #[.slice none 0 0], .agg #[.slice none 0 0, .slice none 0 0, .int .i64 0, .slice none 0 0, .slice none 0 0, .int .i64 0], .int .i64 0, .int .i64 0, .int .i64 0], []⟩ 8 (by kernel_rfl) (by kernel_rfl) (by kernel_rfl) (by kernel_rfl)) ?_
  intro W base args ds gs before hval0 hW hcnd _
  have hval : ∀ (j : Nat) t v, Try.f3.params[j]? = some t → args[j]? = some v → Value.okWide Try.prog W .any base t v := hval0
  have hW' := hW
  obtain ⟨p, q, hA0, hV, rfl, hfz, hnd⟩ := hW
  have hA : DataW.TrodAll enc Try.prog W 0 (fun _ => true) true Try.f3.params.toList args.toList ds p := hA0
  rw [Try.params3] at hA hval
  obtain ⟨v0, vs0, d0, ds0, p0, q0, hargs, rfl, rfl, h0, r0⟩ := trodAll_cons hA
  obtain ⟨v1, vs1, d1, ds1, p1, q1, rfl, rfl, rfl, h1, r1⟩ := trodAll_cons r0
  obtain ⟨v2, vs2, d2, ds2, p2, q2, rfl, rfl, rfl, h2, r2⟩ := trodAll_cons r1
  obtain ⟨v3, vs3, d3, ds3, p3, q3, rfl, rfl, rfl, h3, r3⟩ := trodAll_cons r2
  obtain ⟨v4, vs4, d4, ds4, p4, q4, rfl, rfl, rfl, h4, r4⟩ := trodAll_cons r3
  obtain ⟨rfl, rfl, rfl⟩ := trodAll_nil r4
  obtain rfl : args = #[v0, v1, v2, v3, v4] := by cases args; simp_all
  obtain ⟨rfl, rfl⟩ := trodVars_none hV
  have lt0 : ∀ x ∈ p0, x.block < W.heap.size := by obtain ⟨m, hm⟩ := h0; exact DataW.trod_lt m _ _ _ hm
  obtain ⟨n0, x0, ty0, rep0⟩ := arg_rep types (by decide) (hval 0 24 v0 rfl rfl) h0
  have lt1 : ∀ x ∈ p1, x.block < W.heap.size := by obtain ⟨m, hm⟩ := h1; exact DataW.trod_lt m _ _ _ hm
  obtain ⟨n1, x1, ty1, rep1⟩ := arg_rep types (by decide) (hval 1 28 v1 rfl rfl) h1
  have lt2 : ∀ x ∈ p2, x.block < W.heap.size := by obtain ⟨m, hm⟩ := h2; exact DataW.trod_lt m _ _ _ hm
  obtain ⟨n2, x2, ty2, rep2⟩ := arg_rep types (by decide) (hval 2 3 v2 rfl rfl) h2
  have lt3 : ∀ x ∈ p3, x.block < W.heap.size := by obtain ⟨m, hm⟩ := h3; exact DataW.trod_lt m _ _ _ hm
  obtain ⟨n3, x3, ty3, rep3⟩ := arg_rep types (by decide) (hval 3 3 v3 rfl rfl) h3
  have lt4 : ∀ x ∈ p4, x.block < W.heap.size := by obtain ⟨m, hm⟩ := h4; exact DataW.trod_lt m _ _ _ hm
  obtain ⟨n4, x4, ty4, rep4⟩ := arg_rep types (by decide) (hval 4 3 v4 rfl rfl) h4
  clear hA0 hval0
  refine (calls_true Try.underlying4 (tabOn_none (by kernel_rfl) _ _) (X.lawOnce ty0 ty1 ty2 ty3 ty4) (w := W) (vs := [v0, v1, v2, v3, v4]) ⟨⟨rfl, rep0⟩, ⟨rfl, rep1⟩, ⟨rfl, rep2⟩, ⟨rfl, rep3⟩, ⟨rfl, rep4⟩, trivial⟩).mono fun e W' ⟨he, bel⟩ => ?_
  subst he
  exact ⟨_, rfl, _, _, _, [], _, [], hW', trodAll_mk1 (shut_bool Try.underlying4 _), (trodAll_cons_mk (Below.trod laidOut (by kernel_rfl) (of_decide_eq_true (by kernel_rfl)) h0 bel lt0) (trodAll_cons_mk (Below.trod laidOut (by kernel_rfl) (of_decide_eq_true (by kernel_rfl)) h1 bel lt1) (trodAll_cons_mk (Below.trod laidOut (by kernel_rfl) (of_decide_eq_true (by kernel_rfl)) h2 bel lt2) (trodAll_cons_mk (Below.trod laidOut (by kernel_rfl) (of_decide_eq_true (by kernel_rfl)) h3 bel lt3) (trodAll_cons_mk (Below.trod laidOut (by kernel_rfl) (of_decide_eq_true (by kernel_rfl)) h4 bel lt4) trodAll_mk0))))), rfl, bel.frame _, fun h => by cases h⟩

theorem over : Rows.queryOnceRow.holds Try.pinned (OpenSpec.ofChange Rows.queryOnceSpec) :=
  OpenClaim.holds_of_wide 3 Try.f3 rfl rfl rfl rfl rfl rfl rfl ⟨rfl, rfl, rfl, rfl, rfl⟩ rfl rfl rfl rfl rfl (by kernel_rfl) Try.func3 (by kernel_rfl)
    (of_decide_eq_true (by kernel_rfl)) (by unfold Func.isWrapper; first | (rw [if_pos (by decide +kernel)]; kernel_rfl) | (rw [if_neg (by decide +kernel)]; exact ⟨rfl, rfl⟩))
    (fun os started H enc _ => lifted os started H enc)

end queryOnceLaw

/-- The statement. -/
theorem queryOnceProved : Rows.QueryOnceSaid := queryOnceLaw.over

end Go.Proofs.Ytjgnknkbohlopaa
