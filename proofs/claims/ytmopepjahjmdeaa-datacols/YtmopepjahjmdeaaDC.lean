/- DataCols: a column is whose it was put together of; there are sixteen, each one of one occurrence. Proved for every world, every order, every argument that the statement takes. -/
import Derived.Test.YtmopepjahjmdeaaDB
import Derived.WalkKit
import Derived.ProofKit
import Derived.OpenShut
import Derived.ShutString
import Derived.ChangeOld
import Derived.Below
namespace Go.Proofs.Ytmopepjahjmdeaa
open Go.Ev
set_option linter.unusedVariables false
/- roadbook/roadbooklaw04.DataCols -/
def t6_h : Hints := fun _ =>  none
theorem t6 (N : Nat) (x0 : Int) (x1 : Int) (x2 : Int) : evFn Try.prog (envR D6 [] [] []) t6_h N Try.f6 [dat 3 (.lit (.int .i64 x0)), dat 3 (.lit (.int .i64 x1)), dat 3 (.lit (.int .i64 x2))] =
  bif ((decide ((colN x0 x1) ≥ 0)) == true) then
    bif ((!(belowB (colN x0 x1) 16)) == false) then
      bif (((splitA (colN x0 x1)) != x0) == false) then
        bif (((splitB (colN x0 x1)) != x1) == false) then
          bif ((decide ((colN x0 x1) < 0)) == true) then
            bif (((colN x0 x1) != (-1)) == false) then
              bif belowB (colN x0 x1) 16 then
                some (dat 4 (.lit (.bool false)))
              else bif ((decide (x2 ≥ 0)) == true) then
                  bif (!((belowB x2 16) == (decide (x2 ≤ 15)))) then
                    some (dat 4 (.lit (.bool false)))
                  else bif ((!(belowB x2 16)) == false) then
                      some (dat 4 (.lit (.bool ((colN (splitA x2) (splitB x2)) == x2))))
                    else some (dat 4 (.lit (.bool true)))
                else bif (!((belowB x2 16) == false)) then
                    some (dat 4 (.lit (.bool false)))
                  else bif ((!(belowB x2 16)) == false) then
                      some (dat 4 (.lit (.bool ((colN (splitA x2) (splitB x2)) == x2))))
                    else some (dat 4 (.lit (.bool true)))
            else some (dat 4 (.lit (.bool false)))
          else bif ((decide (x2 ≥ 0)) == true) then
              bif (!((belowB x2 16) == (decide (x2 ≤ 15)))) then
                some (dat 4 (.lit (.bool false)))
              else bif ((!(belowB x2 16)) == false) then
                  some (dat 4 (.lit (.bool ((colN (splitA x2) (splitB x2)) == x2))))
                else some (dat 4 (.lit (.bool true)))
            else bif (!((belowB x2 16) == false)) then
                some (dat 4 (.lit (.bool false)))
              else bif ((!(belowB x2 16)) == false) then
                  some (dat 4 (.lit (.bool ((colN (splitA x2) (splitB x2)) == x2))))
                else some (dat 4 (.lit (.bool true)))
        else some (dat 4 (.lit (.bool false)))
      else some (dat 4 (.lit (.bool false)))
    else some (dat 4 (.lit (.bool false)))
  else bif ((decide ((colN x0 x1) < 0)) == true) then
      bif (((colN x0 x1) != (-1)) == false) then
        bif belowB (colN x0 x1) 16 then
          some (dat 4 (.lit (.bool false)))
        else bif ((decide (x2 ≥ 0)) == true) then
            bif (!((belowB x2 16) == (decide (x2 ≤ 15)))) then
              some (dat 4 (.lit (.bool false)))
            else bif ((!(belowB x2 16)) == false) then
                some (dat 4 (.lit (.bool ((colN (splitA x2) (splitB x2)) == x2))))
              else some (dat 4 (.lit (.bool true)))
          else bif (!((belowB x2 16) == false)) then
              some (dat 4 (.lit (.bool false)))
            else bif ((!(belowB x2 16)) == false) then
                some (dat 4 (.lit (.bool ((colN (splitA x2) (splitB x2)) == x2))))
              else some (dat 4 (.lit (.bool true)))
      else some (dat 4 (.lit (.bool false)))
    else bif ((decide (x2 ≥ 0)) == true) then
        bif (!((belowB x2 16) == (decide (x2 ≤ 15)))) then
          some (dat 4 (.lit (.bool false)))
        else bif ((!(belowB x2 16)) == false) then
            some (dat 4 (.lit (.bool ((colN (splitA x2) (splitB x2)) == x2))))
          else some (dat 4 (.lit (.bool true)))
      else bif (!((belowB x2 16) == false)) then
          some (dat 4 (.lit (.bool false)))
        else bif ((!(belowB x2 16)) == false) then
            some (dat 4 (.lit (.bool ((colN (splitA x2) (splitB x2)) == x2))))
          else some (dat 4 (.lit (.bool true))) := by kernel_rfl

end Go.Proofs.Ytmopepjahjmdeaa

namespace Go.Proofs.Ytmopepjahjmdeaa
open Go.Ev
set_option linter.unusedVariables false
set_option maxRecDepth 10000

/-- A column is whose it was put together of; or there is none. -/
theorem col_split (a b : Int) : (0 ≤ colN a b ∧ belowB (colN a b) 16 = true ∧ splitA (colN a b) = a ∧ splitB (colN a b) = b) ∨ (colN a b = -1 ∧ belowB (colN a b) 16 = false) := by
  by_cases h : (0 ≤ a ∧ a < 4) ∧ (0 ≤ b ∧ b < 4)
  · left
    rw [colN_in h.1 h.2]
    have h2 : 0 ≤ a * 4 + b ∧ a * 4 + b < 16 := by omega
    obtain ⟨e1, e2⟩ := split_in h2
    rw [e1, e2]
    exact ⟨h2.1, below_iff.2 h2, by omega, by omega⟩
  · right
    rw [colN_out h]
    exact ⟨rfl, rfl⟩
theorem split_col {z : Int} (h : belowB z 16 = true) : colN (splitA z) (splitB z) = z := by
  have h2 := below_iff.1 h
  obtain ⟨e1, e2⟩ := split_in h2
  rw [e1, e2, colN_in (by omega) (by omega)]
  omega

theorem k6 : FnOK Try.prog 6 Try.f6 := ⟨Try.func6, rfl, by kernel_rfl⟩
theorem law6 {n0 n1 n2 : Nat} {x0 x1 x2 : D} (t0 : Ty Try.prog n0 3 x0) (t1 : Ty Try.prog n1 3 x1) (t2 : Ty Try.prog n2 3 x2) : CallOK Try.prog 6 [dat 3 x0, dat 3 x1, dat 3 x2] (dat 4 (.lit (.bool true))) := by
  obtain ⟨a, rfl, _⟩ := ty3' t0
  obtain ⟨b, rfl, _⟩ := ty3' t1
  obtain ⟨c, rfl, _⟩ := ty3' t2
  have e0 : (dat 4 (.lit (.bool true)) : AV) = mkRes Try.prog 4 (.lit (.bool true)) := (m4 (.lit (.bool true))).symm
  rw [e0]
  refine fn_ok hm envD6 k6 ((t6 1 a b c).trans ?_)
  rw [← e0]
  have last : (bif ((decide (c ≥ 0)) == true) then
      bif (!((belowB c 16) == (decide (c ≤ 15)))) then
        some (dat 4 (.lit (.bool false)))
      else bif ((!(belowB c 16)) == false) then
          some (dat 4 (.lit (.bool ((colN (splitA c) (splitB c)) == c))))
        else some (dat 4 (.lit (.bool true)))
    else bif (!((belowB c 16) == false)) then
        some (dat 4 (.lit (.bool false)))
      else bif ((!(belowB c 16)) == false) then
          some (dat 4 (.lit (.bool ((colN (splitA c) (splitB c)) == c))))
        else some (dat 4 (.lit (.bool true)))) = some (dat 4 (.lit (.bool true))) := by
    by_cases h1 : 0 ≤ c
    · by_cases h2 : c ≤ 15
      · have hb : belowB c 16 = true := below_iff.2 (by omega)
        rw [ge_not, dT h1, dT h2, hb, split_col hb, beq_self_eq_true c]
        rfl
      · have hb : belowB c 16 = false := below_not.2 (by omega)
        rw [ge_not, dT h1, dF h2, hb]
        rfl
    · have hb : belowB c 16 = false := below_not.2 (by omega)
      rw [ge_not, dF h1, hb]
      rfl
  rw [last]
  rcases col_split a b with ⟨h1, h2, h3, h4⟩ | ⟨h1, h2⟩
  · have n1 : (splitA (colN a b) != a) = false := by rw [h3]; simp
    have n2 : (splitB (colN a b) != b) = false := by rw [h4]; simp
    rw [ge_not, dT h1, h2, n1, n2, dF (show ¬ colN a b < 0 by omega)]
    rfl
  · rw [h2, h1]
    rfl

end Go.Proofs.Ytmopepjahjmdeaa

namespace Go.Proofs.Ytmopepjahjmdeaa
open Go.Ev
open Go.ChangeShapes Go.WideShapes Go.ChangeAt Go.RowKit
set_option linter.unusedVariables false

namespace dataColsLaw

theorem own : ownKnob Try.prog.godebug = none := by kernel_rfl
theorem laidOut : laidOutB Try.prog = true := by kernel_rfl
theorem types : okTypes Try.prog [3] = true := by kernel_rfl

set_option maxRecDepth 100000 in
theorem lifted (os : Os) (started : os.Started) (H : Type) (enc : TypeId × Value → H) :
    ReturnsInHanded {} Try.checked os 6 .any (Rows.dataColsSpec.pre6 enc Try.prog Try.f6 Rows.dataColsRow.domain false) (Rows.dataColsSpec.post enc Try.prog Try.f6 false true false false) := by
  refine returnsInHanded_of_change (C := Try.checked) own started (by kernel_rfl) Try.func6
    (ChangeSpec.witness6 (enc := enc) (C := Try.checked) false ⟨#[], #[.int .i64 0, .int .i64 0, .int .i64 0], []⟩ 8 (by kernel_rfl) (by kernel_rfl) (by kernel_rfl) (by kernel_rfl)) ?_
  intro W base args ds gs before hval0 hW hcnd _
  have hval : ∀ (j : Nat) t v, Try.f6.params[j]? = some t → args[j]? = some v → Value.okWide Try.prog W .any base t v := hval0
  have hW' := hW
  obtain ⟨p, q, hA0, hV, rfl, hfz, hnd⟩ := hW
  have hA : DataW.TrodAll enc Try.prog W 0 (fun _ => true) true Try.f6.params.toList args.toList ds p := hA0
  rw [Try.params6] at hA hval
  obtain ⟨v0, vs0, d0, ds0, p0, q0, hargs, rfl, rfl, h0, r0⟩ := trodAll_cons hA
  obtain ⟨v1, vs1, d1, ds1, p1, q1, rfl, rfl, rfl, h1, r1⟩ := trodAll_cons r0
  obtain ⟨v2, vs2, d2, ds2, p2, q2, rfl, rfl, rfl, h2, r2⟩ := trodAll_cons r1
  obtain ⟨rfl, rfl, rfl⟩ := trodAll_nil r2
  obtain rfl : args = #[v0, v1, v2] := by cases args; simp_all
  obtain ⟨rfl, rfl⟩ := trodVars_none hV
  have lt0 : ∀ x ∈ p0, x.block < W.heap.size := by obtain ⟨m, hm⟩ := h0; exact DataW.trod_lt m _ _ _ hm
  obtain ⟨n0, x0, ty0, rep0⟩ := arg_rep types (by decide) (hval 0 3 v0 rfl rfl) h0
  have lt1 : ∀ x ∈ p1, x.block < W.heap.size := by obtain ⟨m, hm⟩ := h1; exact DataW.trod_lt m _ _ _ hm
  obtain ⟨n1, x1, ty1, rep1⟩ := arg_rep types (by decide) (hval 1 3 v1 rfl rfl) h1
  have lt2 : ∀ x ∈ p2, x.block < W.heap.size := by obtain ⟨m, hm⟩ := h2; exact DataW.trod_lt m _ _ _ hm
  obtain ⟨n2, x2, ty2, rep2⟩ := arg_rep types (by decide) (hval 2 3 v2 rfl rfl) h2
  clear hA0 hval0
  refine (calls_true Try.underlying4 (law6 ty0 ty1 ty2) (w := W) (vs := [v0, v1, v2]) ⟨⟨rfl, rep0⟩, ⟨rfl, rep1⟩, ⟨rfl, rep2⟩, trivial⟩).mono fun e W' ⟨he, bel⟩ => ?_
  subst he
  exact ⟨_, rfl, _, _, _, [], _, [], hW', trodAll_mk1 (shut_bool Try.underlying4 _), (trodAll_cons_mk (Below.trod laidOut (by kernel_rfl) (of_decide_eq_true (by kernel_rfl)) h0 bel lt0) (trodAll_cons_mk (Below.trod laidOut (by kernel_rfl) (of_decide_eq_true (by kernel_rfl)) h1 bel lt1) (trodAll_cons_mk (Below.trod laidOut (by kernel_rfl) (of_decide_eq_true (by kernel_rfl)) h2 bel lt2) trodAll_mk0))), rfl, bel.frame _, fun h => by cases h⟩

theorem over : Rows.dataColsRow.holds Try.pinned (OpenSpec.ofChange Rows.dataColsSpec) :=
  OpenClaim.holds_of_wide 6 Try.f6 rfl rfl rfl rfl rfl rfl rfl ⟨rfl, rfl, rfl, rfl, rfl⟩ rfl rfl rfl rfl rfl (by kernel_rfl) Try.func6 (by kernel_rfl)
    (of_decide_eq_true (by kernel_rfl)) (by unfold Func.isWrapper; first | (rw [if_pos (by decide +kernel)]; kernel_rfl) | (rw [if_neg (by decide +kernel)]; exact ⟨rfl, rfl⟩))
    (fun os started H enc _ => lifted os started H enc)

end dataColsLaw

/-- The statement. -/
theorem dataColsProved : Rows.DataColsSaid := dataColsLaw.over

end Go.Proofs.Ytmopepjahjmdeaa
