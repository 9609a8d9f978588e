/- What the evaluator comes to, function by function: by the kernel. Nothing here is trusted. -/
import Derived.Test.YtjgnknkbohlopaaQD
import Derived.Test.YtjgnknkbohlopaaV3
namespace Go.Proofs.Ytjgnknkbohlopaa
namespace X
open Go.Ev
set_option linter.unusedVariables false
/- roadbook/roadbooklaw05.awake -/
def t8_h : Hints := fun _ =>  none
theorem t8 (N : Nat)  : evFn Try.prog (envR Q8 [] [] []) t8_h N Try.f8 [] =
  bif decide ((qP oneQ).length ≤ 2147483647) then
    bif (((ofE pairQ) == 3) == true) then
      bif ((mayQ catTwo oneQ) == true) then
        bif ((((pairsL oneQ 1 2).length : Int) == 1) == true) then
          bif (decide (0 ≤ (0 : Int)) && decide ((0 : Int) < ((pairsL oneQ 1 2).length : Int))) then
            bif ((((intD (fieldD ((pairsL oneQ 1 2).getD 0 .nil) 0)) == 0) && (((intD (fieldD ((pairsL oneQ 1 2).getD 0 .nil) 1)) == 5) && true)) == true) then
              bif decide ((qP oneQ).length ≤ 2147483647) then
                bif ((intsB (newL oneQ 1 6) [.lit (.int .i64 0)]) == true) then
                  some (dat 4 (.lit (.bool (mayE smallD))))
                else some (dat 4 (.lit (.bool false)))
              else none
            else some (dat 4 (.lit (.bool false)))
          else none
        else some (dat 4 (.lit (.bool false)))
      else some (dat 4 (.lit (.bool false)))
    else some (dat 4 (.lit (.bool false)))
  else none := by kernel_rfl

end X
end Go.Proofs.Ytjgnknkbohlopaa

namespace Go.Proofs.Ytjgnknkbohlopaa
namespace X
open Go.Ev
set_option linter.unusedVariables false
set_option maxRecDepth 10000
set_option linter.unusedSimpArgs false

theorem pairQ_cols : colsE pairQ = [litI 0, litI 5] := by
  have h1 : mayE pairQ = true := rfl
  have h2 : colsK 7 pairQ = [litI 0, litI 5] := rfl
  unfold colsE
  rw [h1, h2, cond_true]
  have h3 : sortD [litI 0, litI 5] = [litI 0, litI 5] := by
    unfold sortD sortI
    have : [litI 0, litI 5].map intD = [0, 5] := rfl
    rw [this, List.mergeSort_of_pairwise (by simp)]
    rfl
  rw [h3]
  rfl
theorem belQ_cols : colsE belQ = [litI 8] := by
  have h1 : mayE belQ = true := rfl
  have h2 : colsK 7 belQ = [litI 8] := rfl
  unfold colsE
  rw [h1, h2, cond_true]
  have h3 : sortD [litI 8] = [litI 8] := by
    unfold sortD sortI
    simp [litI, intD]
  rw [h3]
  rfl
theorem pairQ_of : ofE pairQ = 3 := by unfold ofE; rw [pairQ_cols]; decide
theorem belQ_of : ofE belQ = 4 := by unfold ofE; rw [belQ_cols]; decide
theorem oneQ_P : qP oneQ = [pairQ, belQ] := rfl
theorem oneQ_may : mayQ catTwo oneQ = true := by
  have h : exprMayB catTwo oneQ = true := by
    unfold exprMayB exprB
    rw [oneQ_P, List.all_cons, List.all_cons, pairQ_cols, belQ_cols]
    decide
  have h2 : mayCat catTwo = true := by decide
  have h3 : occMayB catTwo oneQ = true := by decide
  have h4 : endB catTwo oneQ = true := by decide
  unfold mayQ
  rw [h, h2, h3, h4]
  rfl
theorem oneQ_new (a b : Int) : newL oneQ a b = (bif newB a b 3 then [litI 0] else []) ++ ((bif newB a b 4 then [litI 1] else []) ++ []) := by
  unfold newL
  rw [oneQ_P, plc_cons, plc_cons, pairQ_of, belQ_of]
  rfl
theorem oneQ_new1 : newL oneQ 1 2 = [litI 0] := by
  rw [oneQ_new, show newB 1 2 3 = true by decide, show newB 1 2 4 = false by decide]
  rfl
theorem oneQ_new2 : newL oneQ 1 6 = [litI 0] := by
  rw [oneQ_new, show newB 1 6 3 = true by decide, show newB 1 6 4 = false by decide]
  rfl
theorem pairQ_pair : pairE pairQ = true := rfl
theorem oneQ_pairs : pairsL oneQ 1 2 = [pairD 0 5] := by
  unfold pairsL
  rw [oneQ_new1]
  show pairOf 1 2 pairQ ++ [] = _
  unfold pairOf
  rw [pairQ_pair, show pairA pairQ = 0 from rfl, show pairB pairQ = 5 from rfl, show (hasS 1 (ofColI 0) && hasS 2 (ofColI 5)) = true by decide]
  rfl
def e8 : FuncId × TypeId × (List AV → Bool) × (List AV → Option D) := (8, 4, yes, ent [] (f0 (some (.lit (.bool true)))))
theorem k8 : FnOK Try.prog 8 Try.f8 := ⟨Try.func8, rfl, by kernel_rfl⟩
theorem c8 : ∀ args d, e8.2.2.2 args = some d → CallOK Try.prog 8 args (mkRes Try.prog 4 d) :=
  ent0 fun d h => by
    cases h
    refine fn_ok hm envQ8 k8 ((t8 1).trans ?_)
    rw [m4, pairQ_of, oneQ_may, oneQ_pairs, oneQ_new2, oneQ_P]
    rfl
def Q9 : Tab := e8 :: Q8
theorem envQ9 : EnvOK Try.prog (envH Q9 []) := envOK_cons envQ8 c8
theorem law_ok {f : FuncId} {fn : Func} {args : List AV} {env : Env} {hh : Hints} {N : Nat} (henv : EnvOK Try.prog env) (k : FnOK Try.prog f fn) (h : evFn Try.prog env hh N fn args = some (dat 4 (.lit (.bool true)))) : CallOK Try.prog f args (dat 4 (.lit (.bool true))) := by
  have h2 : evFn Try.prog env hh N fn args = some (mkRes Try.prog 4 (.lit (.bool true))) := by rw [h, m4]; rfl
  have h3 := fn_ok hm henv k h2
  rw [m4] at h3
  exact h3

end X
end Go.Proofs.Ytjgnknkbohlopaa
