/- What the evaluator comes to, function by function: by the kernel. Nothing here is trusted. -/
import Derived.Test.YtjgnknkbohlopaaQA
namespace Go.Proofs.Ytjgnknkbohlopaa
namespace X
open Go.Ev
set_option linter.unusedVariables false
/- roadbook/query.isColumn -/
def t58_h : Hints := fun _ =>  none
theorem t58 (N : Nat) (x0 : D) (x1 : D) (x2 : Int) : evFn Try.prog (envR Q2 [] [] []) t58_h N Try.f58 [dat 24 x0, dat 28 x1, dat 3 (.lit (.int .i64 x2))] =
  bif ((belowB x2 16) == true) then
    bif ((decide ((splitA x2) < ((elemsD (fieldD x1 0)).length : Int))) == true) then
      bif (decide (0 ≤ (splitA x2)) && decide ((splitA x2) < ((elemsD (fieldD x1 0)).length : Int))) then
        bif (decide (0 ≤ (intD ((elemsD (fieldD x1 0)).getD (splitA x2).toNat .nil))) && decide ((intD ((elemsD (fieldD x1 0)).getD (splitA x2).toNat .nil)) < ((elemsD (fieldD x0 0)).length : Int))) then
          some (dat 4 (.lit (.bool (decide ((splitB x2) < (intD (fieldD ((elemsD (fieldD x0 0)).getD (intD ((elemsD (fieldD x1 0)).getD (splitA x2).toNat .nil)).toNat .nil) 0)))))))
        else none
      else none
    else some (dat 4 (.lit (.bool false)))
  else some (dat 4 (.lit (.bool false))) := by kernel_rfl

/- roadbook/query.ofColumn -/
def t36_h : Hints := fun _ =>  none
theorem t36 (N : Nat) (x0 : Int) : evFn Try.prog (envR Q2 [] [] []) t36_h N Try.f36 [dat 3 (.lit (.int .i64 x0))] =
  bif decide (0 ≤ (splitA x0)) then
    some (dat 63 (.lit (.int .i64 (aloneI (splitA x0)))))
  else none := by kernel_rfl

end X
end Go.Proofs.Ytjgnknkbohlopaa

namespace Go.Proofs.Ytjgnknkbohlopaa
namespace X
open Go.Ev
set_option linter.unusedVariables false
set_option maxRecDepth 10000
set_option linter.unusedSimpArgs false

theorem occ_below {c q : D} (h : occMayB c q = true) {i : Nat} (hi : i < (qOcc q).length) : 0 ≤ intD ((qOcc q).getD i .nil) ∧ intD ((qOcc q).getD i .nil) < ((tabs c).length : Int) := by
  unfold occMayB at h
  rw [Bool.and_eq_true, List.all_eq_true] at h
  have := h.2 _ (List.getElem_mem hi)
  rw [l_get hi]
  exact below_iff.1 this
def e58 : FuncId × TypeId × (List AV → Bool) × (List AV → Option D) := (58, 4, preD (q3 fun x y _ => occMayB x y), ent [24, 28, 3] (f3 fun x y z => some (.lit (.bool (isColB x y (intD z))))))
theorem k58 : FnOK Try.prog 58 Try.f58 := ⟨Try.func58, rfl, by kernel_rfl⟩
theorem c58 : ∀ args d, e58.2.2.1 args = true → e58.2.2.2 args = some d → CallOK Try.prog 58 args (mkRes Try.prog 4 d) :=
  ent3p k58 fun x y z d hq h _ _ _ => by
    cases h
    rw [nCat, nQry, n3]
    refine fn_ok hm envQ2 k58 ((t58 1 x y (intD z)).trans ?_)
    rw [m4]
    show _ = some (dat 4 (.lit (.bool (isColB x y (intD z)))))
    generalize intD z = v
    unfold isColB
    obtain ⟨h0, _⟩ := split_nonneg v
    cases h1 : belowB v 16 with
    | false => rfl
    | true =>
      by_cases h2 : splitA v < ((qOcc y).length : Int)
      · have h2' : splitA v < ((elemsD (fieldD y 0)).length : Int) := h2
        have hb := occ_below hq (i := (splitA v).toNat) (by omega)
        have b1 : 0 ≤ intD ((elemsD (fieldD y 0)).getD (splitA v).toNat .nil) := hb.1
        have b2 : intD ((elemsD (fieldD y 0)).getD (splitA v).toNat .nil) < ((elemsD (fieldD x 0)).length : Int) := hb.2
        rw [dT h2, dT h2', dT h0, dT b1, dT b2]
        rfl
      · have h2' : ¬ splitA v < ((elemsD (fieldD y 0)).length : Int) := h2
        rw [dF h2, dF h2']
        rfl
def e36 : FuncId × TypeId × (List AV → Bool) × (List AV → Option D) := (36, 63, yes, ent [3] (f1 fun x => some (.lit (.int .i64 (ofColI (intD x))))))
theorem k36 : FnOK Try.prog 36 Try.f36 := ⟨Try.func36, rfl, by kernel_rfl⟩
theorem c36 : ∀ args d, e36.2.2.2 args = some d → CallOK Try.prog 36 args (mkRes Try.prog 63 d) :=
  ent1 k36 fun x d h _ => by
    cases h
    rw [n3]
    refine fn_ok hm envQ2 k36 ((t36 1 (intD x)).trans ?_)
    rw [mOcs, dT (split_nonneg (intD x)).1]
    rfl
def Q3 : Tab := e36 :: e58 :: Q2
theorem envQ3 : EnvOK Try.prog (envH Q3 []) := envOK_cons (envOK_cons' envQ2 c58) c36

end X
end Go.Proofs.Ytjgnknkbohlopaa

namespace Go.Proofs.Ytjgnknkbohlopaa
namespace X
open Go.Ev
set_option linter.unusedVariables false
/- roadbook/query.areColumns -/
def t48_h : Hints := fun i => if i = 2 then some ([0, 1, 2, 5, 6, 7, 8, 12, 13, 14, 15, 16, 17, 18, 19, 20], [3, 4], []) else none
def t48_lp2 (P : Program) (fn : Func) (N n : Nat) (x0 : D) (x1 : D) (x2 : D) (v11 : Int) : Option AV := evLoop (preL t48_h (sub [1, 0, 1, 0, 0] (bodyOf fn))) (evCode P (envR Q3 [] [] []) t48_h N (sub [1, 0, 1, 0, 0] (bodyOf fn))) n ⟨[dead, dead, dead, bxp 3 24, bxp 4 28, dead, dead, dead, dead, dat 25 x2, dat 3 (.lit (.int .i64 ((elemsD x2).length : Int))), dat 3 (.lit (.int .i64 v11)), dead, dead, dead, dead, dead, dead, dead, dead, dead], lookB [(3, some ⟨24, x0, 0, none⟩), (4, some ⟨28, x1, 0, none⟩)]⟩ (blockK 0 (seqC P (envR Q3 [] [] []) t48_h N (sub [1, 1] (bodyOf fn)) (finK P fn) ))
theorem t48_lp2_step (N n : Nat) (x0 : D) (x1 : D) (x2 : D) (v11 : Int) : t48_lp2 Try.prog Try.f48 N (n + 1) x0 x1 x2 v11 =
  bif decide (v11 < ((elemsD x2).length : Int)) then
    bif (decide (0 ≤ v11) && decide (v11 < ((elemsD x2).length : Int))) then
      bif occMayB x0 x1 then
        bif (!(isColB x0 x1 (intD ((elemsD x2).getD (v11).toNat .nil)))) then
          some (dat 4 (.lit (.bool false)))
        else t48_lp2 Try.prog Try.f48 N n x0 x1 x2 (IntKind.wrap .i64 (v11 + 1))
      else none
    else none
  else some (dat 4 (.lit (.bool true))) := by kernel_rfl
theorem t48 (N : Nat) (x0 : D) (x1 : D) (x2 : D) : evFn Try.prog (envR Q3 [] [] []) t48_h N Try.f48 [dat 24 x0, dat 28 x1, dat 25 x2] =
  t48_lp2 Try.prog Try.f48 N N x0 x1 x2 0 := by kernel_rfl

/- roadbook/query.Of -/
def t15_h : Hints := fun i => if i = 3 then some ([0, 1, 2, 4, 5, 6, 10, 11, 12, 13, 14, 15, 16, 17, 18], [], []) else none
def t15_lp3 (P : Program) (fn : Func) (N n : Nat) (x0 : D) (v3 : Int) (v9 : Int) : Option AV := evLoop (preL t15_h (sub [1, 1, 0, 1, 0, 0] (bodyOf fn))) (evCode P (envR Q3 [] [] []) t15_h N (sub [1, 1, 0, 1, 0, 0] (bodyOf fn))) n ⟨[dead, dead, dead, dat 63 (.lit (.int .i64 v3)), dead, dead, dead, dat 25 (.slice (colsE x0) []), dat 3 (.lit (.int .i64 ((colsE x0).length : Int))), dat 3 (.lit (.int .i64 v9)), dead, dead, dead, dead, dead, dead, dead, dead, dead], lookB []⟩ (blockK 0 (seqC P (envR Q3 [] [] []) t15_h N (sub [1, 1, 1] (bodyOf fn)) (finK P fn) ))
theorem t15_lp3_step (N n : Nat) (x0 : D) (v3 : Int) (v9 : Int) : t15_lp3 Try.prog Try.f15 N (n + 1) x0 v3 v9 =
  bif decide (v9 < ((colsE x0).length : Int)) then
    bif (decide (0 ≤ v9) && decide (v9 < ((colsE x0).length : Int))) then
      t15_lp3 Try.prog Try.f15 N n x0 (orI .i64 v3 (ofColI (intD ((colsE x0).getD (v9).toNat .nil)))) (IntKind.wrap .i64 (v9 + 1))
    else none
  else some (dat 3 (.lit (.int .i64 v3))) := by kernel_rfl
theorem t15 (N : Nat) (x0 : D) : evFn Try.prog (envR Q3 [] [] []) t15_h N Try.f15 [dat 40 x0] =
  t15_lp3 Try.prog Try.f15 N N x0 0 0 := by kernel_rfl

end X
end Go.Proofs.Ytjgnknkbohlopaa

namespace Go.Proofs.Ytjgnknkbohlopaa
namespace X
open Go.Ev
set_option linter.unusedVariables false
set_option maxRecDepth 10000
set_option linter.unusedSimpArgs false

def e48 : FuncId × TypeId × (List AV → Bool) × (List AV → Option D) := (48, 4, preD (q3 fun x y _ => occMayB x y), ent [24, 28, 25] (f3 fun x y z => some (.lit (.bool (areColB x y (elemsD z))))))
theorem k48 : FnOK Try.prog 48 Try.f48 := ⟨Try.func48, rfl, by kernel_rfl⟩
theorem c48 : ∀ args d, e48.2.2.1 args = true → e48.2.2.2 args = some d → CallOK Try.prog 48 args (mkRes Try.prog 4 d) :=
  ent3p k48 fun x y z d hq h _ _ ⟨_, hz⟩ => by
    cases h
    rw [nCat, nQry, n27]
    have hl := len27 hz
    have hq : occMayB x y = true := hq
    refine fn_ok hm envQ3 k48 ((t48 ((elemsD z).length + 1) x y z).trans ?_)
    rw [m4]
    have := l_loop (fun n v => t48_lp2 Try.prog Try.f48 ((elemsD z).length + 1) n x y z v) (elemsD z).length (fun i => !isColB x y (intD ((elemsD z).getD i .nil))) (some (dat 4 (.lit (.bool false)))) (some (dat 4 (.lit (.bool true))))
      (fun n i hi => by rw [t48_lp2_step, l_idx hi, l_lt hi, hq, cond_true, cond_true, cond_true, Int.toNat_natCast, l_wrap hl hi])
      (fun n => by rw [t48_lp2_step, l_ge (by omega), cond_false]) ((elemsD z).length + 1) 0 (Nat.zero_le _) (by omega)
    refine this.trans ?_
    rw [Nat.sub_zero, l_any0 (elemsD z) (fun o => !isColB x y (intD o)), any_not]
    show _ = some (dat 4 (.lit (.bool (areColB x y (elemsD z)))))
    unfold areColB
    cases (elemsD z).all fun x_1 => isColB x y (intD x_1) <;> rfl
theorem cols_len (e : D) : (colsE e).length ≤ 16 := cols_few e
theorem of_loop {N : Nat} {e : D} : ∀ (n i : Nat) (s : Int), i ≤ (colsE e).length → (colsE e).length - i < n → t15_lp3 Try.prog Try.f15 N n e s (i : Int) = some (dat 3 (.lit (.int .i64 (ofFrom s ((colsE e).drop i)))))
  | 0, i, s, _, h => by omega
  | n + 1, i, s, hi, h => by
    rw [t15_lp3_step]
    by_cases hlt : i < (colsE e).length
    · rw [l_idx hlt, l_lt hlt, cond_true, cond_true, Int.toNat_natCast, l_get hlt, l_wrap (Nat.le_trans (cols_len e) (by unfold maxLen; omega)) hlt, of_loop n (i + 1) _ (by omega) (by omega), List.drop_eq_getElem_cons hlt]
      rfl
    · rw [l_ge hlt, cond_false, List.drop_of_length_le (by omega)]
      rfl
def e15 : FuncId × TypeId × (List AV → Bool) × (List AV → Option D) := (15, 3, yes, ent [40] (f1 fun x => some (.lit (.int .i64 (ofE x)))))
theorem k15 : FnOK Try.prog 15 Try.f15 := ⟨Try.func15, rfl, by kernel_rfl⟩
theorem c15 : ∀ args d, e15.2.2.2 args = some d → CallOK Try.prog 15 args (mkRes Try.prog 3 d) :=
  ent1 k15 fun x d h _ => by
    cases h
    rw [n26]
    refine fn_ok hm envQ3 k15 ((t15 ((colsE x).length + 1) x).trans ?_)
    rw [m3]
    exact of_loop _ 0 0 (Nat.zero_le _) (by omega)
def Q4 : Tab := e15 :: e48 :: Q3
theorem envQ4 : EnvOK Try.prog (envH Q4 []) := envOK_cons (envOK_cons' envQ3 c48) c15

end X
end Go.Proofs.Ytjgnknkbohlopaa
