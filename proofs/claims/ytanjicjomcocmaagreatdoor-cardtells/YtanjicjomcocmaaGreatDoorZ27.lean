/- Trees of functions, and lemmas. Nothing here is trusted. -/
import Derived.Test.YtanjicjomcocmaaGreatDoorZ26
import Derived.Test.YtanjicjomcocmaaGreatDoorZ22
import Derived.Test.YtanjicjomcocmaaGreatDoorZ23
namespace Go.Proofs.YtanjicjomcocmaaGreatDoor
section
namespace X
open Go.Ev
set_option linter.unusedVariables false
set_option maxRecDepth 10000
set_option linter.unusedSimpArgs false

def e43 : FuncId × TypeId × (List AV -> Bool) × (List AV -> Option D) := (43, 4, preD (q3 fun x y _ => occMayB x y), ent [24, 28, 25] (f3 fun x y z => some (.lit (.bool (areColB x y (elemsD z))))))
theorem k43 : FnOK Tryz.prog 43 Tryz.f43 := ⟨Tryz.func43, rfl, by kernel_rfl⟩
theorem c43 : ∀ args d, e43.2.2.1 args = true -> e43.2.2.2 args = some d -> CallOK Tryz.prog 43 args (mkRes Tryz.prog 4 d) :=
 ent3p k43 fun x y z d hq h _ _ ⟨_, hz⟩ => by
  cases h
  rw [nCat, nQry, n27]
  have hl := len27 hz
  have hq : occMayB x y = true := hq
  refine fn_ok hm envQ3 k43 ((t43 ((elemsD z).length + 1) x y z).trans ?_)
  rw [m4]
  have := l_loop (fun n v => t43_lp2 Tryz.prog Tryz.f43 ((elemsD z).length + 1) n x y z v) (elemsD z).length (fun i => !isColB x y (intD ((elemsD z).getD i .nil))) (some (dat 4 (.lit (.bool false)))) (some (dat 4 (.lit (.bool true))))
   (fun n i hi => by rw [t43_lp2_step, l_idx hi, l_lt hi, hq, cond_true, cond_true, cond_true, Int.toNat_natCast, l_wrap hl hi])
   (fun n => by rw [t43_lp2_step, l_ge (by omega), cond_false]) ((elemsD z).length + 1) 0 (Nat.zero_le _) (by omega)
  refine this.trans ?_
  rw [Nat.sub_zero, l_any0 (elemsD z) (fun o => !isColB x y (intD o)), any_not]
  show _ = some (dat 4 (.lit (.bool (areColB x y (elemsD z)))))
  unfold areColB
  cases (elemsD z).all fun x_1 => isColB x y (intD x_1) <;> rfl
theorem cols_len (e : D) : (colsE e).length <= 16 := cols_few e
theorem of_loop {N : Nat} {e : D} : ∀ (n i : Nat) (s : Int), i <= (colsE e).length -> (colsE e).length - i < n -> t59_lp3 Tryz.prog Tryz.f59 N n e s (i : Int) = some (dat 3 (.lit (.int .i64 (ofFrom s ((colsE e).drop i)))))
 | 0, i, s, _, h => by omega
 | n + 1, i, s, hi, h => by
  rw [t59_lp3_step]
  by_cases hlt : i < (colsE e).length
  ·rw [l_idx hlt, l_lt hlt, cond_true, cond_true, Int.toNat_natCast, l_get hlt, l_wrap (Nat.le_trans (cols_len e) (by unfold maxLen; omega)) hlt, of_loop n (i + 1) _ (by omega) (by omega), List.drop_eq_getElem_cons hlt]
   rfl
  ·rw [l_ge hlt, cond_false, List.drop_of_length_le (by omega)]
   rfl
def e59 : FuncId × TypeId × (List AV -> Bool) × (List AV -> Option D) := (59, 3, yes, ent [42] (f1 fun x => some (.lit (.int .i64 (ofE x)))))
theorem k59 : FnOK Tryz.prog 59 Tryz.f59 := ⟨Tryz.func59, rfl, by kernel_rfl⟩
theorem c59 : ∀ args d, e59.2.2.2 args = some d -> CallOK Tryz.prog 59 args (mkRes Tryz.prog 3 d) :=
 ent1 k59 fun x d h _ => by
  cases h
  rw [n26]
  refine fn_ok hm envQ3 k59 ((t59 ((colsE x).length + 1) x).trans ?_)
  rw [m3]
  exact of_loop _ 0 0 (Nat.zero_le _) (by omega)
def Q4 : Tab := e59 :: e43 :: Q3
theorem envQ4 : EnvOK Tryz.prog (envH Q4 []) := envOK_cons (envOK_cons' envQ3 c43) c59

end X
end
section
namespace X
open Go.Ev
set_option linter.unusedVariables false
/- roadbook/query.expressionsMay -/
def t28_h : Hints := fun i => if i = 4 then some ([0, 1, 4, 5, 6, 7, 8, 9, 10, 11, 12, 16, 17, 18, 19, 20, 21, 22, 23, 24, 25, 26, 27, 28, 29, 30, 31], [2, 3], []) else none
def t28_lp4 (P : Program) (fn : Func) (N n : Nat) (x0 : D) (x1 : D) (v15 : Int) : Option AV := evLoop (preL t28_h (sub [1, 1, 0, 1, 0, 0] (bodyOf fn))) (evCode P (envR Q4 [] [] []) t28_h N (sub [1, 1, 0, 1, 0, 0] (bodyOf fn))) n ⟨[dead, dead, bxp 2 24, bxp 3 28, dead, dead, dead, dead, dead, dead, dead, dead, dead, dat 26 (fieldD x1 1), dat 3 (.lit (.int .i64 ((elemsD (fieldD x1 1)).length : Int))), dat 3 (.lit (.int .i64 v15)), dead, dead, dead, dead, dead, dead, dead, dead, dead, dead, dead, dead, dead, dead, dead, dead], lookB [(2, some ⟨24, x0, 0, none⟩), (3, some ⟨28, x1, 0, none⟩)]⟩ (blockK 0 (seqC P (envR Q4 [] [] []) t28_h N (sub [1, 1, 1] (bodyOf fn)) (finK P fn) ))
theorem t28_lp4_step (N n : Nat) (x0 : D) (x1 : D) (v15 : Int) : t28_lp4 Tryz.prog Tryz.f28 N (n + 1) x0 x1 v15 =
 bif decide (v15 < ((elemsD (fieldD x1 1)).length : Int)) then
  bif (decide (0 <= v15) && decide (v15 < ((elemsD (fieldD x1 1)).length : Int))) then
   bif ((((colsE ((elemsD (fieldD x1 1)).getD (v15).toNat .nil)).length : Int) == 0) == false) then
    bif occMayB x0 x1 then
     bif (!(areColB x0 x1 (colsE ((elemsD (fieldD x1 1)).getD (v15).toNat .nil)))) then
      some (dat 4 (.lit (.bool false)))
     else t28_lp4 Tryz.prog Tryz.f28 N n x0 x1 (IntKind.wrap .i64 (v15 + 1))
    else none
   else some (dat 4 (.lit (.bool false)))
  else none
 else some (dat 4 (.lit (.bool true))) := by kernel_rfl
theorem t28 (N : Nat) (x0 : D) (x1 : D) : evFn Tryz.prog (envR Q4 [] [] []) t28_h N Tryz.f28 [dat 24 x0, dat 28 x1] =
 bif decide (((elemsD (fieldD x1 1)).length : Int) > 6) then
  some (dat 4 (.lit (.bool false)))
 else t28_lp4 Tryz.prog Tryz.f28 N N x0 x1 0 := by kernel_rfl

/- roadbook/query.toldMay -/
def t44_h : Hints := fun i => if i = 4 then some ([0, 1, 2, 4, 5, 6, 7, 8, 9, 10, 11, 12, 13, 14, 15, 16, 17, 18, 19, 20, 21, 22, 23, 24, 25, 26, 27, 28, 29, 30, 31, 35, 36, 37, 38, 39, 40, 41, 42, 43, 44, 45, 46, 47, 48, 49, 50, 51, 52, 53, 54, 55], [3], []) else none
def t44_lp4 (P : Program) (fn : Func) (N n : Nat) (x0 : D) (x1 : D) (v34 : Int) : Option AV := evLoop (preL t44_h (sub [1, 1, 0, 1, 0, 0] (bodyOf fn))) (evCode P (envR Q4 [] [] []) t44_h N (sub [1, 1, 0, 1, 0, 0] (bodyOf fn))) n ⟨[dead, dead, dead, bxp 3 28, dead, dead, dead, dead, dead, dead, dead, dead, dead, dead, dead, dead, dead, dead, dead, dead, dead, dead, dead, dead, dead, dead, dead, dead, dead, dead, dead, dead, dat 25 (fieldD x1 4), dat 3 (.lit (.int .i64 ((elemsD (fieldD x1 4)).length : Int))), dat 3 (.lit (.int .i64 v34)), dead, dead, dead, dead, dead, dead, dead, dead, dead, dead, dead, dead, dead, dead, dead, dead, dead, dead, dead, dead, dead], lookB [(3, some ⟨28, x1, 0, none⟩)]⟩ (blockK 0 (seqC P (envR Q4 [] [] []) t44_h N (sub [1, 1, 1] (bodyOf fn)) (finK P fn) ))
theorem t44_lp4_step (N n : Nat) (x0 : D) (x1 : D) (v34 : Int) : t44_lp4 Tryz.prog Tryz.f44 N (n + 1) x0 x1 v34 =
 bif decide (v34 < ((elemsD (fieldD x1 4)).length : Int)) then
  bif (decide (0 <= v34) && decide (v34 < ((elemsD (fieldD x1 4)).length : Int))) then
   bif (decide (0 <= (0 : Int)) && decide ((0 : Int) <= v34) && decide (v34 <= ((elemsD (fieldD x1 4)).length : Int))) then
    bif hasB (((elemsD (fieldD x1 4)).drop ((0 : Int) : Int).toNat).take (v34 - (0 : Int)).toNat) (intD ((elemsD (fieldD x1 4)).getD (v34).toNat .nil)) then
     some (dat 4 (.lit (.bool false)))
    else t44_lp4 Tryz.prog Tryz.f44 N n x0 x1 (IntKind.wrap .i64 (v34 + 1))
   else none
  else none
 else bif (((intD (fieldD x1 5)) == (-1)) == false) then
   some (dat 4 (.lit (.bool (hasB (elemsD (fieldD x1 4)) (intD (fieldD x1 5))))))
  else some (dat 4 (.lit (.bool true))) := by kernel_rfl
theorem t44 (N : Nat) (x0 : D) (x1 : D) : evFn Tryz.prog (envR Q4 [] [] []) t44_h N Tryz.f44 [dat 24 x0, dat 28 x1] =
 bif ((decide (((elemsD (fieldD x1 3)).length : Int) > 0)) == false) then
  bif ((decide (((elemsD (fieldD x1 4)).length : Int) < 1)) == false) then
   bif ((decide (((elemsD (fieldD x1 4)).length : Int) > 8)) == false) then
    bif occMayB x0 x1 then
     bif (!(areColB x0 x1 (elemsD (fieldD x1 4)))) then
      some (dat 4 (.lit (.bool false)))
     else t44_lp4 Tryz.prog Tryz.f44 N N x0 x1 0
    else none
   else some (dat 4 (.lit (.bool false)))
  else some (dat 4 (.lit (.bool false)))
 else some (dat 4 (.lit (.bool false))) := by kernel_rfl

/- roadbook/query.groupsMay -/
def t45_h : Hints := fun _ =>  none
theorem t45 (N : Nat) (x0 : D) (x1 : D) : evFn Tryz.prog (envR Q4 [] [] []) t45_h N Tryz.f45 [dat 24 x0, dat 28 x1] =
 bif occMayB x0 x1 then
  bif ((!(isColB x0 x1 (intD (fieldD x1 2)))) == false) then
   bif ((decide (((elemsD (fieldD x1 3)).length : Int) > 4)) == false) then
    bif occMayB x0 x1 then
     bif ((!(areColB x0 x1 (elemsD (fieldD x1 3)))) == false) then
      bif decide (((elemsD (fieldD x1 4)).length : Int) > 0) then
       some (dat 4 (.lit (.bool false)))
      else bif (((intD (fieldD x1 5)) == (-1)) == false) then
        some (dat 4 (.lit (.bool ((intD (fieldD x1 5)) == (intD (fieldD x1 2))))))
       else some (dat 4 (.lit (.bool true)))
     else some (dat 4 (.lit (.bool false)))
    else none
   else some (dat 4 (.lit (.bool false)))
  else some (dat 4 (.lit (.bool false)))
 else none := by kernel_rfl

/- roadbook/query.places -/
def t46_b_h : Hints := fun i => if i = 3 then some ([0, 2, 3, 4, 6, 7, 8, 12, 13, 14, 15, 16, 17, 18, 19, 20, 21, 22, 23, 24, 25], [5], []) else none
def t46_b_lp3 (P : Program) (fn : Func) (N n : Nat) (x0 : D) (s : Int) (v11 : Int) (b5 : List D) : Option AV := evLoop (preL t46_b_h (sub [1, 1, 0, 1, 0, 0] (bodyOf fn))) (evCode P (envR Q4 [] [] []) t46_b_h N (sub [1, 1, 0, 1, 0, 0] (bodyOf fn))) n ⟨[dead, dat 68 (bndD 47 3 (.lit (.int .i64 s))), dead, dead, dead, bxp 5 25, dead, dead, dead, dat 26 (fieldD x0 1), dat 3 (.lit (.int .i64 ((elemsD (fieldD x0 1)).length : Int))), dat 3 (.lit (.int .i64 v11)), dead, dead, dead, dead, dead, dead, dead, dead, dead, dead, dead, dead, dead, dead], lookB [(5, some ⟨25, .slice b5 [], 1, none⟩)]⟩ (blockK 0 (seqC P (envR Q4 [] [] []) t46_b_h N (sub [1, 1, 1] (bodyOf fn)) (finK P fn) ))
theorem t46_b_lp3_step (N n : Nat) (x0 : D) (s : Int) (v11 : Int) (b5 : List D) : t46_b_lp3 Tryz.prog Tryz.f46 N (n + 1) x0 s v11 b5 =
 bif decide (v11 < ((elemsD (fieldD x0 1)).length : Int)) then
  bif (decide (0 <= v11) && decide (v11 < ((elemsD (fieldD x0 1)).length : Int))) then
   bif hasS s (ofE ((elemsD (fieldD x0 1)).getD (v11).toNat .nil)) then
    bif decide ((b5).length + 1 <= 2147483648) then
     t46_b_lp3 Tryz.prog Tryz.f46 N n x0 s (IntKind.wrap .i64 (v11 + 1)) (b5 ++ [.lit (.int .i64 v11)])
    else none
   else t46_b_lp3 Tryz.prog Tryz.f46 N n x0 s (IntKind.wrap .i64 (v11 + 1)) b5
  else none
 else some (dat 25 (.slice b5 [])) := by kernel_rfl
theorem t46_b (N : Nat) (x0 : D) (s : Int) : evFn Tryz.prog (envR Q4 [] [] []) t46_b_h N Tryz.f46 [dat 28 x0, dat 68 (bndD 47 3 (.lit (.int .i64 s)))] =
 t46_b_lp3 Tryz.prog Tryz.f46 N N x0 s 0 [] := by kernel_rfl

end X
end
section
namespace X
open Go.Ev
set_option linter.unusedVariables false
set_option maxRecDepth 10000
set_option linter.unusedSimpArgs false

def e28 : FuncId × TypeId × (List AV -> Bool) × (List AV -> Option D) := (28, 4, preD (q2 fun x y => occMayB x y), ent [24, 28] (f2 fun x y => some (.lit (.bool (exprMayB x y)))))
theorem k28 : FnOK Tryz.prog 28 Tryz.f28 := ⟨Tryz.func28, rfl, by kernel_rfl⟩
theorem c28 : ∀ args d, e28.2.2.1 args = true -> e28.2.2.2 args = some d -> CallOK Tryz.prog 28 args (mkRes Tryz.prog 4 d) :=
 ent2p k28 fun x y d hq h _ ⟨_, hy⟩ => by
  cases h
  rw [nCat, nQry]
  have hl : (elemsD (fieldD y 1)).length <= maxLen := (tyQ hy).p
  have hq : occMayB x y = true := hq
  refine fn_ok hm envQ4 k28 ((t28 ((elemsD (fieldD y 1)).length + 1) x y).trans ?_)
  have lp : t28_lp4 Tryz.prog Tryz.f28 ((elemsD (fieldD y 1)).length + 1) ((elemsD (fieldD y 1)).length + 1) x y 0 = some (dat 4 (.lit (.bool ((elemsD (fieldD y 1)).all (exprB x y))))) := by
   have := l_loop (fun n v => t28_lp4 Tryz.prog Tryz.f28 ((elemsD (fieldD y 1)).length + 1) n x y v) (elemsD (fieldD y 1)).length (fun i => !exprB x y ((elemsD (fieldD y 1)).getD i .nil)) (some (dat 4 (.lit (.bool false)))) (some (dat 4 (.lit (.bool true))))
    (fun n i hi => by
     rw [t28_lp4_step, l_idx hi, l_lt hi, cond_true, cond_true, Int.toNat_natCast, l_wrap hl hi, hq, natEq0, cond_true]
     unfold exprB
     generalize t28_lp4 Tryz.prog Tryz.f28 ((elemsD (fieldD y 1)).length + 1) n x y ((i + 1 : Nat) : Int) = W
     cases (colsE ((elemsD (fieldD y 1)).getD i .nil)).isEmpty <;> cases areColB x y (colsE ((elemsD (fieldD y 1)).getD i .nil)) <;> rfl)
    (fun n => by rw [t28_lp4_step, l_ge (by omega), cond_false]) ((elemsD (fieldD y 1)).length + 1) 0 (Nat.zero_le _) (by omega)
   refine this.trans ?_
   rw [Nat.sub_zero, l_any0 (elemsD (fieldD y 1)) (fun o => !exprB x y o), any_not]
   cases (elemsD (fieldD y 1)).all (exprB x y) <;> rfl
  rw [m4, lp]
  show _ = some (dat 4 (.lit (.bool (exprMayB x y))))
  unfold exprMayB qP
  rw [show decide (((elemsD (fieldD y 1)).length : Int) > 6) = _ from natGt 6]
  cases decide ((elemsD (fieldD y 1)).length <= 6) <;> rfl
def e44 : FuncId × TypeId × (List AV -> Bool) × (List AV -> Option D) := (44, 4, preD (q2 fun x y => occMayB x y), ent [24, 28] (f2 fun x y => some (.lit (.bool (toldB x y)))))
theorem k44 : FnOK Tryz.prog 44 Tryz.f44 := ⟨Tryz.func44, rfl, by kernel_rfl⟩
theorem c44 : ∀ args d, e44.2.2.1 args = true -> e44.2.2.2 args = some d -> CallOK Tryz.prog 44 args (mkRes Tryz.prog 4 d) :=
 ent2p k44 fun x y d hq h _ ⟨_, hy⟩ => by
  cases h
  rw [nCat, nQry]
  have hl : (elemsD (fieldD y 4)).length <= maxLen := (tyQ hy).out
  have hq : occMayB x y = true := hq
  refine fn_ok hm envQ4 k44 ((t44 ((elemsD (fieldD y 4)).length + 1) x y).trans ?_)
  have lp : t44_lp4 Tryz.prog Tryz.f44 ((elemsD (fieldD y 4)).length + 1) ((elemsD (fieldD y 4)).length + 1) x y 0 = some (dat 4 (.lit (.bool (!dupB (elemsD (fieldD y 4)) && (intD (fieldD y 5) == -1 || hasB (elemsD (fieldD y 4)) (intD (fieldD y 5))))))) := by
   have := l_loop (fun n v => t44_lp4 Tryz.prog Tryz.f44 ((elemsD (fieldD y 4)).length + 1) n x y v) (elemsD (fieldD y 4)).length (fun i => hasB ((elemsD (fieldD y 4)).take i) (intD ((elemsD (fieldD y 4)).getD i .nil))) (some (dat 4 (.lit (.bool false)))) (some (dat 4 (.lit (.bool (intD (fieldD y 5) == -1 || hasB (elemsD (fieldD y 4)) (intD (fieldD y 5)))))))
    (fun n i hi => by
     have ht : (decide (0 <= (0 : Int)) && decide ((0 : Int) <= (i : Int)) && decide ((i : Int) <= ((elemsD (fieldD y 4)).length : Int))) = true := by
      simp only [Bool.and_eq_true, decide_eq_true_eq]
      omega
     rw [t44_lp4_step, l_idx hi, l_lt hi, cond_true, cond_true, ht, cond_true, Int.sub_zero, Int.toNat_natCast, l_wrap hl hi, show ((0 : Int)).toNat = 0 from rfl, List.drop_zero])
    (fun n => by
     rw [t44_lp4_step, l_ge (by omega), cond_false]
     cases (intD (fieldD y 5) == -1) <;> rfl) ((elemsD (fieldD y 4)).length + 1) 0 (Nat.zero_le _) (by omega)
   refine this.trans ?_
   unfold dupB
   rw [Nat.sub_zero]
   cases (List.range' 0 (elemsD (fieldD y 4)).length).any fun i => hasB ((elemsD (fieldD y 4)).take i) (intD ((elemsD (fieldD y 4)).getD i .nil)) <;> rfl
  rw [m4, lp, hq]
  show _ = some (dat 4 (.lit (.bool (toldB x y))))
  unfold toldB qSums qOut qOrd
  rw [natGt0, show decide (((elemsD (fieldD y 4)).length : Int) < 1) = _ from natLt 1, show decide (((elemsD (fieldD y 4)).length : Int) > 8) = _ from natGt 8]
  generalize (!dupB (elemsD (fieldD y 4)) && (intD (fieldD y 5) == -1 || hasB (elemsD (fieldD y 4)) (intD (fieldD y 5)))) = W
  cases (elemsD (fieldD y 3)).isEmpty <;> cases decide (1 <= (elemsD (fieldD y 4)).length) <;> cases decide ((elemsD (fieldD y 4)).length <= 8) <;> cases areColB x y (elemsD (fieldD y 4)) <;> rfl
def e45 : FuncId × TypeId × (List AV -> Bool) × (List AV -> Option D) := (45, 4, preD (q2 fun x y => occMayB x y), ent [24, 28] (f2 fun x y => some (.lit (.bool (groupsB x y)))))
theorem k45 : FnOK Tryz.prog 45 Tryz.f45 := ⟨Tryz.func45, rfl, by kernel_rfl⟩
theorem c45 : ∀ args d, e45.2.2.1 args = true -> e45.2.2.2 args = some d -> CallOK Tryz.prog 45 args (mkRes Tryz.prog 4 d) :=
 ent2p k45 fun x y d hq h _ _ => by
  cases h
  rw [nCat, nQry]
  have hq : occMayB x y = true := hq
  refine fn_ok hm envQ4 k45 ((t45 1 x y).trans ?_)
  rw [m4, hq]
  show _ = some (dat 4 (.lit (.bool (groupsB x y))))
  unfold groupsB qSums qOut qOrd qBy
  rw [natGt0, show decide (((elemsD (fieldD y 3)).length : Int) > 4) = _ from natGt 4]
  cases isColB x y (intD (fieldD y 2)) <;> cases decide ((elemsD (fieldD y 3)).length <= 4) <;> cases areColB x y (elemsD (fieldD y 3)) <;> cases (elemsD (fieldD y 4)).isEmpty <;> cases (intD (fieldD y 5) == -1) <;> rfl

/-! ### A function that looks at three sets -/
theorem uAsk : ∃ p q r, Tryz.prog.underlying 68 = some (.func p q r) := ⟨_, _, _, Tryz.underlying68⟩
theorem tyAsk {n : Nat} {x : D} (h : Ty Tryz.prog n 68 x) (hb : bndIs 47 3 x = true) : ∃ z, x = bndD 47 3 (litI z) := by
 obtain ⟨p, q, r, hu⟩ := uAsk
 obtain ⟨m, y, rfl, hy⟩ := ty_bnd hu h hb
 obtain ⟨z, rfl, _⟩ := ty3' hy
 exact ⟨z, rfl⟩
def setOf (x : D) : Int := intD (bndArg x)
def isAsk (x : D) : Bool := bndIs 47 3 x
def askB (a b c s : Int) : Bool := hasS a s && !hasS b s && !hasS c s
/-! ### Places -/
theorem plb_loop {N : Nat} {q : D} {s : Int} (hl : (elemsD (fieldD q 1)).length <= 2147483647) : ∀ (n i : Nat) (l : List D), i <= (elemsD (fieldD q 1)).length -> (elemsD (fieldD q 1)).length - i < n -> l.length <= i ->
  t46_b_lp3 Tryz.prog Tryz.f46 N n q s (i : Int) l = some (dat 25 (.slice (l ++ plc (fun e => hasS s (ofE e)) ((elemsD (fieldD q 1)).drop i) i) []))
 | 0, i, l, _, h, _ => by omega
 | n + 1, i, l, hi, h, hle => by
  rw [t46_b_lp3_step]
  by_cases hlt : i < (elemsD (fieldD q 1)).length
  ·rw [l_idx hlt, l_lt hlt, cond_true, cond_true, Int.toNat_natCast, l_get hlt, l_wrap (Nat.le_trans hl (by unfold maxLen; omega)) hlt, List.drop_eq_getElem_cons hlt, plc_cons]
   cases hf : hasS s (ofE (elemsD (fieldD q 1))[i]) with
   | true =>
    rw [cond_true, dT (show l.length + 1 <= 2147483648 by omega), cond_true, plb_loop hl n (i + 1) _ (by omega) (by omega) (by simp; omega), List.append_assoc]
    rfl
   | false =>
    rw [cond_false, plb_loop hl n (i + 1) _ (by omega) (by omega) (by omega)]
    rfl
  ·rw [l_ge hlt, cond_false, List.drop_of_length_le (by omega)]
   simp [plc]
def plbF (x y : D) : Option D := bif isAsk y then some (.slice (plc (fun e => hasS (setOf y) (ofE e)) (qP x) 0) []) else none
def e46 : FuncId × TypeId × (List AV -> Bool) × (List AV -> Option D) := (46, 25, preD (q2 fun x _ => decide ((qP x).length <= 2147483647)), ent [28, 68] (f2 plbF))
theorem k46 : FnOK Tryz.prog 46 Tryz.f46 := ⟨Tryz.func46, rfl, by kernel_rfl⟩
theorem c46 : ∀ args d, e46.2.2.1 args = true -> e46.2.2.2 args = some d -> CallOK Tryz.prog 46 args (mkRes Tryz.prog 25 d) :=
 ent2p k46 fun x y d hq h ⟨_, hx⟩ ⟨_, hy⟩ => by
  unfold plbF at h
  cases hb : isAsk y with
  | false => rw [hb, cond_false] at h; cases h
  | true =>
   rw [hb, cond_true] at h
   cases h
   rw [nQry, nAsk]
   obtain ⟨s, rfl⟩ := tyAsk hy hb
   have hl : (elemsD (fieldD x 1)).length <= 2147483647 := of_decide_eq_true hq
   refine fn_ok hm envQ4 k46 ((t46_b ((elemsD (fieldD x 1)).length + 1) x s).trans ?_)
   rw [m27]
   exact (plb_loop hl _ 0 [] (Nat.zero_le _) (by omega) (by simp))
def Q5 : Tab := e46 :: e45 :: e44 :: e28 :: Q4
theorem envQ5 : EnvOK Tryz.prog (envH Q5 []) := envOK_cons' (envOK_cons' (envOK_cons' (envOK_cons' envQ4 c28) c44) c45) c46

end X
end
section
namespace X
open Go.Ev
set_option linter.unusedVariables false
/- roadbook/query.endMay -/
def t29_h : Hints := fun _ =>  none
theorem t29 (N : Nat) (x0 : D) (x1 : D) : evFn Tryz.prog (envR Q5 [] [] []) t29_h N Tryz.f29 [dat 24 x0, dat 28 x1] =
 bif ((intD (fieldD x1 2)) == (-1)) then
  bif occMayB x0 x1 then
   some (dat 4 (.lit (.bool (toldB x0 x1))))
  else none
 else bif occMayB x0 x1 then
   some (dat 4 (.lit (.bool (groupsB x0 x1))))
  else none := by kernel_rfl

/- roadbook/query.Own -/
def t30_h : Hints := fun _ =>  none
theorem t30 (N : Nat) (x0 : D) (x1 : Int) : evFn Tryz.prog (envR Q5 [] [] []) t30_h N Tryz.f30 [dat 28 x0, dat 3 (.lit (.int .i64 x1))] =
 bif decide ((qP x0).length <= 2147483647) then
  some (dat 25 (.slice (plc (fun e => hasS x1 (ofE e)) (qP x0) 0) []))
 else none := by kernel_rfl

end X
end
section
namespace X
open Go.Ev
set_option linter.unusedVariables false
set_option maxRecDepth 10000
set_option linter.unusedSimpArgs false

def e29 : FuncId × TypeId × (List AV -> Bool) × (List AV -> Option D) := (29, 4, preD (q2 fun x y => occMayB x y), ent [24, 28] (f2 fun x y => some (.lit (.bool (endB x y)))))
theorem k29 : FnOK Tryz.prog 29 Tryz.f29 := ⟨Tryz.func29, rfl, by kernel_rfl⟩
theorem c29 : ∀ args d, e29.2.2.1 args = true -> e29.2.2.2 args = some d -> CallOK Tryz.prog 29 args (mkRes Tryz.prog 4 d) :=
 ent2p k29 fun x y d hq h _ _ => by
  cases h
  rw [nCat, nQry]
  have hq : occMayB x y = true := hq
  refine fn_ok hm envQ5 k29 ((t29 1 x y).trans ?_)
  rw [m4, hq]
  show _ = some (dat 4 (.lit (.bool (endB x y))))
  unfold endB qBy
  cases (intD (fieldD y 2) == -1) <;> rfl
def e30 : FuncId × TypeId × (List AV -> Bool) × (List AV -> Option D) := (30, 25, preD (q2 fun x _ => decide ((qP x).length <= 2147483647)), ent [28, 3] (f2 fun x y => some (.slice (ownL x (intD y)) [])))
theorem k30 : FnOK Tryz.prog 30 Tryz.f30 := ⟨Tryz.func30, rfl, by kernel_rfl⟩
theorem c30 : ∀ args d, e30.2.2.1 args = true -> e30.2.2.2 args = some d -> CallOK Tryz.prog 30 args (mkRes Tryz.prog 25 d) :=
 ent2p k30 fun x y d hq h _ _ => by
  cases h
  rw [nQry, n3]
  have hq : decide ((qP x).length <= 2147483647) = true := hq
  refine fn_ok hm envQ5 k30 ((t30 1 x (intD y)).trans ?_)
  rw [m27, hq]
  rfl
def Q6 : Tab := e30 :: e29 :: Q5
theorem envQ6 : EnvOK Tryz.prog (envH Q6 []) := envOK_cons' (envOK_cons' envQ5 c29) c30

end X
end
section
namespace X
open Go.Ev
set_option linter.unusedVariables false
/- roadbook/query.May -/
def t17_h : Hints := fun _ =>  none
theorem t17 (N : Nat) (x0 : D) (x1 : D) : evFn Tryz.prog (envR Q6 [] [] []) t17_h N Tryz.f17 [dat 24 x0, dat 28 x1] =
 bif ((mayCat x0) == true) then
  bif ((occMayB x0 x1) == true) then
   bif occMayB x0 x1 then
    bif ((exprMayB x0 x1) == true) then
     bif occMayB x0 x1 then
      some (dat 4 (.lit (.bool (endB x0 x1))))
     else none
    else some (dat 4 (.lit (.bool false)))
   else none
  else some (dat 4 (.lit (.bool false)))
 else some (dat 4 (.lit (.bool false))) := by kernel_rfl

end X
end
section
namespace X
open Go.Ev
set_option linter.unusedVariables false
set_option maxRecDepth 10000
set_option linter.unusedSimpArgs false

def e17 : FuncId × TypeId × (List AV -> Bool) × (List AV -> Option D) := (17, 4, yes, ent [24, 28] (f2 fun x y => some (.lit (.bool (mayQ x y)))))
theorem k17 : FnOK Tryz.prog 17 Tryz.f17 := ⟨Tryz.func17, rfl, by kernel_rfl⟩
theorem c17 : ∀ args d, e17.2.2.2 args = some d -> CallOK Tryz.prog 17 args (mkRes Tryz.prog 4 d) :=
 ent2 k17 fun x y d h _ _ => by
  cases h
  rw [nCat, nQry]
  refine fn_ok hm envQ6 k17 ((t17 1 x y).trans ?_)
  rw [m4]
  show _ = some (dat 4 (.lit (.bool (mayQ x y))))
  unfold mayQ
  cases mayCat x <;> cases occMayB x y <;> cases exprMayB x y <;> rfl
def Q7 : Tab := e17 :: Q6
theorem envQ7 : EnvOK Tryz.prog (envH Q7 []) := envOK_cons envQ6 c17

end X
end
section
namespace X
open Go.Ev
set_option linter.unusedVariables false
/- roadbook/roadbooklaw05.Far -/
def t5_h : Hints := fun _ =>  none
theorem t5 (N : Nat) (x0 : D) (x1 : D) : evFn Tryz.prog (envR Q7 [] [] []) t5_h N Tryz.f5 [dat 24 x0, dat 28 x1] =
 bif fewQ fewB x0 x1 then
  some (dat 3 (.lit (.int .i64 0)))
 else some (dat 3 (.lit (.int .i64 1))) := by kernel_rfl

/- roadbook/card.times -/
def t16_h : Hints := fun _ =>  none
theorem t16 (N : Nat) (x0 : Int) (x1 : Int) : evFn Tryz.prog (envR Q7 [] [] []) t16_h N Tryz.f16 [dat 3 (.lit (.int .i64 x0)), dat 3 (.lit (.int .i64 x1))] =
 bif decide (x1 <= 0) then
  some (dat 3 (.lit (.int .i64 0)))
 else bif (!(x1 == 0)) then
   bif decide (x0 > (IntKind.wrap .i64 (Int.tdiv 1099511627776 x1))) then
    some (dat 3 (.lit (.int .i64 1099511627776)))
   else some (dat 3 (.lit (.int .i64 (IntKind.wrap .i64 (x0 * x1)))))
  else none := by kernel_rfl

/- roadbook/card.rowsOf -/
def t24_h : Hints := fun _ =>  none
theorem t24 (N : Nat) (x0 : D) (x1 : D) (x2 : Int) : evFn Tryz.prog (envR Q7 [] [] []) t24_h N Tryz.f24 [dat 24 x0, dat 28 x1, dat 3 (.lit (.int .i64 x2))] =
 bif (decide (0 <= x2) && decide (x2 < ((elemsD (fieldD x1 0)).length : Int))) then
  bif (decide (0 <= (intD ((elemsD (fieldD x1 0)).getD (x2).toNat .nil))) && decide ((intD ((elemsD (fieldD x1 0)).getD (x2).toNat .nil)) < ((elemsD (fieldD x0 0)).length : Int))) then
   some (dat 3 (.lit (.int .i64 (intD (fieldD ((elemsD (fieldD x0 0)).getD (intD ((elemsD (fieldD x1 0)).getD (x2).toNat .nil)).toNat .nil) 1)))))
  else none
 else none := by kernel_rfl

/- roadbook/card.kindOf -/
def t31_h : Hints := fun _ =>  none
theorem t31 (N : Nat) (x0 : D) : evFn Tryz.prog (envR Q7 [] [] []) t31_h N Tryz.f31 [dat 42 x0] =
 bif pairE x0 then
  some (dat 3 (.lit (.int .i64 0)))
 else some (dat 3 (.lit (.int .i64 1))) := by kernel_rfl

end X
end
section
namespace X
open Go.Ev
set_option linter.unusedVariables false
set_option maxRecDepth 10000
set_option linter.unusedSimpArgs false

def farI (c q : D) : Int := bif fewQ fewB c q then 0 else 1
def e5 : FuncId × TypeId × (List AV -> Bool) × (List AV -> Option D) := (5, 3, yes, ent [24, 28] (f2 fun x y => some (.lit (.int .i64 (farI x y)))))
theorem k5 : FnOK Tryz.prog 5 Tryz.f5 := ⟨Tryz.func5, rfl, by kernel_rfl⟩
theorem c5 : ∀ args d, e5.2.2.2 args = some d -> CallOK Tryz.prog 5 args (mkRes Tryz.prog 3 d) :=
 ent2 k5 fun x y d h _ _ => by
  cases h
  rw [nCat, nQry]
  refine fn_ok hm envQ7 k5 ((t5 1 x y).trans ?_)
  rw [m3]
  unfold farI
  cases fewQ fewB x y <;> rfl
def e16 : FuncId × TypeId × (List AV -> Bool) × (List AV -> Option D) := (16, 3, yes, ent [3, 3] (f2 fun x y => some (.lit (.int .i64 (timesC (intD x) (intD y))))))
theorem k16 : FnOK Tryz.prog 16 Tryz.f16 := ⟨Tryz.func16, rfl, by kernel_rfl⟩
theorem c16 : ∀ args d, e16.2.2.2 args = some d -> CallOK Tryz.prog 16 args (mkRes Tryz.prog 3 d) :=
 ent2 k16 fun x y d h _ _ => by
  cases h
  rw [n3, n3]
  refine fn_ok hm envQ7 k16 ((t16 1 (intD x) (intD y)).trans ?_)
  rw [m3]
  unfold timesC
  by_cases hb : intD y <= 0
  ·rw [dT hb]; rfl
  ·have h0 : (!(intD y == 0)) = true := by
    rw [Bool.not_eq_true', beq_eq_false_iff_ne]
    omega
   rw [dF hb, h0]
   show (bif decide (intD x > (IntKind.wrap .i64 (Int.tdiv 1099511627776 (intD y)))) then _ else _) = some (dat 3 (.lit (.int .i64 (intD (.lit (.int .i64 (bif decide (intD x > IntKind.wrap .i64 (Int.tdiv 1099511627776 (intD y))) then topC else IntKind.wrap .i64 (intD x * intD y))))))))
   cases decide (intD x > (IntKind.wrap .i64 (Int.tdiv 1099511627776 (intD y)))) <;> rfl
def e24 : FuncId × TypeId × (List AV -> Bool) × (List AV -> Option D) := (24, 3, preD (q3 fun x y z => (occMayB x y && (decide (0 <= intD z) && decide (intD z < ((qOcc y).length : Int))))), ent [24, 28, 3] (f3 fun x y z => some (.lit (.int .i64 (rowsC x y (intD z))))))
theorem k24 : FnOK Tryz.prog 24 Tryz.f24 := ⟨Tryz.func24, rfl, by kernel_rfl⟩
theorem c24 : ∀ args d, e24.2.2.1 args = true -> e24.2.2.2 args = some d -> CallOK Tryz.prog 24 args (mkRes Tryz.prog 3 d) :=
 ent3p k24 fun x y z d hq h _ _ _ => by
  cases h
  rw [nCat, nQry, n3]
  have hq : (occMayB x y && (decide (0 <= intD z) && decide (intD z < ((qOcc y).length : Int)))) = true := hq
  rw [Bool.and_eq_true] at hq
  refine fn_ok hm envQ7 k24 ((t24 1 x y (intD z)).trans ?_)
  have h1 : (decide (0 <= intD z) && decide (intD z < ((elemsD (fieldD y 0)).length : Int))) = true := hq.2
  have h2 := hq.2
  rw [Bool.and_eq_true, decide_eq_true_eq, decide_eq_true_eq] at h2
  obtain ⟨i, hi⟩ : ∃ i : Nat, intD z = (i : Int) := ⟨(intD z).toNat, by omega⟩
  have hb := occ_below hq.1 (i := i) (by omega)
  have h3 : (decide (0 <= (intD ((elemsD (fieldD y 0)).getD (intD z).toNat .nil))) && decide ((intD ((elemsD (fieldD y 0)).getD (intD z).toNat .nil)) < ((elemsD (fieldD x 0)).length : Int))) = true := by
   rw [hi, Int.toNat_natCast, Bool.and_eq_true, decide_eq_true_eq, decide_eq_true_eq]
   exact hb
  rw [h1, h3, m3]
  rfl
def e31 : FuncId × TypeId × (List AV -> Bool) × (List AV -> Option D) := (31, 3, yes, ent [42] (f1 fun x => some (.lit (.int .i64 (kindI x)))))
theorem k31 : FnOK Tryz.prog 31 Tryz.f31 := ⟨Tryz.func31, rfl, by kernel_rfl⟩
theorem c31 : ∀ args d, e31.2.2.2 args = some d -> CallOK Tryz.prog 31 args (mkRes Tryz.prog 3 d) :=
 ent1 k31 fun x d h _ => by
  cases h
  rw [n26]
  refine fn_ok hm envQ7 k31 ((t31 1 x).trans ?_)
  rw [m3]
  unfold kindI
  cases pairE x <;> rfl
def A1 : Tab := e31 :: e24 :: e16 :: e5 :: Q7
theorem envA1 : EnvOK Tryz.prog (envH A1 []) := envOK_cons (envOK_cons' (envOK_cons (envOK_cons envQ7 c5) c16) c24) c31

end X
end
section
namespace X
open Go.Ev
set_option linter.unusedVariables false
/- roadbook/card.Times -/
def t6_h : Hints := fun i => if i = 3 then some ([0, 1, 2, 4, 5, 9, 10, 11, 12, 13, 14, 15, 16], [], []) else none
def t6_lp3 (P : Program) (fn : Func) (N n : Nat) (x0 : D) (v3 : Int) (v8 : Int) : Option AV := evLoop (preL t6_h (sub [1, 1, 0, 1, 0, 0] (bodyOf fn))) (evCode P (envR A1 [] [] []) t6_h N (sub [1, 1, 0, 1, 0, 0] (bodyOf fn))) n ⟨[dead, dead, dead, dat 3 (.lit (.int .i64 v3)), dead, dead, dat 25 x0, dat 3 (.lit (.int .i64 ((elemsD x0).length : Int))), dat 3 (.lit (.int .i64 v8)), dead, dead, dead, dead, dead, dead, dead, dead], lookB []⟩ (blockK 0 (seqC P (envR A1 [] [] []) t6_h N (sub [1, 1, 1] (bodyOf fn)) (finK P fn) ))
theorem t6_lp3_step (N n : Nat) (x0 : D) (v3 : Int) (v8 : Int) : t6_lp3 Tryz.prog Tryz.f6 N (n + 1) x0 v3 v8 =
 bif decide (v8 < ((elemsD x0).length : Int)) then
  bif (decide (0 <= v8) && decide (v8 < ((elemsD x0).length : Int))) then
   t6_lp3 Tryz.prog Tryz.f6 N n x0 (timesC v3 (intD ((elemsD x0).getD (v8).toNat .nil))) (IntKind.wrap .i64 (v8 + 1))
  else none
 else some (dat 3 (.lit (.int .i64 v3))) := by kernel_rfl
theorem t6 (N : Nat) (x0 : D) : evFn Tryz.prog (envR A1 [] [] []) t6_h N Tryz.f6 [dat 25 x0] =
 t6_lp3 Tryz.prog Tryz.f6 N N x0 1 0 := by kernel_rfl

/- roadbook/card.bases -/
def t18_h : Hints := fun i => if i = 3 then some ([0, 1, 5, 6, 8, 9, 10, 13, 14, 15, 16, 17, 18, 19, 20, 21, 22, 23, 24, 25, 26, 27, 28], [3, 4, 7], []) else none
def t18_lp3 (P : Program) (fn : Func) (N n : Nat) (x0 : D) (x1 : D) (x2 : Int) (v12 : Int) (b7 : List D) : Option AV := evLoop (preL t18_h (sub [1, 1, 0, 1, 0, 0] (bodyOf fn))) (evCode P (envR A1 [] [] []) t18_h N (sub [1, 1, 0, 1, 0, 0] (bodyOf fn))) n ⟨[dead, dead, dat 3 (.lit (.int .i64 x2)), bxp 3 24, bxp 4 28, dead, dead, bxp 7 25, dead, dead, dead, dat 3 (.lit (.int .i64 ((elemsD (fieldD x1 0)).length : Int))), dat 3 (.lit (.int .i64 v12)), dead, dead, dead, dead, dead, dead, dead, dead, dead, dead, dead, dead, dead, dead, dead, dead], lookB [(3, some ⟨24, x0, 0, none⟩), (4, some ⟨28, x1, 0, none⟩), (7, some ⟨25, .slice b7 [], 1, none⟩)]⟩ (blockK 0 (seqC P (envR A1 [] [] []) t18_h N (sub [1, 1, 1] (bodyOf fn)) (finK P fn) ))
theorem t18_lp3_step (N n : Nat) (x0 : D) (x1 : D) (x2 : Int) (v12 : Int) (b7 : List D) : t18_lp3 Tryz.prog Tryz.f18 N (n + 1) x0 x1 x2 v12 b7 =
 bif decide (v12 < ((elemsD (fieldD x1 0)).length : Int)) then
  bif decide (0 <= v12) then
   bif ((andI .i64 (Int.fdiv x2 (2 ^ min (v12 : Int).toNat (IntKind.bits .i64))) 1) == 1) then
    bif (occMayB x0 x1 && (decide (0 <= v12) && decide (v12 < ((qOcc x1).length : Int)))) then
     bif decide ((b7).length + 1 <= 2147483648) then
      t18_lp3 Tryz.prog Tryz.f18 N n x0 x1 x2 (IntKind.wrap .i64 (v12 + 1)) (b7 ++ [.lit (.int .i64 (rowsC x0 x1 v12))])
     else none
    else none
   else t18_lp3 Tryz.prog Tryz.f18 N n x0 x1 x2 (IntKind.wrap .i64 (v12 + 1)) b7
  else none
 else some (dat 25 (.slice b7 [])) := by kernel_rfl
theorem t18 (N : Nat) (x0 : D) (x1 : D) (x2 : Int) : evFn Tryz.prog (envR A1 [] [] []) t18_h N Tryz.f18 [dat 24 x0, dat 28 x1, dat 3 (.lit (.int .i64 x2))] =
 t18_lp3 Tryz.prog Tryz.f18 N N x0 x1 x2 0 [] := by kernel_rfl

/- roadbook/card.divisor -/
def t19_h : Hints := fun i => if i = 3 then some ([0, 1, 3, 4, 6, 7, 8, 9, 13, 14, 15, 16, 17, 18, 19, 20, 21, 22, 23, 24, 25, 26, 27], [2], []) else none
def t19_lp3 (P : Program) (fn : Func) (N n : Nat) (x0 : D) (x1 : Int) (v5 : Int) (v12 : Int) : Option AV := evLoop (preL t19_h (sub [1, 1, 0, 1, 0, 0] (bodyOf fn))) (evCode P (envR A1 [] [] []) t19_h N (sub [1, 1, 0, 1, 0, 0] (bodyOf fn))) n ⟨[dead, dead, bxp 2 28, dead, dead, dat 3 (.lit (.int .i64 v5)), dead, dead, dead, dead, dat 25 (.slice (ownL x0 x1) []), dat 3 (.lit (.int .i64 ((ownL x0 x1).length : Int))), dat 3 (.lit (.int .i64 v12)), dead, dead, dead, dead, dead, dead, dead, dead, dead, dead, dead, dead, dead, dead, dead], lookB [(2, some ⟨28, x0, 0, none⟩)]⟩ (blockK 0 (seqC P (envR A1 [] [] []) t19_h N (sub [1, 1, 1] (bodyOf fn)) (finK P fn) ))
theorem t19_lp3_step (N n : Nat) (x0 : D) (x1 : Int) (v5 : Int) (v12 : Int) : t19_lp3 Tryz.prog Tryz.f19 N (n + 1) x0 x1 v5 v12 =
 bif decide (v12 < ((ownL x0 x1).length : Int)) then
  bif (decide (0 <= v12) && decide (v12 < ((ownL x0 x1).length : Int))) then
   bif (decide (0 <= (intD ((ownL x0 x1).getD (v12).toNat .nil))) && decide ((intD ((ownL x0 x1).getD (v12).toNat .nil)) < ((elemsD (fieldD x0 1)).length : Int))) then
    bif (decide (0 <= (kindI ((elemsD (fieldD x0 1)).getD (intD ((ownL x0 x1).getD (v12).toNat .nil)).toNat .nil))) && decide ((kindI ((elemsD (fieldD x0 1)).getD (intD ((ownL x0 x1).getD (v12).toNat .nil)).toNat .nil)) < (2 : Int))) then
     t19_lp3 Tryz.prog Tryz.f19 N n x0 x1 (IntKind.wrap .i64 (v5 * (([10, 3] : List Int).getD (kindI ((elemsD (fieldD x0 1)).getD (intD ((ownL x0 x1).getD (v12).toNat .nil)).toNat .nil) : Int).toNat 0))) (IntKind.wrap .i64 (v12 + 1))
    else none
   else none
  else none
 else some (dat 3 (.lit (.int .i64 v5))) := by kernel_rfl
theorem t19 (N : Nat) (x0 : D) (x1 : Int) : evFn Tryz.prog (envR A1 [] [] []) t19_h N Tryz.f19 [dat 28 x0, dat 3 (.lit (.int .i64 x1))] =
 bif decide ((qP x0).length <= 2147483647) then
  t19_lp3 Tryz.prog Tryz.f19 N N x0 x1 1 0
 else none := by kernel_rfl

/- roadbook/card.Base -/
def t12_h : Hints := fun _ =>  none
theorem t12 (N : Nat) (x0 : D) (x1 : D) (x2 : Int) : evFn Tryz.prog (envR A1 [] [] []) t12_h N Tryz.f12 [dat 24 x0, dat 28 x1, dat 3 (.lit (.int .i64 x2))] =
 bif ((!(mayQ x0 x1)) == false) then
  bif ((decide (x2 < 0)) == false) then
   bif decide (x2 >= ((elemsD (fieldD x1 0)).length : Int)) then
    some (dat 3 (.lit (.int .i64 0)))
   else bif (occMayB x0 x1 && (decide (0 <= x2) && decide (x2 < ((qOcc x1).length : Int)))) then
     some (dat 3 (.lit (.int .i64 (rowsC x0 x1 x2))))
    else none
  else some (dat 3 (.lit (.int .i64 0)))
 else some (dat 3 (.lit (.int .i64 0))) := by kernel_rfl

end X
end
section
namespace X
open Go.Ev
set_option linter.unusedVariables false
set_option maxRecDepth 10000
set_option linter.unusedSimpArgs false

theorem Times_loop {N : Nat} {x0 : D} (hl : (elemsD x0).length <= maxLen) : ∀ (n i : Nat) (v : Int), i <= (elemsD x0).length -> (elemsD x0).length - i < n ->
  t6_lp3 Tryz.prog Tryz.f6 N n x0 v (i : Int) = some (dat 3 (.lit (.int .i64 (timesL v ((elemsD x0).drop i)))))
 | 0, i, v, _, h => by omega
 | n + 1, i, v, hi, h => by
  rw [t6_lp3_step]
  by_cases hlt : i < (elemsD x0).length
  ·rw [l_idx hlt, l_lt hlt, cond_true, cond_true, Int.toNat_natCast, l_get hlt, l_wrap hl hlt, Times_loop hl n (i + 1) _ (by omega) (by omega), List.drop_eq_getElem_cons hlt]
   rfl
  ·rw [l_ge hlt, cond_false, List.drop_of_length_le (by omega)]
   rfl
def e6 : FuncId × TypeId × (List AV -> Bool) × (List AV -> Option D) := (6, 3, yes, ent [25] (f1 fun x => some (.lit (.int .i64 (timesL 1 (elemsD x))))))
theorem k6 : FnOK Tryz.prog 6 Tryz.f6 := ⟨Tryz.func6, rfl, by kernel_rfl⟩
theorem c6 : ∀ args d, e6.2.2.2 args = some d -> CallOK Tryz.prog 6 args (mkRes Tryz.prog 3 d) :=
 ent1 k6 fun x d h ⟨_, hx⟩ => by
  cases h
  rw [n27]
  refine fn_ok hm envA1 k6 ((t6 ((elemsD x).length + 1) x).trans ?_)
  rw [m3]
  have := Times_loop (N := (elemsD x).length + 1) (len27 hx) ((elemsD x).length + 1) 0 1 (Nat.zero_le _) (by omega)
  rw [List.drop_zero] at this
  exact this
theorem bases_loop {N : Nat} {c q : D} {s : Int} (ho : occMayB c q = true) : ∀ (n i : Nat) (l : List D), i <= (qOcc q).length -> (qOcc q).length - i < n -> l.length <= i ->
  t18_lp3 Tryz.prog Tryz.f18 N n c q s (i : Int) l = some (dat 25 (.slice (l ++ basesF c q s (List.range' i ((qOcc q).length - i))) []))
 | 0, i, l, _, h, _ => by omega
 | n + 1, i, l, hi, h, hle => by
  have h4 := occ_len9 ho
  rw [t18_lp3_step]
  by_cases hlt : i < (qOcc q).length
  ·have hr : (qOcc q).length - i = ((qOcc q).length - (i + 1)) + 1 := by omega
   have hw : IntKind.wrap .i64 ((i : Int) + 1) = ((i + 1 : Nat) : Int) := by rw [l_wrapI (l_in (by omega) (by omega))]; rfl
   have e1 : decide ((i : Int) < ((elemsD (fieldD q 0)).length : Int)) = true := l_lt hlt
   rw [e1, dT (show 0 <= (i : Int) by omega), cond_true, cond_true, ho, l_lt hlt, hw, hr, List.range'_succ]
   have hb : basesF c q s (i :: List.range' (i + 1) ((qOcc q).length - (i + 1))) = (bif memB s (i : Int) then [litI (rowsC c q (i : Int))] else []) ++ basesF c q s (List.range' (i + 1) ((qOcc q).length - (i + 1))) := rfl
   rw [hb]
   show (bif memB s (i : Int) then _ else _) = _
   cases hs : memB s (i : Int) with
   | true =>
    rw [cond_true]
    show (bif decide (l.length + 1 <= 2147483648) then _ else _) = _
    rw [dT (show l.length + 1 <= 2147483648 by omega), cond_true]
    show t18_lp3 Tryz.prog Tryz.f18 N n c q s ((i + 1 : Nat) : Int) (l ++ [litI (rowsC c q (i : Int))]) = _
    rw [bases_loop ho n (i + 1) _ (by omega) (by omega) (by simp; omega), List.append_assoc]
    rfl
   | false =>
    rw [cond_false, bases_loop ho n (i + 1) _ (by omega) (by omega) (by omega)]
    rfl
  ·have e1 : decide ((i : Int) < ((elemsD (fieldD q 0)).length : Int)) = false := l_ge hlt
   rw [e1, cond_false, show (qOcc q).length - i = 0 by omega]
   simp [basesF]
def e18 : FuncId × TypeId × (List AV -> Bool) × (List AV -> Option D) := (18, 25, preD (q3 fun x y _ => occMayB x y), ent [24, 28, 3] (f3 fun x y z => some (.slice (basesL x y (intD z)) [])))
theorem k18 : FnOK Tryz.prog 18 Tryz.f18 := ⟨Tryz.func18, rfl, by kernel_rfl⟩
theorem c18 : ∀ args d, e18.2.2.1 args = true -> e18.2.2.2 args = some d -> CallOK Tryz.prog 18 args (mkRes Tryz.prog 25 d) :=
 ent3p k18 fun x y z d hq h _ _ _ => by
  cases h
  rw [nCat, nQry, n3]
  have hq : occMayB x y = true := hq
  refine fn_ok hm envA1 k18 ((t18 ((qOcc y).length + 1) x y (intD z)).trans ?_)
  rw [m27]
  have := bases_loop (N := (qOcc y).length + 1) (s := intD z) hq ((qOcc y).length + 1) 0 [] (Nat.zero_le _) (by omega) (Nat.zero_le _)
  unfold basesL
  rw [List.range_eq_range']
  exact this
theorem own_at {q : D} {s : Int} {i : Nat} (h : i < (ownL q s).length) : ∃ k, k < (qP q).length /\ (ownL q s)[i] = litI (k : Int) := by
 have hm : (ownL q s)[i] ∈ ownL q s := List.getElem_mem h
 unfold ownL at hm
 obtain ⟨k, hk, hx, _⟩ := plc_mem.1 hm
 rw [Nat.zero_add] at hx
 exact ⟨k, hk, hx⟩
theorem div_loop {N : Nat} {q : D} {s : Int} (h6 : (qP q).length <= 6) : ∀ (n i v : Nat), i <= (ownL q s).length -> (ownL q s).length - i < n -> 1 <= v -> v * 10 ^ ((ownL q s).length - i) <= 1000000 ->
  t19_lp3 Tryz.prog Tryz.f19 N n q s (v : Int) (i : Int) = some (dat 3 (.lit (.int .i64 ((v * dvl (qP q) ((ownL q s).drop i) : Nat) : Int))))
 | 0, i, v, _, h, _, _ => by omega
 | n + 1, i, v, hi, h, hv, hb => by
  have hol : (ownL q s).length <= 6 := by
   unfold ownL
   rw [plc_len]
   exact Nat.le_trans List.countP_le_length h6
  rw [t19_lp3_step]
  by_cases hlt : i < (ownL q s).length
  ·obtain ⟨k, hk, hx⟩ := own_at hlt
   have hg : (ownL q s).getD i .nil = litI (k : Int) := by rw [l_get hlt, hx]
   have hki : intD (litI (k : Int)) = (k : Int) := rfl
   have b1 : (decide (0 <= (k : Int)) && decide ((k : Int) < ((elemsD (fieldD q 1)).length : Int))) = true := l_idx hk
   have hw : IntKind.wrap .i64 ((i : Int) + 1) = ((i + 1 : Nat) : Int) := by rw [l_wrapI (l_in (by omega) (by omega))]; rfl
   have hdv := dv_pos ((qP q).getD k .nil)
   have hr : (ownL q s).length - i = ((ownL q s).length - (i + 1)) + 1 := by omega
   have hp : 1 <= 10 ^ ((ownL q s).length - (i + 1)) := Nat.pos_of_ne_zero (by simp)
   have hb' : v * dv ((qP q).getD k .nil) * 10 ^ ((ownL q s).length - (i + 1)) <= 1000000 := by
    refine Nat.le_trans ?_ hb
    rw [hr, Nat.pow_succ, Nat.mul_assoc]
    refine Nat.mul_le_mul_left _ ?_
    rw [Nat.mul_comm]
    exact Nat.mul_le_mul_left _ hdv.2
   have hvb : v * dv ((qP q).getD k .nil) <= 1000000 := Nat.le_trans (Nat.le_mul_of_pos_right _ hp) hb'
   have hkv : ([10, 3] : List Int).getD (kindI ((qP q).getD k .nil)).toNat 0 = ((dv ((qP q).getD k .nil) : Nat) : Int) := by
    unfold kindI dv
    cases pairE ((qP q).getD k .nil) <;> rfl
   have hk2 : (decide (0 <= kindI ((qP q).getD k .nil)) && decide (kindI ((qP q).getD k .nil) < (2 : Int))) = true := by
    unfold kindI
    cases pairE ((qP q).getD k .nil) <;> rfl
   rw [l_idx hlt, l_lt hlt, cond_true, cond_true, Int.toNat_natCast, hg, hki, b1, cond_true, Int.toNat_natCast]
   show (bif (decide (0 <= kindI ((qP q).getD k .nil)) && decide (kindI ((qP q).getD k .nil) < (2 : Int))) then t19_lp3 Tryz.prog Tryz.f19 N n q s (IntKind.wrap .i64 ((v : Int) * (([10, 3] : List Int).getD (kindI ((qP q).getD k .nil)).toNat 0))) (IntKind.wrap .i64 ((i : Int) + 1)) else none) = _
   rw [hk2, cond_true, hkv, hw]
   have hm : ((v : Int) * ((dv ((qP q).getD k .nil) : Nat) : Int)) = ((v * dv ((qP q).getD k .nil) : Nat) : Int) := by rw [Int.natCast_mul]
   rw [hm, l_wrapI (l_in (by omega) (by omega)), div_loop h6 n (i + 1) _ (by omega) (by omega) (Nat.mul_pos hv (by omega)) hb', List.drop_eq_getElem_cons hlt, hx]
   have e2 : dvl (qP q) (litI (k : Int) :: (ownL q s).drop (i + 1)) = dv ((qP q).getD k .nil) * dvl (qP q) ((ownL q s).drop (i + 1)) := rfl
   rw [e2, Nat.mul_assoc]
  ·rw [l_ge hlt, cond_false, List.drop_of_length_le (by omega)]
   have e2 : dvl (qP q) [] = 1 := rfl
   rw [e2, Nat.mul_one]
def e19 : FuncId × TypeId × (List AV -> Bool) × (List AV -> Option D) := (19, 3, preD (q2 fun x _ => decide ((qP x).length <= 6)), ent [28, 3] (f2 fun x y => some (.lit (.int .i64 (divI x (intD y))))))
theorem k19 : FnOK Tryz.prog 19 Tryz.f19 := ⟨Tryz.func19, rfl, by kernel_rfl⟩
theorem c19 : ∀ args d, e19.2.2.1 args = true -> e19.2.2.2 args = some d -> CallOK Tryz.prog 19 args (mkRes Tryz.prog 3 d) :=
 ent2p k19 fun x y d hq h _ _ => by
  cases h
  rw [nQry, n3]
  have hq : (qP x).length <= 6 := of_decide_eq_true hq
  have hol : (ownL x (intD y)).length <= 6 := by
   unfold ownL
   rw [plc_len]
   exact Nat.le_trans List.countP_le_length hq
  refine fn_ok hm envA1 k19 ((t19 ((ownL x (intD y)).length + 1) x (intD y)).trans ?_)
  rw [m3, dT (show (qP x).length <= 2147483647 by omega), cond_true]
  have := div_loop (N := (ownL x (intD y)).length + 1) (s := intD y) hq ((ownL x (intD y)).length + 1) 0 1 (Nat.zero_le _) (by omega) (Nat.le_refl _) (by
   rw [Nat.one_mul, Nat.sub_zero]
   exact Nat.le_trans (Nat.pow_le_pow_right (by omega) hol) (by decide))
  rw [List.drop_zero, Nat.one_mul] at this
  unfold divI
  rw [<- dvl_own]
  exact this
def e12 : FuncId × TypeId × (List AV -> Bool) × (List AV -> Option D) := (12, 3, yes, ent [24, 28, 3] (f3 fun x y z => some (.lit (.int .i64 (baseI x y (intD z))))))
theorem k12 : FnOK Tryz.prog 12 Tryz.f12 := ⟨Tryz.func12, rfl, by kernel_rfl⟩
theorem c12 : ∀ args d, e12.2.2.2 args = some d -> CallOK Tryz.prog 12 args (mkRes Tryz.prog 3 d) :=
 ent3 k12 fun x y z d h _ _ _ => by
  cases h
  rw [nCat, nQry, n3]
  refine fn_ok hm envA1 k12 ((t12 1 x y (intD z)).trans ?_)
  rw [m3]
  unfold baseI
  cases hm : mayQ x y with
  | false => rfl
  | true =>
   obtain ⟨_, ho, _, _⟩ := mayQ_parts hm
   by_cases h0 : intD z < 0
   ·rw [dT h0, dF (show ¬ 0 <= intD z by omega)]; rfl
   ·rw [dF h0, dT (show 0 <= intD z by omega), ho]
    by_cases h1 : intD z < ((qOcc y).length : Int)
    ·have e1 : decide (intD z >= ((elemsD (fieldD y 0)).length : Int)) = false := dF (show ¬ intD z >= ((qOcc y).length : Int) by omega)
     rw [e1, dT h1]; rfl
    ·have e1 : decide (intD z >= ((elemsD (fieldD y 0)).length : Int)) = true := dT (show intD z >= ((qOcc y).length : Int) by omega)
     rw [e1, dF h1]; rfl
def A2 : Tab := e12 :: e19 :: e18 :: e6 :: A1
theorem envA2 : EnvOK Tryz.prog (envH A2 []) := envOK_cons (envOK_cons' (envOK_cons' (envOK_cons envA1 c6) c18) c19) c12

end X
end
section
namespace X
open Go.Ev
set_option linter.unusedVariables false
/- roadbook/card.Rows -/
def t8_h : Hints := fun _ =>  none
theorem t8 (N : Nat) (x0 : D) (x1 : D) (x2 : Int) : evFn Tryz.prog (envR A2 [] [] []) t8_h N Tryz.f8 [dat 24 x0, dat 28 x1, dat 3 (.lit (.int .i64 x2))] =
 bif (!(mayQ x0 x1)) then
  some (dat 3 (.lit (.int .i64 0)))
 else bif occMayB x0 x1 then
   bif decide ((qP x1).length <= 6) then
    bif (!((divI x1 x2) == 0)) then
     some (dat 3 (.lit (.int .i64 (maxI 1 (IntKind.wrap .i64 (Int.tdiv (timesL 1 (basesL x0 x1 x2)) (divI x1 x2)))))))
    else none
   else none
  else none := by kernel_rfl

end X
end
section
namespace X
open Go.Ev
set_option linter.unusedVariables false
set_option maxRecDepth 10000
set_option linter.unusedSimpArgs false

def e8 : FuncId × TypeId × (List AV -> Bool) × (List AV -> Option D) := (8, 3, yes, ent [24, 28, 3] (f3 fun x y z => some (.lit (.int .i64 (rowsI x y (intD z))))))
theorem k8 : FnOK Tryz.prog 8 Tryz.f8 := ⟨Tryz.func8, rfl, by kernel_rfl⟩
theorem c8 : ∀ args d, e8.2.2.2 args = some d -> CallOK Tryz.prog 8 args (mkRes Tryz.prog 3 d) :=
 ent3 k8 fun x y z d h _ _ _ => by
  cases h
  rw [nCat, nQry, n3]
  refine fn_ok hm envA2 k8 ((t8 1 x y (intD z)).trans ?_)
  rw [m3]
  unfold rowsI
  cases hm : mayQ x y with
  | false => rfl
  | true =>
   obtain ⟨_, ho, h6, _⟩ := mayQ_parts hm
   have hd := divN_pos (intD z) (qP y)
   have e1 : (!((divI y (intD z)) == 0)) = true := by
    unfold divI
    rw [Bool.not_eq_true', beq_eq_false_iff_ne]
    omega
   rw [show (!true) = false from rfl, cond_false, ho, cond_true, dT h6, cond_true, e1, cond_true, rows_eq]
   rfl
def A3 : Tab := e8 :: A2
theorem envA3 : EnvOK Tryz.prog (envH A3 []) := envOK_cons envA2 c8

end X
end
section
namespace X
open Go.Ev
set_option linter.unusedVariables false
/- roadbook/card.Groups -/
def t10_h : Hints := fun _ =>  none
theorem t10 (N : Nat) (x0 : D) (x1 : D) : evFn Tryz.prog (envR A3 [] [] []) t10_h N Tryz.f10 [dat 24 x0, dat 28 x1] =
 bif (!(mayQ x0 x1)) then
  some (dat 3 (.lit (.int .i64 0)))
 else some (dat 3 (.lit (.int .i64 (maxI 1 (IntKind.wrap .i64 (Int.tdiv (rowsI x0 x1 15) 5)))))) := by kernel_rfl

end X
end
section
namespace X
open Go.Ev
set_option linter.unusedVariables false
set_option maxRecDepth 10000
set_option linter.unusedSimpArgs false

def e10 : FuncId × TypeId × (List AV -> Bool) × (List AV -> Option D) := (10, 3, yes, ent [24, 28] (f2 fun x y => some (.lit (.int .i64 (groupsI x y)))))
theorem k10 : FnOK Tryz.prog 10 Tryz.f10 := ⟨Tryz.func10, rfl, by kernel_rfl⟩
theorem c10 : ∀ args d, e10.2.2.2 args = some d -> CallOK Tryz.prog 10 args (mkRes Tryz.prog 3 d) :=
 ent2 k10 fun x y d h _ _ => by
  cases h
  rw [nCat, nQry]
  refine fn_ok hm envA3 k10 ((t10 1 x y).trans ?_)
  rw [m3]
  unfold groupsI
  cases hm : mayQ x y with
  | false => rfl
  | true =>
   rw [show (!true) = false from rfl, cond_false, cgroups_eq hm]
   rfl
def A4 : Tab := e10 :: A3
theorem envA4 : EnvOK Tryz.prog (envH A4 []) := envOK_cons envA3 c10

end X
end
section
namespace X
open Go.Ev
set_option linter.unusedVariables false
/- roadbook/roadbooklaw09.awake -/
def t4_h : Hints := fun _ =>  none
theorem t4 (N : Nat)  : evFn Tryz.prog (envR A4 [] [] []) t4_h N Tryz.f4 [] =
 bif (((rowsI catTwo (.agg [.slice [.lit (.int .i64 0), .lit (.int .i64 1)] [], .slice [.agg [.lit (.int .i64 6), .lit (.int .i64 0), .agg [.lit (.int .i64 0), .lit (.int .i64 0)], .slice [.agg [.lit (.int .i64 1), .lit (.int .i64 0), .agg [.lit (.int .i64 0), .lit (.int .i64 0)], .slice [] []], .agg [.lit (.int .i64 1), .lit (.int .i64 4), .agg [.lit (.int .i64 0), .lit (.int .i64 0)], .slice [] []]] []]] [], .lit (.int .i64 (-1)), .slice [] [], .slice [.lit (.int .i64 0)] [], .lit (.int .i64 (-1))]) 3) == 100) == true) then
  bif (((rowsI catTwo (.agg [.slice [.lit (.int .i64 0), .lit (.int .i64 1)] [], .slice [.agg [.lit (.int .i64 6), .lit (.int .i64 0), .agg [.lit (.int .i64 0), .lit (.int .i64 0)], .slice [.agg [.lit (.int .i64 1), .lit (.int .i64 0), .agg [.lit (.int .i64 0), .lit (.int .i64 0)], .slice [] []], .agg [.lit (.int .i64 1), .lit (.int .i64 4), .agg [.lit (.int .i64 0), .lit (.int .i64 0)], .slice [] []]] []]] [], .lit (.int .i64 (-1)), .slice [] [], .slice [.lit (.int .i64 0)] [], .lit (.int .i64 (-1))]) 1) == 100) == true) then
   bif (((groupsI catTwo (.agg [.slice [.lit (.int .i64 0), .lit (.int .i64 1)] [], .slice [.agg [.lit (.int .i64 6), .lit (.int .i64 0), .agg [.lit (.int .i64 0), .lit (.int .i64 0)], .slice [.agg [.lit (.int .i64 1), .lit (.int .i64 0), .agg [.lit (.int .i64 0), .lit (.int .i64 0)], .slice [] []], .agg [.lit (.int .i64 1), .lit (.int .i64 4), .agg [.lit (.int .i64 0), .lit (.int .i64 0)], .slice [] []]] []]] [], .lit (.int .i64 (-1)), .slice [] [], .slice [.lit (.int .i64 0)] [], .lit (.int .i64 (-1))])) == 20) == true) then
    bif (((timesL 1 [.lit (.int .i64 6), .lit (.int .i64 7)]) == 42) == true) then
     some (dat 4 (.lit (.bool ((baseI catTwo (.agg [.slice [.lit (.int .i64 0), .lit (.int .i64 1)] [], .slice [.agg [.lit (.int .i64 6), .lit (.int .i64 0), .agg [.lit (.int .i64 0), .lit (.int .i64 0)], .slice [.agg [.lit (.int .i64 1), .lit (.int .i64 0), .agg [.lit (.int .i64 0), .lit (.int .i64 0)], .slice [] []], .agg [.lit (.int .i64 1), .lit (.int .i64 4), .agg [.lit (.int .i64 0), .lit (.int .i64 0)], .slice [] []]] []]] [], .lit (.int .i64 (-1)), .slice [] [], .slice [.lit (.int .i64 0)] [], .lit (.int .i64 (-1))]) 1) == 10))))
    else some (dat 4 (.lit (.bool false)))
   else some (dat 4 (.lit (.bool false)))
  else some (dat 4 (.lit (.bool false)))
 else some (dat 4 (.lit (.bool false))) := by kernel_rfl

end X
end
section
namespace X
open Go.Ev
set_option linter.unusedVariables false
set_option maxRecDepth 10000
set_option linter.unusedSimpArgs false

def e4 : FuncId × TypeId × (List AV -> Bool) × (List AV -> Option D) := (4, 4, yes, ent [] (f0 (some (.lit (.bool true)))))
theorem k4 : FnOK Tryz.prog 4 Tryz.f4 := ⟨Tryz.func4, rfl, by kernel_rfl⟩
theorem c4 : ∀ args d, e4.2.2.2 args = some d -> CallOK Tryz.prog 4 args (mkRes Tryz.prog 4 d) :=
 ent0 fun d h => by
  cases h
  refine fn_ok hm envA4 k4 ((t4 1).trans ?_)
  rw [m4]
  show (bif ((rowsI catTwo exQ 3) == 100) == true then (bif ((rowsI catTwo exQ 1) == 100) == true then (bif ((groupsI catTwo exQ) == 20) == true then (bif ((timesL 1 [litI 6, litI 7]) == 42) == true then some (dat 4 (.lit (.bool ((baseI catTwo exQ 1) == 10)))) else some (dat 4 (.lit (.bool false)))) else some (dat 4 (.lit (.bool false)))) else some (dat 4 (.lit (.bool false)))) else some (dat 4 (.lit (.bool false)))) = _
  rw [exQ_rows3, exQ_rows1, exQ_groups, ex_times, exQ_base]
  rfl
def A5 : Tab := e4 :: A4
theorem envA5 : EnvOK Tryz.prog (envH A5 []) := envOK_cons envA4 c4
theorem law_ok {f : FuncId} {fn : Func} {args : List AV} {env : Env} {hh : Hints} {N : Nat} (henv : EnvOK Tryz.prog env) (k : FnOK Tryz.prog f fn) (h : evFn Tryz.prog env hh N fn args = some (dat 4 (.lit (.bool true)))) : CallOK Tryz.prog f args (dat 4 (.lit (.bool true))) := by
 have h2 : evFn Tryz.prog env hh N fn args = some (mkRes Tryz.prog 4 (.lit (.bool true))) := by rw [h, m4]; rfl
 have h3 := fn_ok hm henv k h2
 rw [m4] at h3
 exact h3

end X
end
section
namespace X
open Go.Ev
set_option linter.unusedVariables false
theorem may_cat {c q : D} (h : mayQ c q = true) : mayCat c = true /\ occMayB c q = true /\ exprMayB c q = true /\ endB c q = true := by
 unfold mayQ at h
 simpa only [Bool.and_eq_true] using h
theorem occ_len {c q : D} (h : occMayB c q = true) : 1 <= (qOcc q).length /\ (qOcc q).length <= 4 := by
 unfold occMayB at h
 simp only [Bool.and_eq_true, decide_eq_true_eq] at h
 exact h.1
theorem tab_in {c q : D} (h1 : mayCat c = true) (h2 : occMayB c q = true) {i : Nat} (hi : i < (qOcc q).length) : 1 <= tabC c q (i : Int) /\ tabC c q (i : Int) <= 4 := by
 have hb := occ_below h2 hi
 obtain ⟨_, _, h3⟩ := mayCat_iff.1 h1
 unfold tabC
 rw [Int.toNat_natCast]
 have hlt : (intD ((qOcc q).getD i .nil)).toNat < (tabs c).length := by omega
 rw [l_get hlt]
 have := mayDef_iff.1 (h3 _ (List.getElem_mem hlt))
 omega
abbrev QA : Tab := A5
theorem envQA : EnvOK Tryz.prog (envH QA []) := envA5
end X
end
end Go.Proofs.YtanjicjomcocmaaGreatDoor
