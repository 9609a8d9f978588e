/- Trees of functions, and lemmas. Nothing here is trusted. -/
import Derived.Test.YtanjicjomcocmaaDoorZ27
import Derived.Test.YtanjicjomcocmaaDoorZ23
namespace Go.Proofs.YtanjicjomcocmaaDoor
section
namespace X
open Go.Ev
set_option linter.unusedVariables false
/- roadbook/query.expressionsMay -/
def t21_h : Hints := fun i => if i = 4 then some ([0, 1, 4, 5, 6, 7, 8, 9, 10, 11, 12, 16, 17, 18, 19, 20, 21, 22, 23, 24, 25, 26, 27, 28, 29, 30, 31], [2, 3], []) else none
def t21_lp4 (P : Program) (fn : Func) (N n : Nat) (x0 : D) (x1 : D) (v15 : Int) : Option AV := evLoop (preL t21_h (sub [1, 1, 0, 1, 0, 0] (bodyOf fn))) (evCode P (envR Q4 [] [] []) t21_h N (sub [1, 1, 0, 1, 0, 0] (bodyOf fn))) n ⟨[dead, dead, bxp 2 28, bxp 3 31, dead, dead, dead, dead, dead, dead, dead, dead, dead, dat 29 (fieldD x1 1), dat 3 (.lit (.int .i64 ((elemsD (fieldD x1 1)).length : Int))), dat 3 (.lit (.int .i64 v15)), dead, dead, dead, dead, dead, dead, dead, dead, dead, dead, dead, dead, dead, dead, dead, dead], lookB [(2, some ⟨28, x0, 0, none⟩), (3, some ⟨31, x1, 0, none⟩)]⟩ (blockK 0 (seqC P (envR Q4 [] [] []) t21_h N (sub [1, 1, 1] (bodyOf fn)) (finK P fn) ))
theorem t21_lp4_step (N n : Nat) (x0 : D) (x1 : D) (v15 : Int) : t21_lp4 Tryd.prog Tryd.f21 N (n + 1) x0 x1 v15 =
 bif decide (v15 < ((elemsD (fieldD x1 1)).length : Int)) then
  bif (decide (0 <= v15) && decide (v15 < ((elemsD (fieldD x1 1)).length : Int))) then
   bif ((((colsE ((elemsD (fieldD x1 1)).getD (v15).toNat .nil)).length : Int) == 0) == false) then
    bif occMayB x0 x1 then
     bif (!(areColB x0 x1 (colsE ((elemsD (fieldD x1 1)).getD (v15).toNat .nil)))) then
      some (dat 4 (.lit (.bool false)))
     else t21_lp4 Tryd.prog Tryd.f21 N n x0 x1 (IntKind.wrap .i64 (v15 + 1))
    else none
   else some (dat 4 (.lit (.bool false)))
  else none
 else some (dat 4 (.lit (.bool true))) := by kernel_rfl
theorem t21 (N : Nat) (x0 : D) (x1 : D) : evFn Tryd.prog (envR Q4 [] [] []) t21_h N Tryd.f21 [dat 28 x0, dat 31 x1] =
 bif decide (((elemsD (fieldD x1 1)).length : Int) > 6) then
  some (dat 4 (.lit (.bool false)))
 else t21_lp4 Tryd.prog Tryd.f21 N N x0 x1 0 := by kernel_rfl

/- roadbook/query.toldMay -/
def t33_h : Hints := fun i => if i = 4 then some ([0, 1, 2, 4, 5, 6, 7, 8, 9, 10, 11, 12, 13, 14, 15, 16, 17, 18, 19, 20, 21, 22, 23, 24, 25, 26, 27, 28, 29, 30, 31, 35, 36, 37, 38, 39, 40, 41, 42, 43, 44, 45, 46, 47, 48, 49, 50, 51, 52, 53, 54, 55], [3], []) else none
def t33_lp4 (P : Program) (fn : Func) (N n : Nat) (x0 : D) (x1 : D) (v34 : Int) : Option AV := evLoop (preL t33_h (sub [1, 1, 0, 1, 0, 0] (bodyOf fn))) (evCode P (envR Q4 [] [] []) t33_h N (sub [1, 1, 0, 1, 0, 0] (bodyOf fn))) n ⟨[dead, dead, dead, bxp 3 31, dead, dead, dead, dead, dead, dead, dead, dead, dead, dead, dead, dead, dead, dead, dead, dead, dead, dead, dead, dead, dead, dead, dead, dead, dead, dead, dead, dead, dat 22 (fieldD x1 4), dat 3 (.lit (.int .i64 ((elemsD (fieldD x1 4)).length : Int))), dat 3 (.lit (.int .i64 v34)), dead, dead, dead, dead, dead, dead, dead, dead, dead, dead, dead, dead, dead, dead, dead, dead, dead, dead, dead, dead, dead], lookB [(3, some ⟨31, x1, 0, none⟩)]⟩ (blockK 0 (seqC P (envR Q4 [] [] []) t33_h N (sub [1, 1, 1] (bodyOf fn)) (finK P fn) ))
theorem t33_lp4_step (N n : Nat) (x0 : D) (x1 : D) (v34 : Int) : t33_lp4 Tryd.prog Tryd.f33 N (n + 1) x0 x1 v34 =
 bif decide (v34 < ((elemsD (fieldD x1 4)).length : Int)) then
  bif (decide (0 <= v34) && decide (v34 < ((elemsD (fieldD x1 4)).length : Int))) then
   bif (decide (0 <= (0 : Int)) && decide ((0 : Int) <= v34) && decide (v34 <= ((elemsD (fieldD x1 4)).length : Int))) then
    bif hasB (((elemsD (fieldD x1 4)).drop ((0 : Int) : Int).toNat).take (v34 - (0 : Int)).toNat) (intD ((elemsD (fieldD x1 4)).getD (v34).toNat .nil)) then
     some (dat 4 (.lit (.bool false)))
    else t33_lp4 Tryd.prog Tryd.f33 N n x0 x1 (IntKind.wrap .i64 (v34 + 1))
   else none
  else none
 else bif (((intD (fieldD x1 5)) == (-1)) == false) then
   some (dat 4 (.lit (.bool (hasB (elemsD (fieldD x1 4)) (intD (fieldD x1 5))))))
  else some (dat 4 (.lit (.bool true))) := by kernel_rfl
theorem t33 (N : Nat) (x0 : D) (x1 : D) : evFn Tryd.prog (envR Q4 [] [] []) t33_h N Tryd.f33 [dat 28 x0, dat 31 x1] =
 bif ((decide (((elemsD (fieldD x1 3)).length : Int) > 0)) == false) then
  bif ((decide (((elemsD (fieldD x1 4)).length : Int) < 1)) == false) then
   bif ((decide (((elemsD (fieldD x1 4)).length : Int) > 8)) == false) then
    bif occMayB x0 x1 then
     bif (!(areColB x0 x1 (elemsD (fieldD x1 4)))) then
      some (dat 4 (.lit (.bool false)))
     else t33_lp4 Tryd.prog Tryd.f33 N N x0 x1 0
    else none
   else some (dat 4 (.lit (.bool false)))
  else some (dat 4 (.lit (.bool false)))
 else some (dat 4 (.lit (.bool false))) := by kernel_rfl

/- roadbook/query.groupsMay -/
def t34_h : Hints := fun _ =>  none
theorem t34 (N : Nat) (x0 : D) (x1 : D) : evFn Tryd.prog (envR Q4 [] [] []) t34_h N Tryd.f34 [dat 28 x0, dat 31 x1] =
 bif occMayB x0 x1 then
  bif ((!(isColB x0 x1 (intD (fieldD x1 2)))) == false) then
   bif ((decide (((elemsD (fieldD x1 3)).length : Int) > 4)) == false) then
    bif occMayB x0 x1 then
     bif ((!(areColB x0 x1 (elemsD (fieldD x1 3)))) == false) then
      bif decide (((elemsD (fieldD x1 4)).length : Int) > 0) then
       some (dat 4 (.lit (.bool false)))
      else bif (((intD (fieldD x1 5)) == (-1)) == false) then
        some (dat 4 (.lit (.bool ((intD (fieldD x1 5)) == (intD (fieldD x1 2))))))
       else some (dat 4 (.lit (.bool true)))
     else some (dat 4 (.lit (.bool false)))
    else none
   else some (dat 4 (.lit (.bool false)))
  else some (dat 4 (.lit (.bool false)))
 else none := by kernel_rfl

/- roadbook/query.places -/
def t25_b_h : Hints := fun i => if i = 3 then some ([0, 2, 3, 4, 6, 7, 8, 12, 13, 14, 15, 16, 17, 18, 19, 20, 21, 22, 23, 24, 25], [5], []) else none
def t25_b_lp3 (P : Program) (fn : Func) (N n : Nat) (x0 : D) (s : Int) (v11 : Int) (b5 : List D) : Option AV := evLoop (preL t25_b_h (sub [1, 1, 0, 1, 0, 0] (bodyOf fn))) (evCode P (envR Q4 [] [] []) t25_b_h N (sub [1, 1, 0, 1, 0, 0] (bodyOf fn))) n ⟨[dead, dat 56 (bndD 26 3 (.lit (.int .i64 s))), dead, dead, dead, bxp 5 22, dead, dead, dead, dat 29 (fieldD x0 1), dat 3 (.lit (.int .i64 ((elemsD (fieldD x0 1)).length : Int))), dat 3 (.lit (.int .i64 v11)), dead, dead, dead, dead, dead, dead, dead, dead, dead, dead, dead, dead, dead, dead], lookB [(5, some ⟨22, .slice b5 [], 1, none⟩)]⟩ (blockK 0 (seqC P (envR Q4 [] [] []) t25_b_h N (sub [1, 1, 1] (bodyOf fn)) (finK P fn) ))
theorem t25_b_lp3_step (N n : Nat) (x0 : D) (s : Int) (v11 : Int) (b5 : List D) : t25_b_lp3 Tryd.prog Tryd.f25 N (n + 1) x0 s v11 b5 =
 bif decide (v11 < ((elemsD (fieldD x0 1)).length : Int)) then
  bif (decide (0 <= v11) && decide (v11 < ((elemsD (fieldD x0 1)).length : Int))) then
   bif hasS s (ofE ((elemsD (fieldD x0 1)).getD (v11).toNat .nil)) then
    bif decide ((b5).length + 1 <= 2147483648) then
     t25_b_lp3 Tryd.prog Tryd.f25 N n x0 s (IntKind.wrap .i64 (v11 + 1)) (b5 ++ [.lit (.int .i64 v11)])
    else none
   else t25_b_lp3 Tryd.prog Tryd.f25 N n x0 s (IntKind.wrap .i64 (v11 + 1)) b5
  else none
 else some (dat 22 (.slice b5 [])) := by kernel_rfl
theorem t25_b (N : Nat) (x0 : D) (s : Int) : evFn Tryd.prog (envR Q4 [] [] []) t25_b_h N Tryd.f25 [dat 31 x0, dat 56 (bndD 26 3 (.lit (.int .i64 s)))] =
 t25_b_lp3 Tryd.prog Tryd.f25 N N x0 s 0 [] := by kernel_rfl

end X
end
section
namespace X
open Go.Ev
set_option linter.unusedVariables false
set_option maxRecDepth 10000
set_option linter.unusedSimpArgs false

def e21 : FuncId × TypeId × (List AV -> Bool) × (List AV -> Option D) := (21, 4, preD (q2 fun x y => occMayB x y), ent [28, 31] (f2 fun x y => some (.lit (.bool (exprMayB x y)))))
theorem k21 : FnOK Tryd.prog 21 Tryd.f21 := ⟨Tryd.func21, rfl, by kernel_rfl⟩
theorem c21 : ∀ args d, e21.2.2.1 args = true -> e21.2.2.2 args = some d -> CallOK Tryd.prog 21 args (mkRes Tryd.prog 4 d) :=
 ent2p k21 fun x y d hq h _ ⟨_, hy⟩ => by
  cases h
  rw [nCat, nQry]
  have hl : (elemsD (fieldD y 1)).length <= maxLen := (tyQ hy).p
  have hq : occMayB x y = true := hq
  refine fn_ok hm envQ4 k21 ((t21 ((elemsD (fieldD y 1)).length + 1) x y).trans ?_)
  have lp : t21_lp4 Tryd.prog Tryd.f21 ((elemsD (fieldD y 1)).length + 1) ((elemsD (fieldD y 1)).length + 1) x y 0 = some (dat 4 (.lit (.bool ((elemsD (fieldD y 1)).all (exprB x y))))) := by
   have := l_loop (fun n v => t21_lp4 Tryd.prog Tryd.f21 ((elemsD (fieldD y 1)).length + 1) n x y v) (elemsD (fieldD y 1)).length (fun i => !exprB x y ((elemsD (fieldD y 1)).getD i .nil)) (some (dat 4 (.lit (.bool false)))) (some (dat 4 (.lit (.bool true))))
    (fun n i hi => by
     rw [t21_lp4_step, l_idx hi, l_lt hi, cond_true, cond_true, Int.toNat_natCast, l_wrap hl hi, hq, natEq0, cond_true]
     unfold exprB
     generalize t21_lp4 Tryd.prog Tryd.f21 ((elemsD (fieldD y 1)).length + 1) n x y ((i + 1 : Nat) : Int) = W
     cases (colsE ((elemsD (fieldD y 1)).getD i .nil)).isEmpty <;> cases areColB x y (colsE ((elemsD (fieldD y 1)).getD i .nil)) <;> rfl)
    (fun n => by rw [t21_lp4_step, l_ge (by omega), cond_false]) ((elemsD (fieldD y 1)).length + 1) 0 (Nat.zero_le _) (by omega)
   refine this.trans ?_
   rw [Nat.sub_zero, l_any0 (elemsD (fieldD y 1)) (fun o => !exprB x y o), any_not]
   cases (elemsD (fieldD y 1)).all (exprB x y) <;> rfl
  rw [m4, lp]
  show _ = some (dat 4 (.lit (.bool (exprMayB x y))))
  unfold exprMayB qP
  rw [show decide (((elemsD (fieldD y 1)).length : Int) > 6) = _ from natGt 6]
  cases decide ((elemsD (fieldD y 1)).length <= 6) <;> rfl
def e33 : FuncId × TypeId × (List AV -> Bool) × (List AV -> Option D) := (33, 4, preD (q2 fun x y => occMayB x y), ent [28, 31] (f2 fun x y => some (.lit (.bool (toldB x y)))))
theorem k33 : FnOK Tryd.prog 33 Tryd.f33 := ⟨Tryd.func33, rfl, by kernel_rfl⟩
theorem c33 : ∀ args d, e33.2.2.1 args = true -> e33.2.2.2 args = some d -> CallOK Tryd.prog 33 args (mkRes Tryd.prog 4 d) :=
 ent2p k33 fun x y d hq h _ ⟨_, hy⟩ => by
  cases h
  rw [nCat, nQry]
  have hl : (elemsD (fieldD y 4)).length <= maxLen := (tyQ hy).out
  have hq : occMayB x y = true := hq
  refine fn_ok hm envQ4 k33 ((t33 ((elemsD (fieldD y 4)).length + 1) x y).trans ?_)
  have lp : t33_lp4 Tryd.prog Tryd.f33 ((elemsD (fieldD y 4)).length + 1) ((elemsD (fieldD y 4)).length + 1) x y 0 = some (dat 4 (.lit (.bool (!dupB (elemsD (fieldD y 4)) && (intD (fieldD y 5) == -1 || hasB (elemsD (fieldD y 4)) (intD (fieldD y 5))))))) := by
   have := l_loop (fun n v => t33_lp4 Tryd.prog Tryd.f33 ((elemsD (fieldD y 4)).length + 1) n x y v) (elemsD (fieldD y 4)).length (fun i => hasB ((elemsD (fieldD y 4)).take i) (intD ((elemsD (fieldD y 4)).getD i .nil))) (some (dat 4 (.lit (.bool false)))) (some (dat 4 (.lit (.bool (intD (fieldD y 5) == -1 || hasB (elemsD (fieldD y 4)) (intD (fieldD y 5)))))))
    (fun n i hi => by
     have ht : (decide (0 <= (0 : Int)) && decide ((0 : Int) <= (i : Int)) && decide ((i : Int) <= ((elemsD (fieldD y 4)).length : Int))) = true := by
      simp only [Bool.and_eq_true, decide_eq_true_eq]
      omega
     rw [t33_lp4_step, l_idx hi, l_lt hi, cond_true, cond_true, ht, cond_true, Int.sub_zero, Int.toNat_natCast, l_wrap hl hi, show ((0 : Int)).toNat = 0 from rfl, List.drop_zero])
    (fun n => by
     rw [t33_lp4_step, l_ge (by omega), cond_false]
     cases (intD (fieldD y 5) == -1) <;> rfl) ((elemsD (fieldD y 4)).length + 1) 0 (Nat.zero_le _) (by omega)
   refine this.trans ?_
   unfold dupB
   rw [Nat.sub_zero]
   cases (List.range' 0 (elemsD (fieldD y 4)).length).any fun i => hasB ((elemsD (fieldD y 4)).take i) (intD ((elemsD (fieldD y 4)).getD i .nil)) <;> rfl
  rw [m4, lp, hq]
  show _ = some (dat 4 (.lit (.bool (toldB x y))))
  unfold toldB qSums qOut qOrd
  rw [natGt0, show decide (((elemsD (fieldD y 4)).length : Int) < 1) = _ from natLt 1, show decide (((elemsD (fieldD y 4)).length : Int) > 8) = _ from natGt 8]
  generalize (!dupB (elemsD (fieldD y 4)) && (intD (fieldD y 5) == -1 || hasB (elemsD (fieldD y 4)) (intD (fieldD y 5)))) = W
  cases (elemsD (fieldD y 3)).isEmpty <;> cases decide (1 <= (elemsD (fieldD y 4)).length) <;> cases decide ((elemsD (fieldD y 4)).length <= 8) <;> cases areColB x y (elemsD (fieldD y 4)) <;> rfl
def e34 : FuncId × TypeId × (List AV -> Bool) × (List AV -> Option D) := (34, 4, preD (q2 fun x y => occMayB x y), ent [28, 31] (f2 fun x y => some (.lit (.bool (groupsB x y)))))
theorem k34 : FnOK Tryd.prog 34 Tryd.f34 := ⟨Tryd.func34, rfl, by kernel_rfl⟩
theorem c34 : ∀ args d, e34.2.2.1 args = true -> e34.2.2.2 args = some d -> CallOK Tryd.prog 34 args (mkRes Tryd.prog 4 d) :=
 ent2p k34 fun x y d hq h _ _ => by
  cases h
  rw [nCat, nQry]
  have hq : occMayB x y = true := hq
  refine fn_ok hm envQ4 k34 ((t34 1 x y).trans ?_)
  rw [m4, hq]
  show _ = some (dat 4 (.lit (.bool (groupsB x y))))
  unfold groupsB qSums qOut qOrd qBy
  rw [natGt0, show decide (((elemsD (fieldD y 3)).length : Int) > 4) = _ from natGt 4]
  cases isColB x y (intD (fieldD y 2)) <;> cases decide ((elemsD (fieldD y 3)).length <= 4) <;> cases areColB x y (elemsD (fieldD y 3)) <;> cases (elemsD (fieldD y 4)).isEmpty <;> cases (intD (fieldD y 5) == -1) <;> rfl

/-! ### A function that looks at three sets -/
theorem uAsk : ∃ p q r, Tryd.prog.underlying 56 = some (.func p q r) := ⟨_, _, _, Tryd.underlying56⟩
theorem tyAsk {n : Nat} {x : D} (h : Ty Tryd.prog n 56 x) (hb : bndIs 26 3 x = true) : ∃ z, x = bndD 26 3 (litI z) := by
 obtain ⟨p, q, r, hu⟩ := uAsk
 obtain ⟨m, y, rfl, hy⟩ := ty_bnd hu h hb
 obtain ⟨z, rfl, _⟩ := ty3' hy
 exact ⟨z, rfl⟩
def setOf (x : D) : Int := intD (bndArg x)
def isAsk (x : D) : Bool := bndIs 26 3 x
def askB (a b c s : Int) : Bool := hasS a s && !hasS b s && !hasS c s
/-! ### Places -/
theorem plb_loop {N : Nat} {q : D} {s : Int} (hl : (elemsD (fieldD q 1)).length <= 2147483647) : ∀ (n i : Nat) (l : List D), i <= (elemsD (fieldD q 1)).length -> (elemsD (fieldD q 1)).length - i < n -> l.length <= i ->
  t25_b_lp3 Tryd.prog Tryd.f25 N n q s (i : Int) l = some (dat 22 (.slice (l ++ plc (fun e => hasS s (ofE e)) ((elemsD (fieldD q 1)).drop i) i) []))
 | 0, i, l, _, h, _ => by omega
 | n + 1, i, l, hi, h, hle => by
  rw [t25_b_lp3_step]
  by_cases hlt : i < (elemsD (fieldD q 1)).length
  ·rw [l_idx hlt, l_lt hlt, cond_true, cond_true, Int.toNat_natCast, l_get hlt, l_wrap (Nat.le_trans hl (by unfold maxLen; omega)) hlt, List.drop_eq_getElem_cons hlt, plc_cons]
   cases hf : hasS s (ofE (elemsD (fieldD q 1))[i]) with
   | true =>
    rw [cond_true, dT (show l.length + 1 <= 2147483648 by omega), cond_true, plb_loop hl n (i + 1) _ (by omega) (by omega) (by simp; omega), List.append_assoc]
    rfl
   | false =>
    rw [cond_false, plb_loop hl n (i + 1) _ (by omega) (by omega) (by omega)]
    rfl
  ·rw [l_ge hlt, cond_false, List.drop_of_length_le (by omega)]
   simp [plc]
def plbF (x y : D) : Option D := bif isAsk y then some (.slice (plc (fun e => hasS (setOf y) (ofE e)) (qP x) 0) []) else none
def e25 : FuncId × TypeId × (List AV -> Bool) × (List AV -> Option D) := (25, 22, preD (q2 fun x _ => decide ((qP x).length <= 2147483647)), ent [31, 56] (f2 plbF))
theorem k25 : FnOK Tryd.prog 25 Tryd.f25 := ⟨Tryd.func25, rfl, by kernel_rfl⟩
theorem c25 : ∀ args d, e25.2.2.1 args = true -> e25.2.2.2 args = some d -> CallOK Tryd.prog 25 args (mkRes Tryd.prog 22 d) :=
 ent2p k25 fun x y d hq h ⟨_, hx⟩ ⟨_, hy⟩ => by
  unfold plbF at h
  cases hb : isAsk y with
  | false => rw [hb, cond_false] at h; cases h
  | true =>
   rw [hb, cond_true] at h
   cases h
   rw [nQry, nAsk]
   obtain ⟨s, rfl⟩ := tyAsk hy hb
   have hl : (elemsD (fieldD x 1)).length <= 2147483647 := of_decide_eq_true hq
   refine fn_ok hm envQ4 k25 ((t25_b ((elemsD (fieldD x 1)).length + 1) x s).trans ?_)
   rw [m27]
   exact (plb_loop hl _ 0 [] (Nat.zero_le _) (by omega) (by simp))
def Q5 : Tab := e25 :: e34 :: e33 :: e21 :: Q4
theorem envQ5 : EnvOK Tryd.prog (envH Q5 []) := envOK_cons' (envOK_cons' (envOK_cons' (envOK_cons' envQ4 c21) c33) c34) c25

end X
end
section
namespace X
open Go.Ev
set_option linter.unusedVariables false
/- roadbook/query.endMay -/
def t22_h : Hints := fun _ =>  none
theorem t22 (N : Nat) (x0 : D) (x1 : D) : evFn Tryd.prog (envR Q5 [] [] []) t22_h N Tryd.f22 [dat 28 x0, dat 31 x1] =
 bif ((intD (fieldD x1 2)) == (-1)) then
  bif occMayB x0 x1 then
   some (dat 4 (.lit (.bool (toldB x0 x1))))
  else none
 else bif occMayB x0 x1 then
   some (dat 4 (.lit (.bool (groupsB x0 x1))))
  else none := by kernel_rfl

/- roadbook/query.Own -/
def t13_h : Hints := fun _ =>  none
theorem t13 (N : Nat) (x0 : D) (x1 : Int) : evFn Tryd.prog (envR Q5 [] [] []) t13_h N Tryd.f13 [dat 31 x0, dat 3 (.lit (.int .i64 x1))] =
 bif decide ((qP x0).length <= 2147483647) then
  some (dat 22 (.slice (plc (fun e => hasS x1 (ofE e)) (qP x0) 0) []))
 else none := by kernel_rfl

end X
end
section
namespace X
open Go.Ev
set_option linter.unusedVariables false
set_option maxRecDepth 10000
set_option linter.unusedSimpArgs false

def e22 : FuncId × TypeId × (List AV -> Bool) × (List AV -> Option D) := (22, 4, preD (q2 fun x y => occMayB x y), ent [28, 31] (f2 fun x y => some (.lit (.bool (endB x y)))))
theorem k22 : FnOK Tryd.prog 22 Tryd.f22 := ⟨Tryd.func22, rfl, by kernel_rfl⟩
theorem c22 : ∀ args d, e22.2.2.1 args = true -> e22.2.2.2 args = some d -> CallOK Tryd.prog 22 args (mkRes Tryd.prog 4 d) :=
 ent2p k22 fun x y d hq h _ _ => by
  cases h
  rw [nCat, nQry]
  have hq : occMayB x y = true := hq
  refine fn_ok hm envQ5 k22 ((t22 1 x y).trans ?_)
  rw [m4, hq]
  show _ = some (dat 4 (.lit (.bool (endB x y))))
  unfold endB qBy
  cases (intD (fieldD y 2) == -1) <;> rfl
def e13 : FuncId × TypeId × (List AV -> Bool) × (List AV -> Option D) := (13, 22, preD (q2 fun x _ => decide ((qP x).length <= 2147483647)), ent [31, 3] (f2 fun x y => some (.slice (ownL x (intD y)) [])))
theorem k13 : FnOK Tryd.prog 13 Tryd.f13 := ⟨Tryd.func13, rfl, by kernel_rfl⟩
theorem c13 : ∀ args d, e13.2.2.1 args = true -> e13.2.2.2 args = some d -> CallOK Tryd.prog 13 args (mkRes Tryd.prog 22 d) :=
 ent2p k13 fun x y d hq h _ _ => by
  cases h
  rw [nQry, n3]
  have hq : decide ((qP x).length <= 2147483647) = true := hq
  refine fn_ok hm envQ5 k13 ((t13 1 x (intD y)).trans ?_)
  rw [m27, hq]
  rfl
def Q6 : Tab := e13 :: e22 :: Q5
theorem envQ6 : EnvOK Tryd.prog (envH Q6 []) := envOK_cons' (envOK_cons' envQ5 c22) c13

end X
end
section
namespace X
open Go.Ev
set_option linter.unusedVariables false
/- roadbook/query.May -/
def t11_h : Hints := fun _ =>  none
theorem t11 (N : Nat) (x0 : D) (x1 : D) : evFn Tryd.prog (envR Q6 [] [] []) t11_h N Tryd.f11 [dat 28 x0, dat 31 x1] =
 bif ((mayCat x0) == true) then
  bif ((occMayB x0 x1) == true) then
   bif occMayB x0 x1 then
    bif ((exprMayB x0 x1) == true) then
     bif occMayB x0 x1 then
      some (dat 4 (.lit (.bool (endB x0 x1))))
     else none
    else some (dat 4 (.lit (.bool false)))
   else none
  else some (dat 4 (.lit (.bool false)))
 else some (dat 4 (.lit (.bool false))) := by kernel_rfl

end X
end
section
namespace X
open Go.Ev
set_option linter.unusedVariables false
set_option maxRecDepth 10000
set_option linter.unusedSimpArgs false

def e11 : FuncId × TypeId × (List AV -> Bool) × (List AV -> Option D) := (11, 4, yes, ent [28, 31] (f2 fun x y => some (.lit (.bool (mayQ x y)))))
theorem k11 : FnOK Tryd.prog 11 Tryd.f11 := ⟨Tryd.func11, rfl, by kernel_rfl⟩
theorem c11 : ∀ args d, e11.2.2.2 args = some d -> CallOK Tryd.prog 11 args (mkRes Tryd.prog 4 d) :=
 ent2 k11 fun x y d h _ _ => by
  cases h
  rw [nCat, nQry]
  refine fn_ok hm envQ6 k11 ((t11 1 x y).trans ?_)
  rw [m4]
  show _ = some (dat 4 (.lit (.bool (mayQ x y))))
  unfold mayQ
  cases mayCat x <;> cases occMayB x y <;> cases exprMayB x y <;> rfl
def Q7 : Tab := e11 :: Q6
theorem envQ7 : EnvOK Tryd.prog (envH Q7 []) := envOK_cons envQ6 c11

end X
end
section
namespace X
open Go.Ev
set_option linter.unusedVariables false
/- roadbook/roadbooklaw05.Far -/
def t10_h : Hints := fun _ =>  none
theorem t10 (N : Nat) (x0 : D) (x1 : D) : evFn Tryd.prog (envR Q7 [] [] []) t10_h N Tryd.f10 [dat 28 x0, dat 31 x1] =
 bif fewQ fewB x0 x1 then
  some (dat 3 (.lit (.int .i64 0)))
 else some (dat 3 (.lit (.int .i64 1))) := by kernel_rfl

/- roadbook/card.times -/
def t17_h : Hints := fun _ =>  none
theorem t17 (N : Nat) (x0 : Int) (x1 : Int) : evFn Tryd.prog (envR Q7 [] [] []) t17_h N Tryd.f17 [dat 3 (.lit (.int .i64 x0)), dat 3 (.lit (.int .i64 x1))] =
 bif decide (x1 <= 0) then
  some (dat 3 (.lit (.int .i64 0)))
 else bif (!(x1 == 0)) then
   bif decide (x0 > (IntKind.wrap .i64 (Int.tdiv 1099511627776 x1))) then
    some (dat 3 (.lit (.int .i64 1099511627776)))
   else some (dat 3 (.lit (.int .i64 (IntKind.wrap .i64 (x0 * x1)))))
  else none := by kernel_rfl

/- roadbook/card.rowsOf -/
def t27_h : Hints := fun _ =>  none
theorem t27 (N : Nat) (x0 : D) (x1 : D) (x2 : Int) : evFn Tryd.prog (envR Q7 [] [] []) t27_h N Tryd.f27 [dat 28 x0, dat 31 x1, dat 3 (.lit (.int .i64 x2))] =
 bif (decide (0 <= x2) && decide (x2 < ((elemsD (fieldD x1 0)).length : Int))) then
  bif (decide (0 <= (intD ((elemsD (fieldD x1 0)).getD (x2).toNat .nil))) && decide ((intD ((elemsD (fieldD x1 0)).getD (x2).toNat .nil)) < ((elemsD (fieldD x0 0)).length : Int))) then
   some (dat 3 (.lit (.int .i64 (intD (fieldD ((elemsD (fieldD x0 0)).getD (intD ((elemsD (fieldD x1 0)).getD (x2).toNat .nil)).toNat .nil) 1)))))
  else none
 else none := by kernel_rfl

/- roadbook/card.kindOf -/
def t35_h : Hints := fun _ =>  none
theorem t35 (N : Nat) (x0 : D) : evFn Tryd.prog (envR Q7 [] [] []) t35_h N Tryd.f35 [dat 40 x0] =
 bif pairE x0 then
  some (dat 3 (.lit (.int .i64 0)))
 else some (dat 3 (.lit (.int .i64 1))) := by kernel_rfl

end X
end
section
namespace X
open Go.Ev
set_option linter.unusedVariables false
set_option maxRecDepth 10000
set_option linter.unusedSimpArgs false

def farI (c q : D) : Int := bif fewQ fewB c q then 0 else 1
def e10 : FuncId × TypeId × (List AV -> Bool) × (List AV -> Option D) := (10, 3, yes, ent [28, 31] (f2 fun x y => some (.lit (.int .i64 (farI x y)))))
theorem k10 : FnOK Tryd.prog 10 Tryd.f10 := ⟨Tryd.func10, rfl, by kernel_rfl⟩
theorem c10 : ∀ args d, e10.2.2.2 args = some d -> CallOK Tryd.prog 10 args (mkRes Tryd.prog 3 d) :=
 ent2 k10 fun x y d h _ _ => by
  cases h
  rw [nCat, nQry]
  refine fn_ok hm envQ7 k10 ((t10 1 x y).trans ?_)
  rw [m3]
  unfold farI
  cases fewQ fewB x y <;> rfl
def e17 : FuncId × TypeId × (List AV -> Bool) × (List AV -> Option D) := (17, 3, yes, ent [3, 3] (f2 fun x y => some (.lit (.int .i64 (timesC (intD x) (intD y))))))
theorem k17 : FnOK Tryd.prog 17 Tryd.f17 := ⟨Tryd.func17, rfl, by kernel_rfl⟩
theorem c17 : ∀ args d, e17.2.2.2 args = some d -> CallOK Tryd.prog 17 args (mkRes Tryd.prog 3 d) :=
 ent2 k17 fun x y d h _ _ => by
  cases h
  rw [n3, n3]
  refine fn_ok hm envQ7 k17 ((t17 1 (intD x) (intD y)).trans ?_)
  rw [m3]
  unfold timesC
  by_cases hb : intD y <= 0
  ·rw [dT hb]; rfl
  ·have h0 : (!(intD y == 0)) = true := by
    rw [Bool.not_eq_true', beq_eq_false_iff_ne]
    omega
   rw [dF hb, h0]
   show (bif decide (intD x > (IntKind.wrap .i64 (Int.tdiv 1099511627776 (intD y)))) then _ else _) = some (dat 3 (.lit (.int .i64 (intD (.lit (.int .i64 (bif decide (intD x > IntKind.wrap .i64 (Int.tdiv 1099511627776 (intD y))) then topC else IntKind.wrap .i64 (intD x * intD y))))))))
   cases decide (intD x > (IntKind.wrap .i64 (Int.tdiv 1099511627776 (intD y)))) <;> rfl
def e27 : FuncId × TypeId × (List AV -> Bool) × (List AV -> Option D) := (27, 3, preD (q3 fun x y z => (occMayB x y && (decide (0 <= intD z) && decide (intD z < ((qOcc y).length : Int))))), ent [28, 31, 3] (f3 fun x y z => some (.lit (.int .i64 (rowsC x y (intD z))))))
theorem k27 : FnOK Tryd.prog 27 Tryd.f27 := ⟨Tryd.func27, rfl, by kernel_rfl⟩
theorem c27 : ∀ args d, e27.2.2.1 args = true -> e27.2.2.2 args = some d -> CallOK Tryd.prog 27 args (mkRes Tryd.prog 3 d) :=
 ent3p k27 fun x y z d hq h _ _ _ => by
  cases h
  rw [nCat, nQry, n3]
  have hq : (occMayB x y && (decide (0 <= intD z) && decide (intD z < ((qOcc y).length : Int)))) = true := hq
  rw [Bool.and_eq_true] at hq
  refine fn_ok hm envQ7 k27 ((t27 1 x y (intD z)).trans ?_)
  have h1 : (decide (0 <= intD z) && decide (intD z < ((elemsD (fieldD y 0)).length : Int))) = true := hq.2
  have h2 := hq.2
  rw [Bool.and_eq_true, decide_eq_true_eq, decide_eq_true_eq] at h2
  obtain ⟨i, hi⟩ : ∃ i : Nat, intD z = (i : Int) := ⟨(intD z).toNat, by omega⟩
  have hb := occ_below hq.1 (i := i) (by omega)
  have h3 : (decide (0 <= (intD ((elemsD (fieldD y 0)).getD (intD z).toNat .nil))) && decide ((intD ((elemsD (fieldD y 0)).getD (intD z).toNat .nil)) < ((elemsD (fieldD x 0)).length : Int))) = true := by
   rw [hi, Int.toNat_natCast, Bool.and_eq_true, decide_eq_true_eq, decide_eq_true_eq]
   exact hb
  rw [h1, h3, m3]
  rfl
def e35 : FuncId × TypeId × (List AV -> Bool) × (List AV -> Option D) := (35, 3, yes, ent [40] (f1 fun x => some (.lit (.int .i64 (kindI x)))))
theorem k35 : FnOK Tryd.prog 35 Tryd.f35 := ⟨Tryd.func35, rfl, by kernel_rfl⟩
theorem c35 : ∀ args d, e35.2.2.2 args = some d -> CallOK Tryd.prog 35 args (mkRes Tryd.prog 3 d) :=
 ent1 k35 fun x d h _ => by
  cases h
  rw [n26]
  refine fn_ok hm envQ7 k35 ((t35 1 x).trans ?_)
  rw [m3]
  unfold kindI
  cases pairE x <;> rfl
def A1 : Tab := e35 :: e27 :: e17 :: e10 :: Q7
theorem envA1 : EnvOK Tryd.prog (envH A1 []) := envOK_cons (envOK_cons' (envOK_cons (envOK_cons envQ7 c10) c17) c27) c35

end X
end
section
namespace X
open Go.Ev
set_option linter.unusedVariables false
/- roadbook/card.Times -/
def t9_h : Hints := fun i => if i = 3 then some ([0, 1, 2, 4, 5, 9, 10, 11, 12, 13, 14, 15, 16], [], []) else none
def t9_lp3 (P : Program) (fn : Func) (N n : Nat) (x0 : D) (v3 : Int) (v8 : Int) : Option AV := evLoop (preL t9_h (sub [1, 1, 0, 1, 0, 0] (bodyOf fn))) (evCode P (envR A1 [] [] []) t9_h N (sub [1, 1, 0, 1, 0, 0] (bodyOf fn))) n ⟨[dead, dead, dead, dat 3 (.lit (.int .i64 v3)), dead, dead, dat 22 x0, dat 3 (.lit (.int .i64 ((elemsD x0).length : Int))), dat 3 (.lit (.int .i64 v8)), dead, dead, dead, dead, dead, dead, dead, dead], lookB []⟩ (blockK 0 (seqC P (envR A1 [] [] []) t9_h N (sub [1, 1, 1] (bodyOf fn)) (finK P fn) ))
theorem t9_lp3_step (N n : Nat) (x0 : D) (v3 : Int) (v8 : Int) : t9_lp3 Tryd.prog Tryd.f9 N (n + 1) x0 v3 v8 =
 bif decide (v8 < ((elemsD x0).length : Int)) then
  bif (decide (0 <= v8) && decide (v8 < ((elemsD x0).length : Int))) then
   t9_lp3 Tryd.prog Tryd.f9 N n x0 (timesC v3 (intD ((elemsD x0).getD (v8).toNat .nil))) (IntKind.wrap .i64 (v8 + 1))
  else none
 else some (dat 3 (.lit (.int .i64 v3))) := by kernel_rfl
theorem t9 (N : Nat) (x0 : D) : evFn Tryd.prog (envR A1 [] [] []) t9_h N Tryd.f9 [dat 22 x0] =
 t9_lp3 Tryd.prog Tryd.f9 N N x0 1 0 := by kernel_rfl

/- roadbook/card.bases -/
def t23_h : Hints := fun i => if i = 3 then some ([0, 1, 5, 6, 8, 9, 10, 13, 14, 15, 16, 17, 18, 19, 20, 21, 22, 23, 24, 25, 26, 27, 28], [3, 4, 7], []) else none
def t23_lp3 (P : Program) (fn : Func) (N n : Nat) (x0 : D) (x1 : D) (x2 : Int) (v12 : Int) (b7 : List D) : Option AV := evLoop (preL t23_h (sub [1, 1, 0, 1, 0, 0] (bodyOf fn))) (evCode P (envR A1 [] [] []) t23_h N (sub [1, 1, 0, 1, 0, 0] (bodyOf fn))) n ⟨[dead, dead, dat 3 (.lit (.int .i64 x2)), bxp 3 28, bxp 4 31, dead, dead, bxp 7 22, dead, dead, dead, dat 3 (.lit (.int .i64 ((elemsD (fieldD x1 0)).length : Int))), dat 3 (.lit (.int .i64 v12)), dead, dead, dead, dead, dead, dead, dead, dead, dead, dead, dead, dead, dead, dead, dead, dead], lookB [(3, some ⟨28, x0, 0, none⟩), (4, some ⟨31, x1, 0, none⟩), (7, some ⟨22, .slice b7 [], 1, none⟩)]⟩ (blockK 0 (seqC P (envR A1 [] [] []) t23_h N (sub [1, 1, 1] (bodyOf fn)) (finK P fn) ))
theorem t23_lp3_step (N n : Nat) (x0 : D) (x1 : D) (x2 : Int) (v12 : Int) (b7 : List D) : t23_lp3 Tryd.prog Tryd.f23 N (n + 1) x0 x1 x2 v12 b7 =
 bif decide (v12 < ((elemsD (fieldD x1 0)).length : Int)) then
  bif decide (0 <= v12) then
   bif ((andI .i64 (Int.fdiv x2 (2 ^ min (v12 : Int).toNat (IntKind.bits .i64))) 1) == 1) then
    bif (occMayB x0 x1 && (decide (0 <= v12) && decide (v12 < ((qOcc x1).length : Int)))) then
     bif decide ((b7).length + 1 <= 2147483648) then
      t23_lp3 Tryd.prog Tryd.f23 N n x0 x1 x2 (IntKind.wrap .i64 (v12 + 1)) (b7 ++ [.lit (.int .i64 (rowsC x0 x1 v12))])
     else none
    else none
   else t23_lp3 Tryd.prog Tryd.f23 N n x0 x1 x2 (IntKind.wrap .i64 (v12 + 1)) b7
  else none
 else some (dat 22 (.slice b7 [])) := by kernel_rfl
theorem t23 (N : Nat) (x0 : D) (x1 : D) (x2 : Int) : evFn Tryd.prog (envR A1 [] [] []) t23_h N Tryd.f23 [dat 28 x0, dat 31 x1, dat 3 (.lit (.int .i64 x2))] =
 t23_lp3 Tryd.prog Tryd.f23 N N x0 x1 x2 0 [] := by kernel_rfl

/- roadbook/card.divisor -/
def t24_h : Hints := fun i => if i = 3 then some ([0, 1, 3, 4, 6, 7, 8, 9, 13, 14, 15, 16, 17, 18, 19, 20, 21, 22, 23, 24, 25, 26, 27], [2], []) else none
def t24_lp3 (P : Program) (fn : Func) (N n : Nat) (x0 : D) (x1 : Int) (v5 : Int) (v12 : Int) : Option AV := evLoop (preL t24_h (sub [1, 1, 0, 1, 0, 0] (bodyOf fn))) (evCode P (envR A1 [] [] []) t24_h N (sub [1, 1, 0, 1, 0, 0] (bodyOf fn))) n ⟨[dead, dead, bxp 2 31, dead, dead, dat 3 (.lit (.int .i64 v5)), dead, dead, dead, dead, dat 22 (.slice (ownL x0 x1) []), dat 3 (.lit (.int .i64 ((ownL x0 x1).length : Int))), dat 3 (.lit (.int .i64 v12)), dead, dead, dead, dead, dead, dead, dead, dead, dead, dead, dead, dead, dead, dead, dead], lookB [(2, some ⟨31, x0, 0, none⟩)]⟩ (blockK 0 (seqC P (envR A1 [] [] []) t24_h N (sub [1, 1, 1] (bodyOf fn)) (finK P fn) ))
theorem t24_lp3_step (N n : Nat) (x0 : D) (x1 : Int) (v5 : Int) (v12 : Int) : t24_lp3 Tryd.prog Tryd.f24 N (n + 1) x0 x1 v5 v12 =
 bif decide (v12 < ((ownL x0 x1).length : Int)) then
  bif (decide (0 <= v12) && decide (v12 < ((ownL x0 x1).length : Int))) then
   bif (decide (0 <= (intD ((ownL x0 x1).getD (v12).toNat .nil))) && decide ((intD ((ownL x0 x1).getD (v12).toNat .nil)) < ((elemsD (fieldD x0 1)).length : Int))) then
    bif (decide (0 <= (kindI ((elemsD (fieldD x0 1)).getD (intD ((ownL x0 x1).getD (v12).toNat .nil)).toNat .nil))) && decide ((kindI ((elemsD (fieldD x0 1)).getD (intD ((ownL x0 x1).getD (v12).toNat .nil)).toNat .nil)) < (2 : Int))) then
     t24_lp3 Tryd.prog Tryd.f24 N n x0 x1 (IntKind.wrap .i64 (v5 * (([10, 3] : List Int).getD (kindI ((elemsD (fieldD x0 1)).getD (intD ((ownL x0 x1).getD (v12).toNat .nil)).toNat .nil) : Int).toNat 0))) (IntKind.wrap .i64 (v12 + 1))
    else none
   else none
  else none
 else some (dat 3 (.lit (.int .i64 v5))) := by kernel_rfl
theorem t24 (N : Nat) (x0 : D) (x1 : Int) : evFn Tryd.prog (envR A1 [] [] []) t24_h N Tryd.f24 [dat 31 x0, dat 3 (.lit (.int .i64 x1))] =
 bif decide ((qP x0).length <= 2147483647) then
  t24_lp3 Tryd.prog Tryd.f24 N N x0 x1 1 0
 else none := by kernel_rfl

/- roadbook/card.Base -/
def t15_h : Hints := fun _ =>  none
theorem t15 (N : Nat) (x0 : D) (x1 : D) (x2 : Int) : evFn Tryd.prog (envR A1 [] [] []) t15_h N Tryd.f15 [dat 28 x0, dat 31 x1, dat 3 (.lit (.int .i64 x2))] =
 bif ((!(mayQ x0 x1)) == false) then
  bif ((decide (x2 < 0)) == false) then
   bif decide (x2 >= ((elemsD (fieldD x1 0)).length : Int)) then
    some (dat 3 (.lit (.int .i64 0)))
   else bif (occMayB x0 x1 && (decide (0 <= x2) && decide (x2 < ((qOcc x1).length : Int)))) then
     some (dat 3 (.lit (.int .i64 (rowsC x0 x1 x2))))
    else none
  else some (dat 3 (.lit (.int .i64 0)))
 else some (dat 3 (.lit (.int .i64 0))) := by kernel_rfl

end X
end
section
namespace X
open Go.Ev
set_option linter.unusedVariables false
set_option maxRecDepth 10000
set_option linter.unusedSimpArgs false

theorem Times_loop {N : Nat} {x0 : D} (hl : (elemsD x0).length <= maxLen) : ∀ (n i : Nat) (v : Int), i <= (elemsD x0).length -> (elemsD x0).length - i < n ->
  t9_lp3 Tryd.prog Tryd.f9 N n x0 v (i : Int) = some (dat 3 (.lit (.int .i64 (timesL v ((elemsD x0).drop i)))))
 | 0, i, v, _, h => by omega
 | n + 1, i, v, hi, h => by
  rw [t9_lp3_step]
  by_cases hlt : i < (elemsD x0).length
  ·rw [l_idx hlt, l_lt hlt, cond_true, cond_true, Int.toNat_natCast, l_get hlt, l_wrap hl hlt, Times_loop hl n (i + 1) _ (by omega) (by omega), List.drop_eq_getElem_cons hlt]
   rfl
  ·rw [l_ge hlt, cond_false, List.drop_of_length_le (by omega)]
   rfl
def e9 : FuncId × TypeId × (List AV -> Bool) × (List AV -> Option D) := (9, 3, yes, ent [22] (f1 fun x => some (.lit (.int .i64 (timesL 1 (elemsD x))))))
theorem k9 : FnOK Tryd.prog 9 Tryd.f9 := ⟨Tryd.func9, rfl, by kernel_rfl⟩
theorem c9 : ∀ args d, e9.2.2.2 args = some d -> CallOK Tryd.prog 9 args (mkRes Tryd.prog 3 d) :=
 ent1 k9 fun x d h ⟨_, hx⟩ => by
  cases h
  rw [n27]
  refine fn_ok hm envA1 k9 ((t9 ((elemsD x).length + 1) x).trans ?_)
  rw [m3]
  have := Times_loop (N := (elemsD x).length + 1) (len27 hx) ((elemsD x).length + 1) 0 1 (Nat.zero_le _) (by omega)
  rw [List.drop_zero] at this
  exact this
theorem bases_loop {N : Nat} {c q : D} {s : Int} (ho : occMayB c q = true) : ∀ (n i : Nat) (l : List D), i <= (qOcc q).length -> (qOcc q).length - i < n -> l.length <= i ->
  t23_lp3 Tryd.prog Tryd.f23 N n c q s (i : Int) l = some (dat 22 (.slice (l ++ basesF c q s (List.range' i ((qOcc q).length - i))) []))
 | 0, i, l, _, h, _ => by omega
 | n + 1, i, l, hi, h, hle => by
  have h4 := occ_len9 ho
  rw [t23_lp3_step]
  by_cases hlt : i < (qOcc q).length
  ·have hr : (qOcc q).length - i = ((qOcc q).length - (i + 1)) + 1 := by omega
   have hw : IntKind.wrap .i64 ((i : Int) + 1) = ((i + 1 : Nat) : Int) := by rw [l_wrapI (l_in (by omega) (by omega))]; rfl
   have e1 : decide ((i : Int) < ((elemsD (fieldD q 0)).length : Int)) = true := l_lt hlt
   rw [e1, dT (show 0 <= (i : Int) by omega), cond_true, cond_true, ho, l_lt hlt, hw, hr, List.range'_succ]
   have hb : basesF c q s (i :: List.range' (i + 1) ((qOcc q).length - (i + 1))) = (bif memB s (i : Int) then [litI (rowsC c q (i : Int))] else []) ++ basesF c q s (List.range' (i + 1) ((qOcc q).length - (i + 1))) := rfl
   rw [hb]
   show (bif memB s (i : Int) then _ else _) = _
   cases hs : memB s (i : Int) with
   | true =>
    rw [cond_true]
    show (bif decide (l.length + 1 <= 2147483648) then _ else _) = _
    rw [dT (show l.length + 1 <= 2147483648 by omega), cond_true]
    show t23_lp3 Tryd.prog Tryd.f23 N n c q s ((i + 1 : Nat) : Int) (l ++ [litI (rowsC c q (i : Int))]) = _
    rw [bases_loop ho n (i + 1) _ (by omega) (by omega) (by simp; omega), List.append_assoc]
    rfl
   | false =>
    rw [cond_false, bases_loop ho n (i + 1) _ (by omega) (by omega) (by omega)]
    rfl
  ·have e1 : decide ((i : Int) < ((elemsD (fieldD q 0)).length : Int)) = false := l_ge hlt
   rw [e1, cond_false, show (qOcc q).length - i = 0 by omega]
   simp [basesF]
def e23 : FuncId × TypeId × (List AV -> Bool) × (List AV -> Option D) := (23, 22, preD (q3 fun x y _ => occMayB x y), ent [28, 31, 3] (f3 fun x y z => some (.slice (basesL x y (intD z)) [])))
theorem k23 : FnOK Tryd.prog 23 Tryd.f23 := ⟨Tryd.func23, rfl, by kernel_rfl⟩
theorem c23 : ∀ args d, e23.2.2.1 args = true -> e23.2.2.2 args = some d -> CallOK Tryd.prog 23 args (mkRes Tryd.prog 22 d) :=
 ent3p k23 fun x y z d hq h _ _ _ => by
  cases h
  rw [nCat, nQry, n3]
  have hq : occMayB x y = true := hq
  refine fn_ok hm envA1 k23 ((t23 ((qOcc y).length + 1) x y (intD z)).trans ?_)
  rw [m27]
  have := bases_loop (N := (qOcc y).length + 1) (s := intD z) hq ((qOcc y).length + 1) 0 [] (Nat.zero_le _) (by omega) (Nat.zero_le _)
  unfold basesL
  rw [List.range_eq_range']
  exact this
theorem own_at {q : D} {s : Int} {i : Nat} (h : i < (ownL q s).length) : ∃ k, k < (qP q).length /\ (ownL q s)[i] = litI (k : Int) := by
 have hm : (ownL q s)[i] ∈ ownL q s := List.getElem_mem h
 unfold ownL at hm
 obtain ⟨k, hk, hx, _⟩ := plc_mem.1 hm
 rw [Nat.zero_add] at hx
 exact ⟨k, hk, hx⟩
theorem div_loop {N : Nat} {q : D} {s : Int} (h6 : (qP q).length <= 6) : ∀ (n i v : Nat), i <= (ownL q s).length -> (ownL q s).length - i < n -> 1 <= v -> v * 10 ^ ((ownL q s).length - i) <= 1000000 ->
  t24_lp3 Tryd.prog Tryd.f24 N n q s (v : Int) (i : Int) = some (dat 3 (.lit (.int .i64 ((v * dvl (qP q) ((ownL q s).drop i) : Nat) : Int))))
 | 0, i, v, _, h, _, _ => by omega
 | n + 1, i, v, hi, h, hv, hb => by
  have hol : (ownL q s).length <= 6 := by
   unfold ownL
   rw [plc_len]
   exact Nat.le_trans List.countP_le_length h6
  rw [t24_lp3_step]
  by_cases hlt : i < (ownL q s).length
  ·obtain ⟨k, hk, hx⟩ := own_at hlt
   have hg : (ownL q s).getD i .nil = litI (k : Int) := by rw [l_get hlt, hx]
   have hki : intD (litI (k : Int)) = (k : Int) := rfl
   have b1 : (decide (0 <= (k : Int)) && decide ((k : Int) < ((elemsD (fieldD q 1)).length : Int))) = true := l_idx hk
   have hw : IntKind.wrap .i64 ((i : Int) + 1) = ((i + 1 : Nat) : Int) := by rw [l_wrapI (l_in (by omega) (by omega))]; rfl
   have hdv := dv_pos ((qP q).getD k .nil)
   have hr : (ownL q s).length - i = ((ownL q s).length - (i + 1)) + 1 := by omega
   have hp : 1 <= 10 ^ ((ownL q s).length - (i + 1)) := Nat.pos_of_ne_zero (by simp)
   have hb' : v * dv ((qP q).getD k .nil) * 10 ^ ((ownL q s).length - (i + 1)) <= 1000000 := by
    refine Nat.le_trans ?_ hb
    rw [hr, Nat.pow_succ, Nat.mul_assoc]
    refine Nat.mul_le_mul_left _ ?_
    rw [Nat.mul_comm]
    exact Nat.mul_le_mul_left _ hdv.2
   have hvb : v * dv ((qP q).getD k .nil) <= 1000000 := Nat.le_trans (Nat.le_mul_of_pos_right _ hp) hb'
   have hkv : ([10, 3] : List Int).getD (kindI ((qP q).getD k .nil)).toNat 0 = ((dv ((qP q).getD k .nil) : Nat) : Int) := by
    unfold kindI dv
    cases pairE ((qP q).getD k .nil) <;> rfl
   have hk2 : (decide (0 <= kindI ((qP q).getD k .nil)) && decide (kindI ((qP q).getD k .nil) < (2 : Int))) = true := by
    unfold kindI
    cases pairE ((qP q).getD k .nil) <;> rfl
   rw [l_idx hlt, l_lt hlt, cond_true, cond_true, Int.toNat_natCast, hg, hki, b1, cond_true, Int.toNat_natCast]
   show (bif (decide (0 <= kindI ((qP q).getD k .nil)) && decide (kindI ((qP q).getD k .nil) < (2 : Int))) then t24_lp3 Tryd.prog Tryd.f24 N n q s (IntKind.wrap .i64 ((v : Int) * (([10, 3] : List Int).getD (kindI ((qP q).getD k .nil)).toNat 0))) (IntKind.wrap .i64 ((i : Int) + 1)) else none) = _
   rw [hk2, cond_true, hkv, hw]
   have hm : ((v : Int) * ((dv ((qP q).getD k .nil) : Nat) : Int)) = ((v * dv ((qP q).getD k .nil) : Nat) : Int) := by rw [Int.natCast_mul]
   rw [hm, l_wrapI (l_in (by omega) (by omega)), div_loop h6 n (i + 1) _ (by omega) (by omega) (Nat.mul_pos hv (by omega)) hb', List.drop_eq_getElem_cons hlt, hx]
   have e2 : dvl (qP q) (litI (k : Int) :: (ownL q s).drop (i + 1)) = dv ((qP q).getD k .nil) * dvl (qP q) ((ownL q s).drop (i + 1)) := rfl
   rw [e2, Nat.mul_assoc]
  ·rw [l_ge hlt, cond_false, List.drop_of_length_le (by omega)]
   have e2 : dvl (qP q) [] = 1 := rfl
   rw [e2, Nat.mul_one]
def e24 : FuncId × TypeId × (List AV -> Bool) × (List AV -> Option D) := (24, 3, preD (q2 fun x _ => decide ((qP x).length <= 6)), ent [31, 3] (f2 fun x y => some (.lit (.int .i64 (divI x (intD y))))))
theorem k24 : FnOK Tryd.prog 24 Tryd.f24 := ⟨Tryd.func24, rfl, by kernel_rfl⟩
theorem c24 : ∀ args d, e24.2.2.1 args = true -> e24.2.2.2 args = some d -> CallOK Tryd.prog 24 args (mkRes Tryd.prog 3 d) :=
 ent2p k24 fun x y d hq h _ _ => by
  cases h
  rw [nQry, n3]
  have hq : (qP x).length <= 6 := of_decide_eq_true hq
  have hol : (ownL x (intD y)).length <= 6 := by
   unfold ownL
   rw [plc_len]
   exact Nat.le_trans List.countP_le_length hq
  refine fn_ok hm envA1 k24 ((t24 ((ownL x (intD y)).length + 1) x (intD y)).trans ?_)
  rw [m3, dT (show (qP x).length <= 2147483647 by omega), cond_true]
  have := div_loop (N := (ownL x (intD y)).length + 1) (s := intD y) hq ((ownL x (intD y)).length + 1) 0 1 (Nat.zero_le _) (by omega) (Nat.le_refl _) (by
   rw [Nat.one_mul, Nat.sub_zero]
   exact Nat.le_trans (Nat.pow_le_pow_right (by omega) hol) (by decide))
  rw [List.drop_zero, Nat.one_mul] at this
  unfold divI
  rw [<- dvl_own]
  exact this
def e15 : FuncId × TypeId × (List AV -> Bool) × (List AV -> Option D) := (15, 3, yes, ent [28, 31, 3] (f3 fun x y z => some (.lit (.int .i64 (baseI x y (intD z))))))
theorem k15 : FnOK Tryd.prog 15 Tryd.f15 := ⟨Tryd.func15, rfl, by kernel_rfl⟩
theorem c15 : ∀ args d, e15.2.2.2 args = some d -> CallOK Tryd.prog 15 args (mkRes Tryd.prog 3 d) :=
 ent3 k15 fun x y z d h _ _ _ => by
  cases h
  rw [nCat, nQry, n3]
  refine fn_ok hm envA1 k15 ((t15 1 x y (intD z)).trans ?_)
  rw [m3]
  unfold baseI
  cases hm : mayQ x y with
  | false => rfl
  | true =>
   obtain ⟨_, ho, _, _⟩ := mayQ_parts hm
   by_cases h0 : intD z < 0
   ·rw [dT h0, dF (show ¬ 0 <= intD z by omega)]; rfl
   ·rw [dF h0, dT (show 0 <= intD z by omega), ho]
    by_cases h1 : intD z < ((qOcc y).length : Int)
    ·have e1 : decide (intD z >= ((elemsD (fieldD y 0)).length : Int)) = false := dF (show ¬ intD z >= ((qOcc y).length : Int) by omega)
     rw [e1, dT h1]; rfl
    ·have e1 : decide (intD z >= ((elemsD (fieldD y 0)).length : Int)) = true := dT (show intD z >= ((qOcc y).length : Int) by omega)
     rw [e1, dF h1]; rfl
def A2 : Tab := e15 :: e24 :: e23 :: e9 :: A1
theorem envA2 : EnvOK Tryd.prog (envH A2 []) := envOK_cons (envOK_cons' (envOK_cons' (envOK_cons envA1 c9) c23) c24) c15

end X
end
section
namespace X
open Go.Ev
set_option linter.unusedVariables false
/- roadbook/card.Rows -/
def t12_h : Hints := fun _ =>  none
theorem t12 (N : Nat) (x0 : D) (x1 : D) (x2 : Int) : evFn Tryd.prog (envR A2 [] [] []) t12_h N Tryd.f12 [dat 28 x0, dat 31 x1, dat 3 (.lit (.int .i64 x2))] =
 bif (!(mayQ x0 x1)) then
  some (dat 3 (.lit (.int .i64 0)))
 else bif occMayB x0 x1 then
   bif decide ((qP x1).length <= 6) then
    bif (!((divI x1 x2) == 0)) then
     some (dat 3 (.lit (.int .i64 (maxI 1 (IntKind.wrap .i64 (Int.tdiv (timesL 1 (basesL x0 x1 x2)) (divI x1 x2)))))))
    else none
   else none
  else none := by kernel_rfl

end X
end
section
namespace X
open Go.Ev
set_option linter.unusedVariables false
set_option maxRecDepth 10000
set_option linter.unusedSimpArgs false

def e12 : FuncId × TypeId × (List AV -> Bool) × (List AV -> Option D) := (12, 3, yes, ent [28, 31, 3] (f3 fun x y z => some (.lit (.int .i64 (rowsI x y (intD z))))))
theorem k12 : FnOK Tryd.prog 12 Tryd.f12 := ⟨Tryd.func12, rfl, by kernel_rfl⟩
theorem c12 : ∀ args d, e12.2.2.2 args = some d -> CallOK Tryd.prog 12 args (mkRes Tryd.prog 3 d) :=
 ent3 k12 fun x y z d h _ _ _ => by
  cases h
  rw [nCat, nQry, n3]
  refine fn_ok hm envA2 k12 ((t12 1 x y (intD z)).trans ?_)
  rw [m3]
  unfold rowsI
  cases hm : mayQ x y with
  | false => rfl
  | true =>
   obtain ⟨_, ho, h6, _⟩ := mayQ_parts hm
   have hd := divN_pos (intD z) (qP y)
   have e1 : (!((divI y (intD z)) == 0)) = true := by
    unfold divI
    rw [Bool.not_eq_true', beq_eq_false_iff_ne]
    omega
   rw [show (!true) = false from rfl, cond_false, ho, cond_true, dT h6, cond_true, e1, cond_true, rows_eq]
   rfl
def A3 : Tab := e12 :: A2
theorem envA3 : EnvOK Tryd.prog (envH A3 []) := envOK_cons envA2 c12

end X
end
section
namespace X
open Go.Ev
set_option linter.unusedVariables false
/- roadbook/card.Groups -/
def t14_h : Hints := fun _ =>  none
theorem t14 (N : Nat) (x0 : D) (x1 : D) : evFn Tryd.prog (envR A3 [] [] []) t14_h N Tryd.f14 [dat 28 x0, dat 31 x1] =
 bif (!(mayQ x0 x1)) then
  some (dat 3 (.lit (.int .i64 0)))
 else some (dat 3 (.lit (.int .i64 (maxI 1 (IntKind.wrap .i64 (Int.tdiv (rowsI x0 x1 15) 5)))))) := by kernel_rfl

end X
end
section
namespace X
open Go.Ev
set_option linter.unusedVariables false
set_option maxRecDepth 10000
set_option linter.unusedSimpArgs false

def e14 : FuncId × TypeId × (List AV -> Bool) × (List AV -> Option D) := (14, 3, yes, ent [28, 31] (f2 fun x y => some (.lit (.int .i64 (groupsI x y)))))
theorem k14 : FnOK Tryd.prog 14 Tryd.f14 := ⟨Tryd.func14, rfl, by kernel_rfl⟩
theorem c14 : ∀ args d, e14.2.2.2 args = some d -> CallOK Tryd.prog 14 args (mkRes Tryd.prog 3 d) :=
 ent2 k14 fun x y d h _ _ => by
  cases h
  rw [nCat, nQry]
  refine fn_ok hm envA3 k14 ((t14 1 x y).trans ?_)
  rw [m3]
  unfold groupsI
  cases hm : mayQ x y with
  | false => rfl
  | true =>
   rw [show (!true) = false from rfl, cond_false, cgroups_eq hm]
   rfl
def A4 : Tab := e14 :: A3
theorem envA4 : EnvOK Tryd.prog (envH A4 []) := envOK_cons envA3 c14

end X
end
section
namespace X
open Go.Ev
set_option linter.unusedVariables false
/- roadbook/roadbooklaw09.awake -/
def t8_h : Hints := fun _ =>  none
theorem t8 (N : Nat)  : evFn Tryd.prog (envR A4 [] [] []) t8_h N Tryd.f8 [] =
 bif (((rowsI catTwo (.agg [.slice [.lit (.int .i64 0), .lit (.int .i64 1)] [], .slice [.agg [.lit (.int .i64 6), .lit (.int .i64 0), .agg [.lit (.int .i64 0), .lit (.int .i64 0)], .slice [.agg [.lit (.int .i64 1), .lit (.int .i64 0), .agg [.lit (.int .i64 0), .lit (.int .i64 0)], .slice [] []], .agg [.lit (.int .i64 1), .lit (.int .i64 4), .agg [.lit (.int .i64 0), .lit (.int .i64 0)], .slice [] []]] []]] [], .lit (.int .i64 (-1)), .slice [] [], .slice [.lit (.int .i64 0)] [], .lit (.int .i64 (-1))]) 3) == 100) == true) then
  bif (((rowsI catTwo (.agg [.slice [.lit (.int .i64 0), .lit (.int .i64 1)] [], .slice [.agg [.lit (.int .i64 6), .lit (.int .i64 0), .agg [.lit (.int .i64 0), .lit (.int .i64 0)], .slice [.agg [.lit (.int .i64 1), .lit (.int .i64 0), .agg [.lit (.int .i64 0), .lit (.int .i64 0)], .slice [] []], .agg [.lit (.int .i64 1), .lit (.int .i64 4), .agg [.lit (.int .i64 0), .lit (.int .i64 0)], .slice [] []]] []]] [], .lit (.int .i64 (-1)), .slice [] [], .slice [.lit (.int .i64 0)] [], .lit (.int .i64 (-1))]) 1) == 100) == true) then
   bif (((groupsI catTwo (.agg [.slice [.lit (.int .i64 0), .lit (.int .i64 1)] [], .slice [.agg [.lit (.int .i64 6), .lit (.int .i64 0), .agg [.lit (.int .i64 0), .lit (.int .i64 0)], .slice [.agg [.lit (.int .i64 1), .lit (.int .i64 0), .agg [.lit (.int .i64 0), .lit (.int .i64 0)], .slice [] []], .agg [.lit (.int .i64 1), .lit (.int .i64 4), .agg [.lit (.int .i64 0), .lit (.int .i64 0)], .slice [] []]] []]] [], .lit (.int .i64 (-1)), .slice [] [], .slice [.lit (.int .i64 0)] [], .lit (.int .i64 (-1))])) == 20) == true) then
    bif (((timesL 1 [.lit (.int .i64 6), .lit (.int .i64 7)]) == 42) == true) then
     some (dat 4 (.lit (.bool ((baseI catTwo (.agg [.slice [.lit (.int .i64 0), .lit (.int .i64 1)] [], .slice [.agg [.lit (.int .i64 6), .lit (.int .i64 0), .agg [.lit (.int .i64 0), .lit (.int .i64 0)], .slice [.agg [.lit (.int .i64 1), .lit (.int .i64 0), .agg [.lit (.int .i64 0), .lit (.int .i64 0)], .slice [] []], .agg [.lit (.int .i64 1), .lit (.int .i64 4), .agg [.lit (.int .i64 0), .lit (.int .i64 0)], .slice [] []]] []]] [], .lit (.int .i64 (-1)), .slice [] [], .slice [.lit (.int .i64 0)] [], .lit (.int .i64 (-1))]) 1) == 10))))
    else some (dat 4 (.lit (.bool false)))
   else some (dat 4 (.lit (.bool false)))
  else some (dat 4 (.lit (.bool false)))
 else some (dat 4 (.lit (.bool false))) := by kernel_rfl

end X
end
section
namespace X
open Go.Ev
set_option linter.unusedVariables false
set_option maxRecDepth 10000
set_option linter.unusedSimpArgs false

def e8 : FuncId × TypeId × (List AV -> Bool) × (List AV -> Option D) := (8, 4, yes, ent [] (f0 (some (.lit (.bool true)))))
theorem k8 : FnOK Tryd.prog 8 Tryd.f8 := ⟨Tryd.func8, rfl, by kernel_rfl⟩
theorem c8 : ∀ args d, e8.2.2.2 args = some d -> CallOK Tryd.prog 8 args (mkRes Tryd.prog 4 d) :=
 ent0 fun d h => by
  cases h
  refine fn_ok hm envA4 k8 ((t8 1).trans ?_)
  rw [m4]
  show (bif ((rowsI catTwo exQ 3) == 100) == true then (bif ((rowsI catTwo exQ 1) == 100) == true then (bif ((groupsI catTwo exQ) == 20) == true then (bif ((timesL 1 [litI 6, litI 7]) == 42) == true then some (dat 4 (.lit (.bool ((baseI catTwo exQ 1) == 10)))) else some (dat 4 (.lit (.bool false)))) else some (dat 4 (.lit (.bool false)))) else some (dat 4 (.lit (.bool false)))) else some (dat 4 (.lit (.bool false)))) = _
  rw [exQ_rows3, exQ_rows1, exQ_groups, ex_times, exQ_base]
  rfl
def A5 : Tab := e8 :: A4
theorem envA5 : EnvOK Tryd.prog (envH A5 []) := envOK_cons envA4 c8
theorem law_ok {f : FuncId} {fn : Func} {args : List AV} {env : Env} {hh : Hints} {N : Nat} (henv : EnvOK Tryd.prog env) (k : FnOK Tryd.prog f fn) (h : evFn Tryd.prog env hh N fn args = some (dat 4 (.lit (.bool true)))) : CallOK Tryd.prog f args (dat 4 (.lit (.bool true))) := by
 have h2 : evFn Tryd.prog env hh N fn args = some (mkRes Tryd.prog 4 (.lit (.bool true))) := by rw [h, m4]; rfl
 have h3 := fn_ok hm henv k h2
 rw [m4] at h3
 exact h3

end X
end
section
namespace X
open Go.Ev
set_option linter.unusedVariables false
/- roadbook/roadbooklaw09.CardSame -/
def t7_h : Hints := fun i => if i = 6 then some ([0, 1, 5, 6, 7, 10, 11, 12, 13, 14, 15, 16, 17, 18, 19, 20, 21, 22, 23, 24, 25, 26, 27, 28, 29, 30, 31, 32, 33, 34, 35, 36, 37, 38, 39, 40, 41, 42, 43, 44, 45, 46, 47, 48, 49, 50, 51, 52, 53, 54, 55, 56, 57, 58, 59, 60, 61, 62, 63, 64, 65, 66, 67, 68, 69, 70, 71, 72, 73, 74, 75, 76, 77, 78, 79, 80, 81, 82, 83, 84, 85, 86, 87, 88, 89, 90, 91, 92], [3, 4], []) else if i = 12 then some ([0, 1, 5, 6, 7, 9, 12, 13, 14, 15, 16, 17, 18, 19, 20, 21, 22, 23, 24, 25, 26, 27, 28, 29, 30, 31, 32, 33, 34, 35, 36, 37, 38, 39, 40, 41, 42, 43, 44, 45, 46, 47, 48, 49, 50, 51, 52, 53, 54, 55, 56, 57, 58, 59, 60, 61, 62, 63, 64, 65, 66, 67, 68, 69, 70, 71, 72, 73, 74, 75, 76, 77, 78, 79, 80, 81, 82, 83, 84, 85, 86, 87, 88, 89, 90, 91, 92], [3, 4, 10, 300010], []) else none
def t7_lp6 (P : Program) (fn : Func) (N n : Nat) (x0 : D) (o p s u : List D) (b r : Int) (x2 : Int) (v8 : Int) (v9 : Int) : Option AV := evLoop (preL t7_h (sub [1, 1, 1, 1, 0, 1, 0, 0] (bodyOf fn))) (evCode P (envS (envR A5 [] [] []) [(10, 1), (55, 106)]) t7_h N (sub [1, 1, 1, 1, 0, 1, 0, 0] (bodyOf fn))) n ⟨[dead, dead, dat 3 (.lit (.int .i64 x2)), bxp 3 28, bxp 4 31, dead, dead, dead, dat 3 (.lit (.int .i64 v8)), dat 3 (.lit (.int .i64 v9)), dead, dead, dead, dead, dead, dead, dead, dead, dead, dead, dead, dead, dead, dead, dead, dead, dead, dead, dead, dead, dead, dead, dead, dead, dead, dead, dead, dead, dead, dead, dead, dead, dead, dead, dead, dead, dead, dead, dead, dead, dead, dead, dead, dead, dead, dead, dead, dead, dead, dead, dead, dead, dead, dead, dead, dead, dead, dead, dead, dead, dead, dead, dead, dead, dead, dead, dead, dead, dead, dead, dead, dead, dead, dead, dead, dead, dead, dead, dead, dead, dead, dead, dead], lookB [(3, some ⟨28, x0, 0, none⟩), (4, some ⟨31, .agg [.slice o [], .slice p [], .lit (.int .i64 b), .slice s [], .slice u [], .lit (.int .i64 r)], 0, none⟩)]⟩ (blockK 0 (seqC P (envS (envR A5 [] [] []) [(10, 1), (55, 106)]) t7_h N (sub [1, 1, 1, 1, 1] (bodyOf fn)) (finK P fn) ))
def t7_lp12 (P : Program) (fn : Func) (N n : Nat) (x0 : D) (o p s u : List D) (b r : Int) (x2 : Int) (v8 : Int) (v9 : Int) (m0 : Nat) (v11 : Int) (b300010 : List D) : Option AV := evLoop (preL t7_h (sub [1, 1, 1, 1, 1, 1, 1, 0, 1, 0, 0] (bodyOf fn))) (evCode P (envS (envR A5 [] [] []) [(10, 1), (55, 106)]) t7_h N (sub [1, 1, 1, 1, 1, 1, 1, 0, 1, 0, 0] (bodyOf fn))) n ⟨[dead, dead, dat 3 (.lit (.int .i64 x2)), bxp 3 28, bxp 4 31, dead, dead, dead, dat 3 (.lit (.int .i64 v8)), dead, bxp 10 31, dat 3 (.lit (.int .i64 v11)), dead, dead, dead, dead, dead, dead, dead, dead, dead, dead, dead, dead, dead, dead, dead, dead, dead, dead, dead, dead, dead, dead, dead, dead, dead, dead, dead, dead, dead, dead, dead, dead, dead, dead, dead, dead, dead, dead, dead, dead, dead, dead, dead, dead, dead, dead, dead, dead, dead, dead, dead, dead, dead, dead, dead, dead, dead, dead, dead, dead, dead, dead, dead, dead, dead, dead, dead, dead, dead, dead, dead, dead, dead, dead, dead, dead, dead, dead, dead, dead, dead], lookB [(3, some ⟨28, x0, 0, none⟩), (4, some ⟨31, .agg [.slice o [], .slice p [], .lit (.int .i64 b), .slice s [], .slice u [], .lit (.int .i64 r)], 0, none⟩), (10, some ⟨31, .nil, 0, some (⟨7, 31, .agg [.slice o [], .slice [] [], .lit (.int .i64 b), .slice s [], .slice u [], .lit (.int .i64 r)], 0, 1, 0, [0, 300012, 0, 0, 0, 0]⟩)⟩), (300010, some ⟨29, .slice b300010 [], 1, none⟩)]⟩ (blockK 2 (seqC P (envS (envR A5 [] [] []) [(10, 1), (55, 106)]) t7_h N (sub [1, 1, 1, 1, 1, 1, 1, 1] (bodyOf fn)) (finK P fn) ))
theorem t7_lp12_step (N n : Nat) (x0 : D) (o p s u : List D) (b r : Int) (x2 : Int) (v8 : Int) (v9 : Int) (m0 : Nat) (v11 : Int) (b300010 : List D) : t7_lp12 Tryd.prog Tryd.f7 N (n + 1) x0 o p s u b r x2 v8 v9 m0 v11 b300010 =
 bif decide (v11 > 0) then
  bif (decide (0 <= (IntKind.wrap .i64 (v11 - 1))) && decide ((IntKind.wrap .i64 (v11 - 1)) < (p.length : Int))) then
   bif decide ((b300010).length + 1 <= 2147483648) then
    t7_lp12 Tryd.prog Tryd.f7 N n x0 o p s u b r x2 v8 v9 m0 (IntKind.wrap .i64 (v11 - 1)) (b300010 ++ [p.getD (IntKind.wrap .i64 (v11 - 1)).toNat .nil])
   else none
  else none
 else bif (!(v8 == 0)) then
   bif (((rowsI x0 (.agg [.slice o [], .slice p [], .lit (.int .i64 b), .slice s [], .slice u [], .lit (.int .i64 r)]) x2) == (rowsI x0 (.agg [.slice o [], .slice p [], .lit (.int .i64 b), .slice s [], .slice u [], .lit (.int .i64 r)]) (Int.tmod x2 v8))) == true) then
    bif (((rowsI x0 (.agg [.slice o [], .slice p [], .lit (.int .i64 b), .slice s [], .slice u [], .lit (.int .i64 r)]) x2) == (rowsI x0 (.agg [.slice o [], .slice b300010 [], .lit (.int .i64 b), .slice s [], .slice u [], .lit (.int .i64 r)]) x2)) == true) then
     some (dat 4 (.lit (.bool ((rowsI x0 (.agg [.slice o [], .slice p [], .lit (.int .i64 b), .slice s [], .slice u [], .lit (.int .i64 r)]) 0) == 1))))
    else some (dat 4 (.lit (.bool false)))
   else some (dat 4 (.lit (.bool false)))
  else none := by kernel_rfl
theorem t7_lp6_step (N n : Nat) (x0 : D) (o p s u : List D) (b r : Int) (x2 : Int) (v8 : Int) (v9 : Int) : t7_lp6 Tryd.prog Tryd.f7 N (n + 1) x0 o p s u b r x2 v8 v9 =
 bif decide (v9 < (o.length : Int)) then
  t7_lp6 Tryd.prog Tryd.f7 N n x0 o p s u b r x2 (IntKind.wrap .i64 (2 * v8)) (IntKind.wrap .i64 (v9 + 1))
 else t7_lp12 Tryd.prog Tryd.f7 N N x0 o p s u b r x2 v8 v9 n (p.length : Int) [] := by kernel_rfl
theorem t7 (N : Nat) (x0 : D) (o p s u : List D) (b r : Int) (x2 : Int) : evFn Tryd.prog (envS (envR A5 [] [] []) [(10, 1), (55, 106)]) t7_h N Tryd.f7 [dat 28 x0, dat 31 (.agg [.slice o [], .slice p [], .lit (.int .i64 b), .slice s [], .slice u [], .lit (.int .i64 r)]), dat 3 (.lit (.int .i64 x2))] =
 bif (((farI x0 (.agg [.slice o [], .slice p [], .lit (.int .i64 b), .slice s [], .slice u [], .lit (.int .i64 r)])) != 0) == false) then
  bif ((!(mayQ x0 (.agg [.slice o [], .slice p [], .lit (.int .i64 b), .slice s [], .slice u [], .lit (.int .i64 r)]))) == false) then
   bif ((decide (x2 < 0)) == false) then
    bif decide (x2 > 15) then
     some (dat 4 (.lit (.bool true)))
    else t7_lp6 Tryd.prog Tryd.f7 N N x0 o p s u b r x2 1 0
   else some (dat 4 (.lit (.bool true)))
  else some (dat 4 (.lit (.bool true)))
 else some (dat 4 (.lit (.bool true))) := by kernel_rfl

end X
end
end Go.Proofs.YtanjicjomcocmaaDoor
