/- Trees of functions, and lemmas. Nothing here is trusted. -/
import Derived.Test.YtpceahbengfjeaaGreatDoorZ35
namespace Go.Proofs.YtpceahbengfjeaaGreatDoor
section
namespace X
open Go.Ev
set_option linter.unusedVariables false
/- roadbook/query.expressionsMay -/
def Rl : ay := fun i => if i = 4 then some ([0, 1, 4, 5, 6, 7, 8, 9, 10, 11, 12, 16, 17, 18, 19, 20, 21, 22, 23, 24, 25, 26, 27, 28, 29, 30, 31], [2, 3], []) else none
def wX (P : Program) (fn : Func) (N n : Nat) (x0 : D) (x1 : D) (v15 : Int) : Option AV := aN (preL Rl (sub [1, 1, 0, 1, 0, 0] (ag fn))) (az P (ak Q4 [] [] []) Rl N (sub [1, 1, 0, 1, 0, 0] (ag fn))) n ⟨[dead, dead, bxp 2 24, bxp 3 31, dead, dead, dead, dead, dead, dead, dead, dead, dead, dat 29 (af x1 1), dat 3 (.lit (.int .i64 ((ae (af x1 1)).length : Int))), dat 3 (.lit (.int .i64 v15)), dead, dead, dead, dead, dead, dead, dead, dead, dead, dead, dead, dead, dead, dead, dead, dead], aZ [(2, some ⟨24, x0, 0, none⟩), (3, some ⟨31, x1, 0, none⟩)]⟩ (aG 0 (cZ P (ak Q4 [] [] []) Rl N (sub [1, 1, 1] (ag fn)) (dJ P fn) ))
theorem Ap (N n : Nat) (x0 : D) (x1 : D) (v15 : Int) : wX Tryz.prog Tryz.f84 N (n + 1) x0 x1 v15 =
 bif decide (v15 < ((ae (af x1 1)).length : Int)) then
  bif (decide (0 <= v15) && decide (v15 < ((ae (af x1 1)).length : Int))) then
   bif ((((mg ((ae (af x1 1)).getD (v15).toNat .nil)).length : Int) == 0) == false) then
    bif dn x0 x1 then
     bif (!(gm x0 x1 (mg ((ae (af x1 1)).getD (v15).toNat .nil)))) then
      some (dat 4 (.lit (.bool false)))
     else wX Tryz.prog Tryz.f84 N n x0 x1 (IntKind.wrap .i64 (v15 + 1))
    else none
   else some (dat 4 (.lit (.bool false)))
  else none
 else some (dat 4 (.lit (.bool true))) := by kernel_rfl
theorem t84 (N : Nat) (x0 : D) (x1 : D) : aU Tryz.prog (ak Q4 [] [] []) Rl N Tryz.f84 [dat 24 x0, dat 31 x1] =
 bif decide (((ae (af x1 1)).length : Int) > 6) then
  some (dat 4 (.lit (.bool false)))
 else wX Tryz.prog Tryz.f84 N N x0 x1 0 := by kernel_rfl
/- roadbook/query.toldMay -/
def KL : ay := fun i => if i = 4 then some ([0, 1, 2, 4, 5, 6, 7, 8, 9, 10, 11, 12, 13, 14, 15, 16, 17, 18, 19, 20, 21, 22, 23, 24, 25, 26, 27, 28, 29, 30, 31, 35, 36, 37, 38, 39, 40, 41, 42, 43, 44, 45, 46, 47, 48, 49, 50, 51, 52, 53, 54, 55], [3], []) else none
def wu (P : Program) (fn : Func) (N n : Nat) (x0 : D) (x1 : D) (v34 : Int) : Option AV := aN (preL KL (sub [1, 1, 0, 1, 0, 0] (ag fn))) (az P (ak Q4 [] [] []) KL N (sub [1, 1, 0, 1, 0, 0] (ag fn))) n ⟨[dead, dead, dead, bxp 3 31, dead, dead, dead, dead, dead, dead, dead, dead, dead, dead, dead, dead, dead, dead, dead, dead, dead, dead, dead, dead, dead, dead, dead, dead, dead, dead, dead, dead, dat 28 (af x1 4), dat 3 (.lit (.int .i64 ((ae (af x1 4)).length : Int))), dat 3 (.lit (.int .i64 v34)), dead, dead, dead, dead, dead, dead, dead, dead, dead, dead, dead, dead, dead, dead, dead, dead, dead, dead, dead, dead, dead], aZ [(3, some ⟨31, x1, 0, none⟩)]⟩ (aG 0 (cZ P (ak Q4 [] [] []) KL N (sub [1, 1, 1] (ag fn)) (dJ P fn) ))
theorem xF (N n : Nat) (x0 : D) (x1 : D) (v34 : Int) : wu Tryz.prog Tryz.f131 N (n + 1) x0 x1 v34 =
 bif decide (v34 < ((ae (af x1 4)).length : Int)) then
  bif (decide (0 <= v34) && decide (v34 < ((ae (af x1 4)).length : Int))) then
   bif (decide (0 <= (0 : Int)) && decide ((0 : Int) <= v34) && decide (v34 <= ((ae (af x1 4)).length : Int))) then
    bif hasB (((ae (af x1 4)).drop ((0 : Int) : Int).toNat).take (v34 - (0 : Int)).toNat) (intD ((ae (af x1 4)).getD (v34).toNat .nil)) then
     some (dat 4 (.lit (.bool false)))
    else wu Tryz.prog Tryz.f131 N n x0 x1 (IntKind.wrap .i64 (v34 + 1))
   else none
  else none
 else bif (((intD (af x1 5)) == (-1)) == false) then
   some (dat 4 (.lit (.bool (hasB (ae (af x1 4)) (intD (af x1 5))))))
  else some (dat 4 (.lit (.bool true))) := by kernel_rfl
theorem t131 (N : Nat) (x0 : D) (x1 : D) : aU Tryz.prog (ak Q4 [] [] []) KL N Tryz.f131 [dat 24 x0, dat 31 x1] =
 bif ((decide (((ae (af x1 3)).length : Int) > 0)) == false) then
  bif ((decide (((ae (af x1 4)).length : Int) < 1)) == false) then
   bif ((decide (((ae (af x1 4)).length : Int) > 8)) == false) then
    bif dn x0 x1 then
     bif (!(gm x0 x1 (ae (af x1 4)))) then
      some (dat 4 (.lit (.bool false)))
     else wu Tryz.prog Tryz.f131 N N x0 x1 0
    else none
   else some (dat 4 (.lit (.bool false)))
  else some (dat 4 (.lit (.bool false)))
 else some (dat 4 (.lit (.bool false))) := by kernel_rfl
/- roadbook/query.groupsMay -/
def acC : ay := fun _ =>  none
theorem ag7 (N : Nat) (x0 : D) (x1 : D) : aU Tryz.prog (ak Q4 [] [] []) acC N Tryz.f132 [dat 24 x0, dat 31 x1] =
 bif dn x0 x1 then
  bif ((!(jT x0 x1 (intD (af x1 2)))) == false) then
   bif ((decide (((ae (af x1 3)).length : Int) > 4)) == false) then
    bif dn x0 x1 then
     bif ((!(gm x0 x1 (ae (af x1 3)))) == false) then
      bif decide (((ae (af x1 4)).length : Int) > 0) then
       some (dat 4 (.lit (.bool false)))
      else bif (((intD (af x1 5)) == (-1)) == false) then
        some (dat 4 (.lit (.bool ((intD (af x1 5)) == (intD (af x1 2))))))
       else some (dat 4 (.lit (.bool true)))
     else some (dat 4 (.lit (.bool false)))
    else none
   else some (dat 4 (.lit (.bool false)))
  else some (dat 4 (.lit (.bool false)))
 else none := by kernel_rfl
/- roadbook/query.New$1 -/
/- roadbook/query.places -/
end X
end
section
namespace X
open Go.Ev
set_option linter.unusedVariables false
set_option maxRecDepth 10000
set_option linter.unusedSimpArgs false
def e84 : FuncId × TypeId × (List AV -> Bool) × (List AV -> Option D) := (84, 4, jU (q2 fun x y => dn x y), ent [24, 31] (f2 fun x y => some (.lit (.bool (l9 x y)))))
theorem k84 : FnOK Tryz.prog 84 Tryz.f84 := ⟨Tryz.func84, rfl, by kernel_rfl⟩
theorem c84 : ∀ args d, e84.2.2.1 args = true -> e84.2.2.2 args = some d -> CallOK Tryz.prog 84 args (aj Tryz.prog 4 d) :=
 qG k84 fun x y d hq h _ ⟨_, hy⟩ => by
  cases h
  rw [tX, xX]
  have hl : (ae (af y 1)).length <= maxLen := (tyQ hy).p
  have hq : dn x y = true := hq
  refine aI hm Tj k84 ((t84 ((ae (af y 1)).length + 1) x y).trans ?_)
  have lp : wX Tryz.prog Tryz.f84 ((ae (af y 1)).length + 1) ((ae (af y 1)).length + 1) x y 0 = some (dat 4 (.lit (.bool ((ae (af y 1)).all (Ff x y))))) := by
   have := jl (fun n v => wX Tryz.prog Tryz.f84 ((ae (af y 1)).length + 1) n x y v) (ae (af y 1)).length (fun i => !Ff x y ((ae (af y 1)).getD i .nil)) (some (dat 4 (.lit (.bool false)))) (some (dat 4 (.lit (.bool true))))
    (fun n i hi => by
     rw [Ap, bG hi, eY hi, cond_true, cond_true, Int.toNat_natCast, fE hl hi, hq, acm, cond_true]
     unfold Ff
     generalize wX Tryz.prog Tryz.f84 ((ae (af y 1)).length + 1) n x y ((i + 1 : Nat) : Int) = W
     cases (mg ((ae (af y 1)).getD i .nil)).isEmpty <;> cases gm x y (mg ((ae (af y 1)).getD i .nil)) <;> rfl)
    (fun n => by rw [Ap, fB (by omega), cond_false]) ((ae (af y 1)).length + 1) 0 (Nat.zero_le _) (by omega)
   refine this.trans ?_
   rw [Nat.sub_zero, rO (ae (af y 1)) (fun o => !Ff x y o), ED]
   cases (ae (af y 1)).all (Ff x y) <;> rfl
  rw [m4, lp]
  show _ = some (dat 4 (.lit (.bool (l9 x y))))
  unfold l9 qP
  rw [show decide (((ae (af y 1)).length : Int) > 6) = _ from TI 6]
  cases decide ((ae (af y 1)).length <= 6) <;> rfl
def aaB : FuncId × TypeId × (List AV -> Bool) × (List AV -> Option D) := (131, 4, jU (q2 fun x y => dn x y), ent [24, 31] (f2 fun x y => some (.lit (.bool (JO x y)))))
theorem aeX : FnOK Tryz.prog 131 Tryz.f131 := ⟨Tryz.func131, rfl, by kernel_rfl⟩
theorem c131 : ∀ args d, aaB.2.2.1 args = true -> aaB.2.2.2 args = some d -> CallOK Tryz.prog 131 args (aj Tryz.prog 4 d) :=
 qG aeX fun x y d hq h _ ⟨_, hy⟩ => by
  cases h
  rw [tX, xX]
  have hl : (ae (af y 4)).length <= maxLen := (tyQ hy).out
  have hq : dn x y = true := hq
  refine aI hm Tj aeX ((t131 ((ae (af y 4)).length + 1) x y).trans ?_)
  have lp : wu Tryz.prog Tryz.f131 ((ae (af y 4)).length + 1) ((ae (af y 4)).length + 1) x y 0 = some (dat 4 (.lit (.bool (!P6 (ae (af y 4)) && (intD (af y 5) == -1 || hasB (ae (af y 4)) (intD (af y 5))))))) := by
   have := jl (fun n v => wu Tryz.prog Tryz.f131 ((ae (af y 4)).length + 1) n x y v) (ae (af y 4)).length (fun i => hasB ((ae (af y 4)).take i) (intD ((ae (af y 4)).getD i .nil))) (some (dat 4 (.lit (.bool false)))) (some (dat 4 (.lit (.bool (intD (af y 5) == -1 || hasB (ae (af y 4)) (intD (af y 5)))))))
    (fun n i hi => by
     have ht : (decide (0 <= (0 : Int)) && decide ((0 : Int) <= (i : Int)) && decide ((i : Int) <= ((ae (af y 4)).length : Int))) = true := by
      simp only [Bool.and_eq_true, decide_eq_true_eq]
      omega
     rw [xF, bG hi, eY hi, cond_true, cond_true, ht, cond_true, Int.sub_zero, Int.toNat_natCast, fE hl hi, show ((0 : Int)).toNat = 0 from rfl, List.drop_zero])
    (fun n => by
     rw [xF, fB (by omega), cond_false]
     cases (intD (af y 5) == -1) <;> rfl) ((ae (af y 4)).length + 1) 0 (Nat.zero_le _) (by omega)
   refine this.trans ?_
   unfold P6
   rw [Nat.sub_zero]
   cases (List.range' 0 (ae (af y 4)).length).any fun i => hasB ((ae (af y 4)).take i) (intD ((ae (af y 4)).getD i .nil)) <;> rfl
  rw [m4, lp, hq]
  show _ = some (dat 4 (.lit (.bool (JO x y))))
  unfold JO kS uM yh
  rw [VR, show decide (((ae (af y 4)).length : Int) < 1) = _ from Z7 1, show decide (((ae (af y 4)).length : Int) > 8) = _ from TI 8]
  generalize (!P6 (ae (af y 4)) && (intD (af y 5) == -1 || hasB (ae (af y 4)) (intD (af y 5)))) = W
  cases (ae (af y 3)).isEmpty <;> cases decide (1 <= (ae (af y 4)).length) <;> cases decide ((ae (af y 4)).length <= 8) <;> cases gm x y (ae (af y 4)) <;> rfl
def acR : FuncId × TypeId × (List AV -> Bool) × (List AV -> Option D) := (132, 4, jU (q2 fun x y => dn x y), ent [24, 31] (f2 fun x y => some (.lit (.bool (xf x y)))))
theorem adH : FnOK Tryz.prog 132 Tryz.f132 := ⟨Tryz.func132, rfl, by kernel_rfl⟩
theorem agE : ∀ args d, acR.2.2.1 args = true -> acR.2.2.2 args = some d -> CallOK Tryz.prog 132 args (aj Tryz.prog 4 d) :=
 qG adH fun x y d hq h _ _ => by
  cases h
  rw [tX, xX]
  have hq : dn x y = true := hq
  refine aI hm Tj adH ((ag7 1 x y).trans ?_)
  rw [m4, hq]
  show _ = some (dat 4 (.lit (.bool (xf x y))))
  unfold xf kS uM yh qBy
  rw [VR, show decide (((ae (af y 3)).length : Int) > 4) = _ from TI 4]
  cases jT x y (intD (af y 2)) <;> cases decide ((ae (af y 3)).length <= 4) <;> cases gm x y (ae (af y 3)) <;> cases (ae (af y 4)).isEmpty <;> cases (intD (af y 5) == -1) <;> rfl
def setOf (x : D) : Int := intD (abQ x)
def aeT (x : D) : Bool := acY 76 3 x
def ahH (x y : D) : Option D := bif aeT y then some (.slice (plc (fun e => MB (setOf y) (ofE e)) (qP x) 0) []) else none
def Q5 : Tab := acR :: aaB :: e84 :: Q4
theorem aab : EnvOK Tryz.prog (bT Q5 []) := aO (aO (aO Tj c84) c131) agE
end X
end
section
namespace X
open Go.Ev
set_option linter.unusedVariables false
/- roadbook/query.places -/
/- roadbook/query.endMay -/
def afe : ay := fun _ =>  none
theorem t85 (N : Nat) (x0 : D) (x1 : D) : aU Tryz.prog (ak Q5 [] [] []) afe N Tryz.f85 [dat 24 x0, dat 31 x1] =
 bif ((intD (af x1 2)) == (-1)) then
  bif dn x0 x1 then
   some (dat 4 (.lit (.bool (JO x0 x1))))
  else none
 else bif dn x0 x1 then
   some (dat 4 (.lit (.bool (xf x0 x1))))
  else none := by kernel_rfl
/- roadbook/query.Own -/
end X
end
section
namespace X
open Go.Ev
set_option linter.unusedVariables false
set_option maxRecDepth 10000
set_option linter.unusedSimpArgs false
def e85 : FuncId × TypeId × (List AV -> Bool) × (List AV -> Option D) := (85, 4, jU (q2 fun x y => dn x y), ent [24, 31] (f2 fun x y => some (.lit (.bool (QP x y)))))
theorem k85 : FnOK Tryz.prog 85 Tryz.f85 := ⟨Tryz.func85, rfl, by kernel_rfl⟩
theorem c85 : ∀ args d, e85.2.2.1 args = true -> e85.2.2.2 args = some d -> CallOK Tryz.prog 85 args (aj Tryz.prog 4 d) :=
 qG k85 fun x y d hq h _ _ => by
  cases h
  rw [tX, xX]
  have hq : dn x y = true := hq
  refine aI hm aab k85 ((t85 1 x y).trans ?_)
  rw [m4, hq]
  show _ = some (dat 4 (.lit (.bool (QP x y))))
  unfold QP qBy
  cases (intD (af y 2) == -1) <;> rfl
def Q6 : Tab := e85 :: Q5
theorem aeb : EnvOK Tryz.prog (bT Q6 []) := aO aab c85
end X
end
section
namespace X
open Go.Ev
set_option linter.unusedVariables false
/- roadbook/query.May -/
def ady : ay := fun _ =>  none
theorem t32 (N : Nat) (x0 : D) (x1 : D) : aU Tryz.prog (ak Q6 [] [] []) ady N Tryz.f32 [dat 24 x0, dat 31 x1] =
 bif ((lL x0) == true) then
  bif ((dn x0 x1) == true) then
   bif dn x0 x1 then
    bif ((l9 x0 x1) == true) then
     bif dn x0 x1 then
      some (dat 4 (.lit (.bool (QP x0 x1))))
     else none
    else some (dat 4 (.lit (.bool false)))
   else none
  else some (dat 4 (.lit (.bool false)))
 else some (dat 4 (.lit (.bool false))) := by kernel_rfl
/- roadbook/query.New -/
end X
end
section
namespace X
open Go.Ev
set_option linter.unusedVariables false
set_option maxRecDepth 10000
set_option linter.unusedSimpArgs false
def e32 : FuncId × TypeId × (List AV -> Bool) × (List AV -> Option D) := (32, 4, yes, ent [24, 31] (f2 fun x y => some (.lit (.bool (HY x y)))))
theorem k32 : FnOK Tryz.prog 32 Tryz.f32 := ⟨Tryz.func32, rfl, by kernel_rfl⟩
theorem c32 : ∀ args d, e32.2.2.2 args = some d -> CallOK Tryz.prog 32 args (aj Tryz.prog 4 d) :=
 gD k32 fun x y d h _ _ => by
  cases h
  rw [tX, xX]
  refine aI hm aeb k32 ((t32 1 x y).trans ?_)
  rw [m4]
  show _ = some (dat 4 (.lit (.bool (HY x y))))
  unfold HY
  cases lL x <;> cases dn x y <;> cases l9 x y <;> rfl
end X
end
end Go.Proofs.YtpceahbengfjeaaGreatDoor
