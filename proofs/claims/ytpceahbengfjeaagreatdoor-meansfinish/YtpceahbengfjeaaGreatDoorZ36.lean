/- Trees of functions, and lemmas. Nothing here is trusted. -/
import Derived.Test.YtpceahbengfjeaaGreatDoorZ35
namespace Go.Proofs.YtpceahbengfjeaaGreatDoor
section
namespace X
open Go.Ev
set_option linter.unusedVariables false
set_option maxRecDepth 10000
set_option linter.unusedSimpArgs false
theorem Ew (l : List D) (f : D -> Bool) : l.any (fun x => !f x) = !l.all f := by rw [List.all_eq_not_any_not, Bool.not_not]
theorem LK (ts : List D) : ts.any (fun t => !mayDef t) = !ts.all gp := Ew ts gp
theorem aak (k : Nat) {a : Nat} : decide ((a : Int) < (k : Int)) = !decide (k <= a) := by by_cases h : k <= a <;> simp [h] <;> omega
theorem RJ (k : Nat) {a : Nat} : decide ((a : Int) > (k : Int)) = !decide (a <= k) := by by_cases h : a <= k <;> simp [h] <;> omega
theorem XW {l : List D} : decide ((l.length : Int) > 0) = !l.isEmpty := by cases l <;> simp
theorem abE {l : List D} : ((l.length : Int) == 0) = l.isEmpty := by
 cases l with
 | nil => rfl
 | cons a l => rw [beq_eq_false_iff_ne.2 (by rw [List.length_cons]; omega)]; rfl
theorem LM (z : Int) : 0 <= dB z /\ dB z < 4 := by
 by_cases h : 0 <= z /\ z < 16
 ·rw [(vI h).1]; omega
 ·rw [(BG h).1]; omega
theorem Ho {z : Int} (h : 0 <= z /\ z < 16) : IntKind.wrap .i64 (Int.tdiv z 4) = z / 4 := by
 rw [Int.tdiv_eq_ediv_of_nonneg h.1, aH (l_in (by omega) (by omega))]
def e78 : FuncId × TypeId × (List AV -> Bool) × (List AV -> Option D) := (78, 3, yes, ent [3, 3] (f2 fun x y => some (.lit (.int .i64 (Ci (intD x) (intD y))))))
theorem k78 : FnOK Tryz.prog 78 Tryz.f78 := ⟨Tryz.func78, rfl, by kernel_rfl⟩
theorem c78 : ∀ args d, e78.2.2.2 args = some d -> CallOK Tryz.prog 78 args (aj Tryz.prog 3 d) :=
 gB k78 fun x y d h _ _ => by
  cases h
  rw [n3, n3]
  refine aI hm OQ k78 ((t78 1 (intD x) (intD y)).trans ?_)
  rw [m3]
  show _ = some (dat 3 (.lit (.int .i64 (Ci (intD x) (intD y)))))
  generalize intD x = a
  generalize intD y = b
  cases h1 : bF a 4 with
  | false => rw [zN (by have := mF.1 h1; omega)]; rfl
  | true =>
   cases h2 : bF b 4 with
   | false => rw [zN (by have := mF.1 h2; omega)]; rfl
   | true =>
    have a1 := dw.1 h1
    have a2 := dw.1 h2
    rw [EM a1 a2, aH (z := a * 4) (l_in (by omega) (by omega)), aH (l_in (by omega) (by omega))]; rfl
def VJ : FuncId × TypeId × (List AV -> Bool) × (List AV -> Option D) := (184, 175, yes, ent [3] (f1 fun x => some (.agg [.lit (.int .i64 (dB (intD x))), .lit (.int .i64 (splitB (intD x))), .lit (.bool (bF (intD x) 16))])))
theorem Vt : FnOK Tryz.prog 184 Tryz.f184 := ⟨Tryz.func184, rfl, by kernel_rfl⟩
theorem ab8 : ∀ args d, VJ.2.2.2 args = some d -> CallOK Tryz.prog 184 args (aj Tryz.prog 175 d) :=
 mG Vt fun x d h _ => by
  cases h
  rw [n3]
  refine aI hm OQ Vt ((abK 1 (intD x)).trans ?_)
  rw [aaQ]
  generalize intD x = z
  cases h1 : bF z 16 with
  | false =>
   obtain ⟨a, b⟩ := BG (z := z) (mF.1 h1)
   rw [a, b]; rfl
  | true =>
   have h2 := dw.1 h1
   obtain ⟨a, b⟩ := vI h2
   rw [a, b, Ho h2, Int.tmod_eq_emod_of_nonneg h2.1]; rfl
def e82 : FuncId × TypeId × (List AV -> Bool) × (List AV -> Option D) := (82, 4, yes, ent [24] (f1 fun x => some (.lit (.bool (kY x)))))
theorem k82 : FnOK Tryz.prog 82 Tryz.f82 := ⟨Tryz.func82, rfl, by kernel_rfl⟩
theorem c82 : ∀ args d, e82.2.2.2 args = some d -> CallOK Tryz.prog 82 args (aj Tryz.prog 4 d) :=
 mG k82 fun x d h ⟨_, hx⟩ => by
  cases h
  rw [tq]
  obtain ⟨ts, rfl, hl, _⟩ := MM hx
  refine aI hm OQ k82 ((t82 (ts.length + 1) (lH ts)).trans ?_)
  rw [m4, iw]
  have := jl (fun n v => lU Tryz.prog Tryz.f82 (ts.length + 1) n (lH ts) v) ts.length (fun i => !mayDef (ts.getD i .nil)) (some (dat 4 (.lit (.bool false)))) (some (dat 4 (.lit (.bool true))))
   (fun n i hi => by
    rw [lJ, iw, bG hi, eQ hi, Int.toNat_natCast, DD, fB hl hi, cond_true, cond_true])
   (fun n => by rw [lJ, iw, eX (by omega), cond_false]) (ts.length + 1) 0 (Nat.zero_le _) (by omega)
  have this : lU Tryz.prog Tryz.f82 (ts.length + 1) (ts.length + 1) (lH ts) 0 = _ := this
  rw [this, Nat.sub_zero, rG ts (fun t => !mayDef t), LK]
  show _ = some (dat 4 (.lit (.bool ((decide (1 <= ts.length) && decide (ts.length <= 4)) && ts.all gp))))
  by_cases h1 : 1 <= ts.length
  ·by_cases h4 : ts.length <= 4
   ·rw [dF (show ¬ ((ts.length : Int)) < 1 by omega), dF (show ¬ ((ts.length : Int)) > 4 by omega), dT h1, dT h4]
    cases ts.all gp <;> rfl
   ·rw [dF (show ¬ ((ts.length : Int)) < 1 by omega), dT (show ((ts.length : Int)) > 4 by omega), dT h1, dF h4]
    rfl
  ·rw [dT (show ((ts.length : Int)) < 1 by omega), dF h1]
   rfl
def e83 : FuncId × TypeId × (List AV -> Bool) × (List AV -> Option D) := (83, 4, yes, ent [24, 31] (f2 fun x y => some (.lit (.bool (dn x y)))))
theorem k83 : FnOK Tryz.prog 83 Tryz.f83 := ⟨Tryz.func83, rfl, by kernel_rfl⟩
theorem c83 : ∀ args d, e83.2.2.2 args = some d -> CallOK Tryz.prog 83 args (aj Tryz.prog 4 d) :=
 gB k83 fun x y d h _ ⟨_, hy⟩ => by
  cases h
  rw [tq, xY]
  have hq : (ae (af y 0)).length <= maxLen := (tyQ hy).occ
  refine aI hm OQ k83 ((t83 ((ae (af y 0)).length + 1) x y).trans ?_)
  have lp : A8 Tryz.prog Tryz.f83 ((ae (af y 0)).length + 1) ((ae (af y 0)).length + 1) x y 0 = some (dat 4 (.lit (.bool ((ae (af y 0)).all fun o => bF (intD o) ((ae (af x 0)).length : Int))))) := by
   have := jl (fun n v => A8 Tryz.prog Tryz.f83 ((ae (af y 0)).length + 1) n x y v) (ae (af y 0)).length (fun i => !belowB (intD ((ae (af y 0)).getD i .nil)) ((ae (af x 0)).length : Int)) (some (dat 4 (.lit (.bool false)))) (some (dat 4 (.lit (.bool true))))
    (fun n i hi => by rw [AO, bG hi, eQ hi, cond_true, cond_true, Int.toNat_natCast, fB hq hi])
    (fun n => by rw [AO, eX (by omega), cond_false]) ((ae (af y 0)).length + 1) 0 (Nat.zero_le _) (by omega)
   refine this.trans ?_
   rw [Nat.sub_zero, rG (ae (af y 0)) (fun o => !belowB (intD o) ((ae (af x 0)).length : Int)), Ew]
   cases (ae (af y 0)).all fun o => bF (intD o) ((ae (af x 0)).length : Int) <;> rfl
  rw [m4, lp]
  show _ = some (dat 4 (.lit (.bool (dn x y))))
  unfold dn dQ tabs
  rw [show decide (((ae (af y 0)).length : Int) < 1) = _ from aak 1, show decide (((ae (af y 0)).length : Int) > 4) = _ from RJ 4]
  cases decide (1 <= (ae (af y 0)).length) <;> cases decide ((ae (af y 0)).length <= 4) <;> rfl
def Q2 : Tab := e83 :: e82 :: VJ :: e78 :: Q1
theorem aap : EnvOK Tryz.prog (bT Q2 []) := ah (ah (ah (ah OQ c78) ab8) c82) c83
end X
end
section
namespace X
open Go.Ev
set_option linter.unusedVariables false
/- roadbook/query.isColumn -/
def aaB : ay := fun _ =>  none
theorem t167 (N : Nat) (x0 : D) (x1 : D) (x2 : Int) : aU Tryz.prog (ak Q2 [] [] []) aaB N Tryz.f167 [dat 24 x0, dat 31 x1, dat 3 (.lit (.int .i64 x2))] =
 bif ((bF x2 16) == true) then
  bif ((decide ((dB x2) < ((ae (af x1 0)).length : Int))) == true) then
   bif (decide (0 <= (dB x2)) && decide ((dB x2) < ((ae (af x1 0)).length : Int))) then
    bif (decide (0 <= (intD ((ae (af x1 0)).getD (dB x2).toNat .nil))) && decide ((intD ((ae (af x1 0)).getD (dB x2).toNat .nil)) < ((ae (af x0 0)).length : Int))) then
     some (dat 4 (.lit (.bool (decide ((splitB x2) < (intD (af ((ae (af x0 0)).getD (intD ((ae (af x1 0)).getD (dB x2).toNat .nil)).toNat .nil) 0)))))))
    else none
   else none
  else some (dat 4 (.lit (.bool false)))
 else some (dat 4 (.lit (.bool false))) := by kernel_rfl
/- roadbook/query.ofColumn -/
end X
end
section
namespace X
open Go.Ev
set_option linter.unusedVariables false
set_option maxRecDepth 10000
set_option linter.unusedSimpArgs false
theorem JI {c q : D} (h : dn c q = true) {i : Nat} (hi : i < (dQ q).length) : 0 <= intD ((dQ q).getD i .nil) /\ intD ((dQ q).getD i .nil) < ((tabs c).length : Int) := by
 unfold dn at h
 rw [Bool.and_eq_true, List.all_eq_true] at h
 have := h.2 _ (List.getElem_mem hi)
 rw [dA hi]
 exact dw.1 this
def e167 : FuncId × TypeId × (List AV -> Bool) × (List AV -> Option D) := (167, 4, jS (q3 fun x y _ => dn x y), ent [24, 31, 3] (f3 fun x y z => some (.lit (.bool (lW x y (intD z))))))
theorem aeA : FnOK Tryz.prog 167 Tryz.f167 := ⟨Tryz.func167, rfl, by kernel_rfl⟩
theorem c167 : ∀ args d, e167.2.2.1 args = true -> e167.2.2.2 args = some d -> CallOK Tryz.prog 167 args (aj Tryz.prog 4 d) :=
 Jg aeA fun x y z d hq h _ _ _ => by
  cases h
  rw [tq, xY, n3]
  refine aI hm aap aeA ((t167 1 x y (intD z)).trans ?_)
  rw [m4]
  show _ = some (dat 4 (.lit (.bool (lW x y (intD z)))))
  generalize intD z = v
  unfold lW
  obtain ⟨h0, _⟩ := LM v
  cases h1 : bF v 16 with
  | false => rfl
  | true =>
   by_cases h2 : dB v < ((dQ y).length : Int)
   ·have h2' : dB v < ((ae (af y 0)).length : Int) := h2
    have hb := JI hq (i := (dB v).toNat) (by omega)
    have b1 : 0 <= intD ((ae (af y 0)).getD (dB v).toNat .nil) := hb.1
    have b2 : intD ((ae (af y 0)).getD (dB v).toNat .nil) < ((ae (af x 0)).length : Int) := hb.2
    rw [dT h2, dT h2', dT h0, dT b1, dT b2]
    rfl
   ·have h2' : ¬ dB v < ((ae (af y 0)).length : Int) := h2
    rw [dF h2, dF h2']
    rfl
def Q3 : Tab := e167 :: Q2
theorem aax : EnvOK Tryz.prog (bT Q3 []) := aO aap c167
end X
end
section
namespace X
open Go.Ev
set_option linter.unusedVariables false
/- roadbook/query.areColumns -/
def KF : ay := fun i => if i = 2 then some ([0, 1, 2, 5, 6, 7, 8, 12, 13, 14, 15, 16, 17, 18, 19, 20], [3, 4], []) else none
def Bi (P : Program) (fn : Func) (N n : Nat) (x0 : D) (x1 : D) (x2 : D) (v11 : Int) : Option AV := aN (preL KF (sub [1, 0, 1, 0, 0] (ag fn))) (az P (ak Q3 [] [] []) KF N (sub [1, 0, 1, 0, 0] (ag fn))) n ⟨[dead, dead, dead, bxp 3 24, bxp 4 31, dead, dead, dead, dead, dat 28 x2, dat 3 (.lit (.int .i64 ((ae x2).length : Int))), dat 3 (.lit (.int .i64 v11)), dead, dead, dead, dead, dead, dead, dead, dead, dead], bf [(3, some ⟨24, x0, 0, none⟩), (4, some ⟨31, x1, 0, none⟩)]⟩ (aG 0 (cZ P (ak Q3 [] [] []) KF N (sub [1, 1] (ag fn)) (dJ P fn) ))
theorem xB (N n : Nat) (x0 : D) (x1 : D) (x2 : D) (v11 : Int) : Bi Tryz.prog Tryz.f130 N (n + 1) x0 x1 x2 v11 =
 bif decide (v11 < ((ae x2).length : Int)) then
  bif (decide (0 <= v11) && decide (v11 < ((ae x2).length : Int))) then
   bif dn x0 x1 then
    bif (!(lW x0 x1 (intD ((ae x2).getD (v11).toNat .nil)))) then
     some (dat 4 (.lit (.bool false)))
    else Bi Tryz.prog Tryz.f130 N n x0 x1 x2 (IntKind.wrap .i64 (v11 + 1))
   else none
  else none
 else some (dat 4 (.lit (.bool true))) := by kernel_rfl
theorem t130 (N : Nat) (x0 : D) (x1 : D) (x2 : D) : aU Tryz.prog (ak Q3 [] [] []) KF N Tryz.f130 [dat 24 x0, dat 31 x1, dat 28 x2] =
 Bi Tryz.prog Tryz.f130 N N x0 x1 x2 0 := by kernel_rfl
/- roadbook/query.Of -/
end X
end
section
namespace X
open Go.Ev
set_option linter.unusedVariables false
set_option maxRecDepth 10000
set_option linter.unusedSimpArgs false
def abL : FuncId × TypeId × (List AV -> Bool) × (List AV -> Option D) := (130, 4, jS (q3 fun x y _ => dn x y), ent [24, 31, 28] (f3 fun x y z => some (.lit (.bool (fU x y (ae z))))))
theorem aeM : FnOK Tryz.prog 130 Tryz.f130 := ⟨Tryz.func130, rfl, by kernel_rfl⟩
theorem c130 : ∀ args d, abL.2.2.1 args = true -> abL.2.2.2 args = some d -> CallOK Tryz.prog 130 args (aj Tryz.prog 4 d) :=
 Jg aeM fun x y z d hq h _ _ ⟨_, hz⟩ => by
  cases h
  rw [tq, xY, n27]
  have hl := WN hz
  have hq : dn x y = true := hq
  refine aI hm aax aeM ((t130 ((ae z).length + 1) x y z).trans ?_)
  rw [m4]
  have := jl (fun n v => Bi Tryz.prog Tryz.f130 ((ae z).length + 1) n x y z v) (ae z).length (fun i => !isColB x y (intD ((ae z).getD i .nil))) (some (dat 4 (.lit (.bool false)))) (some (dat 4 (.lit (.bool true))))
   (fun n i hi => by rw [xB, bG hi, eQ hi, hq, cond_true, cond_true, cond_true, Int.toNat_natCast, fB hl hi])
   (fun n => by rw [xB, eX (by omega), cond_false]) ((ae z).length + 1) 0 (Nat.zero_le _) (by omega)
  refine this.trans ?_
  rw [Nat.sub_zero, rG (ae z) (fun o => !isColB x y (intD o)), Ew]
  show _ = some (dat 4 (.lit (.bool (fU x y (ae z)))))
  unfold fU
  cases (ae z).all fun x_1 => lW x y (intD x_1) <;> rfl
def Q4 : Tab := abL :: Q3
theorem RV : EnvOK Tryz.prog (bT Q4 []) := aO aax c130
end X
end
section
namespace X
open Go.Ev
set_option linter.unusedVariables false
/- roadbook/query.expressionsMay -/
def Tq : ay := fun i => if i = 4 then some ([0, 1, 4, 5, 6, 7, 8, 9, 10, 11, 12, 16, 17, 18, 19, 20, 21, 22, 23, 24, 25, 26, 27, 28, 29, 30, 31], [2, 3], []) else none
def wI (P : Program) (fn : Func) (N n : Nat) (x0 : D) (x1 : D) (v15 : Int) : Option AV := aN (preL Tq (sub [1, 1, 0, 1, 0, 0] (ag fn))) (az P (ak Q4 [] [] []) Tq N (sub [1, 1, 0, 1, 0, 0] (ag fn))) n ⟨[dead, dead, bxp 2 24, bxp 3 31, dead, dead, dead, dead, dead, dead, dead, dead, dead, dat 29 (af x1 1), dat 3 (.lit (.int .i64 ((ae (af x1 1)).length : Int))), dat 3 (.lit (.int .i64 v15)), dead, dead, dead, dead, dead, dead, dead, dead, dead, dead, dead, dead, dead, dead, dead, dead], bf [(2, some ⟨24, x0, 0, none⟩), (3, some ⟨31, x1, 0, none⟩)]⟩ (aG 0 (cZ P (ak Q4 [] [] []) Tq N (sub [1, 1, 1] (ag fn)) (dJ P fn) ))
theorem yS (N n : Nat) (x0 : D) (x1 : D) (v15 : Int) : wI Tryz.prog Tryz.f84 N (n + 1) x0 x1 v15 =
 bif decide (v15 < ((ae (af x1 1)).length : Int)) then
  bif (decide (0 <= v15) && decide (v15 < ((ae (af x1 1)).length : Int))) then
   bif ((((mg ((ae (af x1 1)).getD (v15).toNat .nil)).length : Int) == 0) == false) then
    bif dn x0 x1 then
     bif (!(fU x0 x1 (mg ((ae (af x1 1)).getD (v15).toNat .nil)))) then
      some (dat 4 (.lit (.bool false)))
     else wI Tryz.prog Tryz.f84 N n x0 x1 (IntKind.wrap .i64 (v15 + 1))
    else none
   else some (dat 4 (.lit (.bool false)))
  else none
 else some (dat 4 (.lit (.bool true))) := by kernel_rfl
theorem t84 (N : Nat) (x0 : D) (x1 : D) : aU Tryz.prog (ak Q4 [] [] []) Tq N Tryz.f84 [dat 24 x0, dat 31 x1] =
 bif decide (((ae (af x1 1)).length : Int) > 6) then
  some (dat 4 (.lit (.bool false)))
 else wI Tryz.prog Tryz.f84 N N x0 x1 0 := by kernel_rfl
/- roadbook/query.toldMay -/
def Mc : ay := fun i => if i = 4 then some ([0, 1, 2, 4, 5, 6, 7, 8, 9, 10, 11, 12, 13, 14, 15, 16, 17, 18, 19, 20, 21, 22, 23, 24, 25, 26, 27, 28, 29, 30, 31, 35, 36, 37, 38, 39, 40, 41, 42, 43, 44, 45, 46, 47, 48, 49, 50, 51, 52, 53, 54, 55], [3], []) else none
def vK (P : Program) (fn : Func) (N n : Nat) (x0 : D) (x1 : D) (v34 : Int) : Option AV := aN (preL Mc (sub [1, 1, 0, 1, 0, 0] (ag fn))) (az P (ak Q4 [] [] []) Mc N (sub [1, 1, 0, 1, 0, 0] (ag fn))) n ⟨[dead, dead, dead, bxp 3 31, dead, dead, dead, dead, dead, dead, dead, dead, dead, dead, dead, dead, dead, dead, dead, dead, dead, dead, dead, dead, dead, dead, dead, dead, dead, dead, dead, dead, dat 28 (af x1 4), dat 3 (.lit (.int .i64 ((ae (af x1 4)).length : Int))), dat 3 (.lit (.int .i64 v34)), dead, dead, dead, dead, dead, dead, dead, dead, dead, dead, dead, dead, dead, dead, dead, dead, dead, dead, dead, dead, dead], bf [(3, some ⟨31, x1, 0, none⟩)]⟩ (aG 0 (cZ P (ak Q4 [] [] []) Mc N (sub [1, 1, 1] (ag fn)) (dJ P fn) ))
theorem xA (N n : Nat) (x0 : D) (x1 : D) (v34 : Int) : vK Tryz.prog Tryz.f131 N (n + 1) x0 x1 v34 =
 bif decide (v34 < ((ae (af x1 4)).length : Int)) then
  bif (decide (0 <= v34) && decide (v34 < ((ae (af x1 4)).length : Int))) then
   bif (decide (0 <= (0 : Int)) && decide ((0 : Int) <= v34) && decide (v34 <= ((ae (af x1 4)).length : Int))) then
    bif hasB (((ae (af x1 4)).drop ((0 : Int) : Int).toNat).take (v34 - (0 : Int)).toNat) (intD ((ae (af x1 4)).getD (v34).toNat .nil)) then
     some (dat 4 (.lit (.bool false)))
    else vK Tryz.prog Tryz.f131 N n x0 x1 (IntKind.wrap .i64 (v34 + 1))
   else none
  else none
 else bif (((intD (af x1 5)) == (-1)) == false) then
   some (dat 4 (.lit (.bool (hasB (ae (af x1 4)) (intD (af x1 5))))))
  else some (dat 4 (.lit (.bool true))) := by kernel_rfl
theorem t131 (N : Nat) (x0 : D) (x1 : D) : aU Tryz.prog (ak Q4 [] [] []) Mc N Tryz.f131 [dat 24 x0, dat 31 x1] =
 bif ((decide (((ae (af x1 3)).length : Int) > 0)) == false) then
  bif ((decide (((ae (af x1 4)).length : Int) < 1)) == false) then
   bif ((decide (((ae (af x1 4)).length : Int) > 8)) == false) then
    bif dn x0 x1 then
     bif (!(fU x0 x1 (ae (af x1 4)))) then
      some (dat 4 (.lit (.bool false)))
     else vK Tryz.prog Tryz.f131 N N x0 x1 0
    else none
   else some (dat 4 (.lit (.bool false)))
  else some (dat 4 (.lit (.bool false)))
 else some (dat 4 (.lit (.bool false))) := by kernel_rfl
/- roadbook/query.groupsMay -/
def abH : ay := fun _ =>  none
theorem afR (N : Nat) (x0 : D) (x1 : D) : aU Tryz.prog (ak Q4 [] [] []) abH N Tryz.f132 [dat 24 x0, dat 31 x1] =
 bif dn x0 x1 then
  bif ((!(lW x0 x1 (intD (af x1 2)))) == false) then
   bif ((decide (((ae (af x1 3)).length : Int) > 4)) == false) then
    bif dn x0 x1 then
     bif ((!(fU x0 x1 (ae (af x1 3)))) == false) then
      bif decide (((ae (af x1 4)).length : Int) > 0) then
       some (dat 4 (.lit (.bool false)))
      else bif (((intD (af x1 5)) == (-1)) == false) then
        some (dat 4 (.lit (.bool ((intD (af x1 5)) == (intD (af x1 2))))))
       else some (dat 4 (.lit (.bool true)))
     else some (dat 4 (.lit (.bool false)))
    else none
   else some (dat 4 (.lit (.bool false)))
  else some (dat 4 (.lit (.bool false)))
 else none := by kernel_rfl
/- roadbook/query.New$1 -/
/- roadbook/query.places -/
end X
end
section
namespace X
open Go.Ev
set_option linter.unusedVariables false
set_option maxRecDepth 10000
set_option linter.unusedSimpArgs false
def e84 : FuncId × TypeId × (List AV -> Bool) × (List AV -> Option D) := (84, 4, jS (q2 fun x y => dn x y), ent [24, 31] (f2 fun x y => some (.lit (.bool (lL x y)))))
theorem k84 : FnOK Tryz.prog 84 Tryz.f84 := ⟨Tryz.func84, rfl, by kernel_rfl⟩
theorem c84 : ∀ args d, e84.2.2.1 args = true -> e84.2.2.2 args = some d -> CallOK Tryz.prog 84 args (aj Tryz.prog 4 d) :=
 qL k84 fun x y d hq h _ ⟨_, hy⟩ => by
  cases h
  rw [tq, xY]
  have hl : (ae (af y 1)).length <= maxLen := (tyQ hy).p
  have hq : dn x y = true := hq
  refine aI hm RV k84 ((t84 ((ae (af y 1)).length + 1) x y).trans ?_)
  have lp : wI Tryz.prog Tryz.f84 ((ae (af y 1)).length + 1) ((ae (af y 1)).length + 1) x y 0 = some (dat 4 (.lit (.bool ((ae (af y 1)).all (OL x y))))) := by
   have := jl (fun n v => wI Tryz.prog Tryz.f84 ((ae (af y 1)).length + 1) n x y v) (ae (af y 1)).length (fun i => !exprB x y ((ae (af y 1)).getD i .nil)) (some (dat 4 (.lit (.bool false)))) (some (dat 4 (.lit (.bool true))))
    (fun n i hi => by
     rw [yS, bG hi, eQ hi, cond_true, cond_true, Int.toNat_natCast, fB hl hi, hq, abE, cond_true]
     unfold OL
     generalize wI Tryz.prog Tryz.f84 ((ae (af y 1)).length + 1) n x y ((i + 1 : Nat) : Int) = W
     cases (mg ((ae (af y 1)).getD i .nil)).isEmpty <;> cases fU x y (mg ((ae (af y 1)).getD i .nil)) <;> rfl)
    (fun n => by rw [yS, eX (by omega), cond_false]) ((ae (af y 1)).length + 1) 0 (Nat.zero_le _) (by omega)
   refine this.trans ?_
   rw [Nat.sub_zero, rG (ae (af y 1)) (fun o => !exprB x y o), Ew]
   cases (ae (af y 1)).all (OL x y) <;> rfl
  rw [m4, lp]
  show _ = some (dat 4 (.lit (.bool (lL x y))))
  unfold lL qP
  rw [show decide (((ae (af y 1)).length : Int) > 6) = _ from RJ 6]
  cases decide ((ae (af y 1)).length <= 6) <;> rfl
def abN : FuncId × TypeId × (List AV -> Bool) × (List AV -> Option D) := (131, 4, jS (q2 fun x y => dn x y), ent [24, 31] (f2 fun x y => some (.lit (.bool (Jb x y)))))
theorem aey : FnOK Tryz.prog 131 Tryz.f131 := ⟨Tryz.func131, rfl, by kernel_rfl⟩
theorem c131 : ∀ args d, abN.2.2.1 args = true -> abN.2.2.2 args = some d -> CallOK Tryz.prog 131 args (aj Tryz.prog 4 d) :=
 qL aey fun x y d hq h _ ⟨_, hy⟩ => by
  cases h
  rw [tq, xY]
  have hl : (ae (af y 4)).length <= maxLen := (tyQ hy).out
  have hq : dn x y = true := hq
  refine aI hm RV aey ((t131 ((ae (af y 4)).length + 1) x y).trans ?_)
  have lp : vK Tryz.prog Tryz.f131 ((ae (af y 4)).length + 1) ((ae (af y 4)).length + 1) x y 0 = some (dat 4 (.lit (.bool (!dupB (ae (af y 4)) && (intD (af y 5) == -1 || hasB (ae (af y 4)) (intD (af y 5))))))) := by
   have := jl (fun n v => vK Tryz.prog Tryz.f131 ((ae (af y 4)).length + 1) n x y v) (ae (af y 4)).length (fun i => hasB ((ae (af y 4)).take i) (intD ((ae (af y 4)).getD i .nil))) (some (dat 4 (.lit (.bool false)))) (some (dat 4 (.lit (.bool (intD (af y 5) == -1 || hasB (ae (af y 4)) (intD (af y 5)))))))
    (fun n i hi => by
     have ht : (decide (0 <= (0 : Int)) && decide ((0 : Int) <= (i : Int)) && decide ((i : Int) <= ((ae (af y 4)).length : Int))) = true := by
      simp only [Bool.and_eq_true, decide_eq_true_eq]
      omega
     rw [xA, bG hi, eQ hi, cond_true, cond_true, ht, cond_true, Int.sub_zero, Int.toNat_natCast, fB hl hi, show ((0 : Int)).toNat = 0 from rfl, List.drop_zero])
    (fun n => by
     rw [xA, eX (by omega), cond_false]
     cases (intD (af y 5) == -1) <;> rfl) ((ae (af y 4)).length + 1) 0 (Nat.zero_le _) (by omega)
   refine this.trans ?_
   unfold YC
   rw [Nat.sub_zero]
   cases (List.range' 0 (ae (af y 4)).length).any fun i => hasB ((ae (af y 4)).take i) (intD ((ae (af y 4)).getD i .nil)) <;> rfl
  rw [m4, lp, hq]
  show _ = some (dat 4 (.lit (.bool (Jb x y))))
  unfold Jb kS uD xK
  rw [XW, show decide (((ae (af y 4)).length : Int) < 1) = _ from aak 1, show decide (((ae (af y 4)).length : Int) > 8) = _ from RJ 8]
  generalize (!dupB (ae (af y 4)) && (intD (af y 5) == -1 || hasB (ae (af y 4)) (intD (af y 5)))) = W
  cases (ae (af y 3)).isEmpty <;> cases decide (1 <= (ae (af y 4)).length) <;> cases decide ((ae (af y 4)).length <= 8) <;> cases fU x y (ae (af y 4)) <;> rfl
def acy : FuncId × TypeId × (List AV -> Bool) × (List AV -> Option D) := (132, 4, jS (q2 fun x y => dn x y), ent [24, 31] (f2 fun x y => some (.lit (.bool (wL x y)))))
theorem adA : FnOK Tryz.prog 132 Tryz.f132 := ⟨Tryz.func132, rfl, by kernel_rfl⟩
theorem afU : ∀ args d, acy.2.2.1 args = true -> acy.2.2.2 args = some d -> CallOK Tryz.prog 132 args (aj Tryz.prog 4 d) :=
 qL adA fun x y d hq h _ _ => by
  cases h
  rw [tq, xY]
  have hq : dn x y = true := hq
  refine aI hm RV adA ((afR 1 x y).trans ?_)
  rw [m4, hq]
  show _ = some (dat 4 (.lit (.bool (wL x y))))
  unfold wL kS uD xK qBy
  rw [XW, show decide (((ae (af y 3)).length : Int) > 4) = _ from RJ 4]
  cases lW x y (intD (af y 2)) <;> cases decide ((ae (af y 3)).length <= 4) <;> cases fU x y (ae (af y 3)) <;> cases (ae (af y 4)).isEmpty <;> cases (intD (af y 5) == -1) <;> rfl
def setOf (x : D) : Int := intD (aaK x)
def adm (x : D) : Bool := ads 76 3 x
def ahJ (x y : D) : Option D := bif adm y then some (.slice (plc (fun e => QX (setOf y) (ofE e)) (qP x) 0) []) else none
def Q5 : Tab := acy :: abN :: e84 :: Q4
theorem Z7 : EnvOK Tryz.prog (bT Q5 []) := aO (aO (aO RV c84) c131) afU
end X
end
section
namespace X
open Go.Ev
set_option linter.unusedVariables false
/- roadbook/query.places -/
/- roadbook/query.endMay -/
def aej : ay := fun _ =>  none
theorem t85 (N : Nat) (x0 : D) (x1 : D) : aU Tryz.prog (ak Q5 [] [] []) aej N Tryz.f85 [dat 24 x0, dat 31 x1] =
 bif ((intD (af x1 2)) == (-1)) then
  bif dn x0 x1 then
   some (dat 4 (.lit (.bool (Jb x0 x1))))
  else none
 else bif dn x0 x1 then
   some (dat 4 (.lit (.bool (wL x0 x1))))
  else none := by kernel_rfl
/- roadbook/query.Own -/
end X
end
section
namespace X
open Go.Ev
set_option linter.unusedVariables false
set_option maxRecDepth 10000
set_option linter.unusedSimpArgs false
def e85 : FuncId × TypeId × (List AV -> Bool) × (List AV -> Option D) := (85, 4, jS (q2 fun x y => dn x y), ent [24, 31] (f2 fun x y => some (.lit (.bool (Qc x y)))))
theorem k85 : FnOK Tryz.prog 85 Tryz.f85 := ⟨Tryz.func85, rfl, by kernel_rfl⟩
theorem c85 : ∀ args d, e85.2.2.1 args = true -> e85.2.2.2 args = some d -> CallOK Tryz.prog 85 args (aj Tryz.prog 4 d) :=
 qL k85 fun x y d hq h _ _ => by
  cases h
  rw [tq, xY]
  have hq : dn x y = true := hq
  refine aI hm Z7 k85 ((t85 1 x y).trans ?_)
  rw [m4, hq]
  show _ = some (dat 4 (.lit (.bool (Qc x y))))
  unfold Qc qBy
  cases (intD (af y 2) == -1) <;> rfl
def Q6 : Tab := e85 :: Q5
theorem aek : EnvOK Tryz.prog (bT Q6 []) := aO Z7 c85
end X
end
section
namespace X
open Go.Ev
set_option linter.unusedVariables false
/- roadbook/query.May -/
def adr : ay := fun _ =>  none
theorem t32 (N : Nat) (x0 : D) (x1 : D) : aU Tryz.prog (ak Q6 [] [] []) adr N Tryz.f32 [dat 24 x0, dat 31 x1] =
 bif ((kY x0) == true) then
  bif ((dn x0 x1) == true) then
   bif dn x0 x1 then
    bif ((lL x0 x1) == true) then
     bif dn x0 x1 then
      some (dat 4 (.lit (.bool (Qc x0 x1))))
     else none
    else some (dat 4 (.lit (.bool false)))
   else none
  else some (dat 4 (.lit (.bool false)))
 else some (dat 4 (.lit (.bool false))) := by kernel_rfl
/- roadbook/query.New -/
end X
end
section
namespace X
open Go.Ev
set_option linter.unusedVariables false
set_option maxRecDepth 10000
set_option linter.unusedSimpArgs false
def e32 : FuncId × TypeId × (List AV -> Bool) × (List AV -> Option D) := (32, 4, yes, ent [24, 31] (f2 fun x y => some (.lit (.bool (IG x y)))))
theorem k32 : FnOK Tryz.prog 32 Tryz.f32 := ⟨Tryz.func32, rfl, by kernel_rfl⟩
theorem c32 : ∀ args d, e32.2.2.2 args = some d -> CallOK Tryz.prog 32 args (aj Tryz.prog 4 d) :=
 gB k32 fun x y d h _ _ => by
  cases h
  rw [tq, xY]
  refine aI hm aek k32 ((t32 1 x y).trans ?_)
  rw [m4]
  show _ = some (dat 4 (.lit (.bool (IG x y))))
  unfold IG
  cases kY x <;> cases dn x y <;> cases lL x y <;> rfl
end X
end
section
namespace X
open Go.Ev
set_option linter.unusedVariables false
/- roadbook/query.Cols -/
def MZ (P : Program) (fn : Func) (N n : Nat) (x0 : D) (x1 : D) (x2 : Int) (v20 : Int) (b7 : List D) (m0 : Nat) (v38 : Int) (b7q : List D) : Option AV := aN (preL t28_h (sub [1, 1, 1, 1, 0, 1, 0, 0, 1, 1, 0, 0, 1, 1, 1, 0, 0] (ag fn))) (az P (ak Q7 [] [] []) t28_h N (sub [1, 1, 1, 1, 0, 1, 0, 0, 1, 1, 0, 0, 1, 1, 1, 0, 0] (ag fn))) n ⟨[dead, dead, dead, bxp 3 24, bxp 4 31, dead, dead, bxp 7 28, dat 107 (xW 76 3 (.lit (.int .i64 x2))), dat 3 (.lit (.int .i64 v20)), dead, dead, dead, dead, dead, dead, dead, dead, dead, dat 3 (.lit (.int .i64 ((ae (af x1 0)).length : Int))), dat 3 (.lit (.int .i64 v20)), dead, dead, dead, dead, dead, dead, dead, dead, dead, dead, dead, dead, dead, dead, dead, dead, dat 3 (.lit (.int .i64 (intD (af ((ae (af x0 0)).getD (intD ((ae (af x1 0)).getD (v20).toNat .nil)).toNat .nil) 0)))), dat 3 (.lit (.int .i64 v38)), dead, dead, dead, dead, dead, dead, dead, dead, dead, dead, dead], bf [(3, some ⟨24, x0, 0, none⟩), (4, some ⟨31, x1, 0, none⟩), (7, some ⟨28, .slice b7q [], 1, none⟩)]⟩ (aG 2 (aG 1 (cZ P (ak Q7 [] [] []) t28_h N (sub [1, 1, 1, 1, 0, 1, 0, 0, 1, 1, 1] (ag fn)) (OY (fun s => aN (preL t28_h (sub [1, 1, 1, 1, 0, 1, 0, 0] (ag fn))) (az P (ak Q7 [] [] []) t28_h N (sub [1, 1, 1, 1, 0, 1, 0, 0] (ag fn))) m0 ((preL t28_h (sub [1, 1, 1, 1, 0, 1, 0, 0] (ag fn))) s) (aG 0 (cZ P (ak Q7 [] [] []) t28_h N (sub [1, 1, 1, 1, 1] (ag fn)) (dJ P fn) ))) (aG 0 (cZ P (ak Q7 [] [] []) t28_h N (sub [1, 1, 1, 1, 1] (ag fn)) (dJ P fn) ))) )))
theorem Kv (N n : Nat) (x0 : D) (x1 : D) (x2 : Int) (v20 : Int) (b7 : List D) : t28_lp6 Tryz.prog Tryz.f28 N (n + 1) x0 x1 x2 v20 b7 =
 bif decide (v20 < ((ae (af x1 0)).length : Int)) then
  bif decide (0 <= v20) then
   bif (!(QX x2 (LU v20))) then
    t28_lp6 Tryz.prog Tryz.f28 N n x0 x1 x2 (IntKind.wrap .i64 (v20 + 1)) b7
   else bif (decide (0 <= v20) && decide (v20 < ((ae (af x1 0)).length : Int))) then
     bif (decide (0 <= (intD ((ae (af x1 0)).getD (v20).toNat .nil))) && decide ((intD ((ae (af x1 0)).getD (v20).toNat .nil)) < ((ae (af x0 0)).length : Int))) then
      MZ Tryz.prog Tryz.f28 N N x0 x1 x2 v20 b7 n 0 b7
     else none
    else none
  else none
 else some (dat 28 (.slice b7 [])) := by kernel_rfl
end X
end
section
namespace X
open Go.Ev
set_option linter.unusedVariables false
set_option maxRecDepth 10000
set_option linter.unusedSimpArgs false
theorem AY {N : Nat} {c q : D} {set : Int} (hN : 6 <= N) (h1 : kY c = true) (h2 : dn c q = true) : ∀ (n i : Nat) (l : List D), i <= (dQ q).length -> (dQ q).length - i < n -> l.length <= 4 * i ->
  t28_lp6 Tryz.prog Tryz.f28 N n c q set (i : Int) l = some (dat 28 (.slice (l ++ (List.range' i ((dQ q).length - i)).flatMap (sJ c q set)) []))
 | 0, i, l, _, h, _ => by omega
 | n + 1, i, l, hi, h, hl => by
  have h4 := occ_len h2
  rw [Kv]
  show (bif decide ((i : Int) < ((dQ q).length : Int)) then _ else _) = _
  by_cases hlt : i < (dQ q).length
  ·have hb := JI h2 hlt
   have ht := tab_in h1 h2 hlt
   have b1 : (decide (0 <= intD ((ae (af q 0)).getD ((i : Int)).toNat .nil)) && decide (intD ((ae (af q 0)).getD ((i : Int)).toNat .nil) < ((ae (af c 0)).length : Int))) = true := by
    rw [Int.toNat_natCast, Bool.and_eq_true, decide_eq_true_eq, decide_eq_true_eq]
    exact hb
   have b2 : (decide (0 <= (i : Int)) && decide ((i : Int) < ((ae (af q 0)).length : Int))) = true := bG hlt
   have hw : IntKind.wrap .i64 ((i : Int) + 1) = ((i + 1 : Nat) : Int) := by rw [aH (l_in (by omega) (by omega))]; rfl
   have hr : (dQ q).length - i = ((dQ q).length - (i + 1)) + 1 := by omega
   rw [eQ hlt, cond_true, b1, b2, dT (show 0 <= (i : Int) by omega), cond_true, cond_true, cond_true, hw, hr, List.range'_succ, List.flatMap_cons]
   cases hs : QX set (LU (i : Int)) with
   | false =>
    rw [show (!false) = true from rfl, cond_true, AY hN h1 h2 n (i + 1) _ (by omega) (by omega) (by omega), show sJ c q set i = [] by unfold sJ; rw [hs]; rfl, List.nil_append]
   | true =>
    rw [show (!true) = false from rfl, cond_false]
    have hin := cols_in (N := N) (m0 := n) (c := c) (q := q) (set := set) (l0 := l) ht N 0 l (Nat.zero_le _) (by omega) (by omega)
    have hin : MZ Tryz.prog Tryz.f28 N N c q set (i : Int) l n 0 l = _ := hin
    rw [hin, hw, AY hN h1 h2 n (i + 1) _ (by omega) (by omega) (by simp; omega), List.drop_zero, List.append_assoc, show sJ c q set i = (List.range (Zq c q (i : Int)).toNat).map (qI (i : Int)) by unfold sJ; rw [hs]; rfl]
  ·rw [eX hlt, cond_false, show (dQ q).length - i = 0 by omega]
   simp
end X
end
end Go.Proofs.YtpceahbengfjeaaGreatDoor
