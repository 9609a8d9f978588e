/- Trees of functions, and lemmas. Nothing here is trusted. -/
import Derived.Test.YtpceahbengfjeaaGreatDoorZ17
import Derived.Test.YtpceahbengfjeaaGreatDoorRows
namespace Go.Proofs.YtpceahbengfjeaaGreatDoor
open Go.Ev
set_option linter.unusedVariables false
def T0 : Tab := []
def e117 : FuncId × TypeId × (List AV -> Bool) × (List AV -> Option D) := (117, 4, yes, ent [59] (f1 (fun x => some (.lit (.bool (je x))))))
def agl : FuncId × TypeId × (List AV -> Bool) × (List AV -> Option D) := (147, 59, yes, ent [3] (f1 (fun x => some (.agg [.lit (.int .i64 0), .lit (.int .i64 (intD x))]))))
def agD : FuncId × TypeId × (List AV -> Bool) × (List AV -> Option D) := (178, 59, yes, ent [] (f0 (some (.agg [.lit (.int .i64 2), .lit (.int .i64 0)]))))
def e245 : FuncId × TypeId × (List AV -> Bool) × (List AV -> Option D) := (245, 3, yes, ent [4] (f1 (fun x => some (.lit (.int .i64 (uq (gW x)))))))
def e160 : FuncId × TypeId × (List AV -> Bool) × (List AV -> Option D) := (160, 4, yes, ent [59] (f1 (fun x => some (.lit (.bool (rW x))))))
def afn : FuncId × TypeId × (List AV -> Bool) × (List AV -> Option D) := (180, 170, yes, ent [3, 3] (f2 (fun x y => some (.agg [.lit (.int .i64 (IntKind.wrap .i64 ((intD x) + (intD y)))), .lit (.bool (Di (intD x) (intD y)))]))))
def e241 : FuncId × TypeId × (List AV -> Bool) × (List AV -> Option D) := (241, 170, yes, ent [3, 3] (f2 (fun x y => some (.agg [.lit (.int .i64 (IntKind.wrap .i64 ((intD x) - (intD y)))), .lit (.bool (Sv (intD x) (intD y)))]))))
def e242 : FuncId × TypeId × (List AV -> Bool) × (List AV -> Option D) := (242, 170, yes, ent [3, 3] (f2 (fun x y => some (.agg [.lit (.int .i64 (IntKind.wrap .i64 ((intD x) * (intD y)))), .lit (.bool (GV (intD x) (intD y)))]))))
def e243 : FuncId × TypeId × (List AV -> Bool) × (List AV -> Option D) := (243, 170, yes, ent [3, 3] (f2 (fun x y => some (.agg [.lit (.int .i64 (Xm (intD x) (intD y))), .lit (.bool (JS (intD x) (intD y)))]))))
def agM : FuncId × TypeId × (List AV -> Bool) × (List AV -> Option D) := (179, 4, yes, ent [59] (f1 (fun x => some (.lit (.bool (isNum x))))))
def T1 : Tab := e117 :: agl :: agD :: e245 :: e160 :: afn :: e241 :: e242 :: e243 :: agM :: T0
def ahy : FuncId × TypeId × (List AV -> Bool) × (List AV -> Option D) := (156, 59, yes, ent [59] (f1 (fun x => some (gX x))))
def e246 : FuncId × TypeId × (List AV -> Bool) × (List AV -> Option D) := (246, 4, yes, ent [59] (f1 (fun x => some (.lit (.bool (uT x))))))
def T2 : Tab := ahy :: e246 :: T1
def agJ : FuncId × TypeId × (List AV -> Bool) × (List AV -> Option D) := (177, 4, yes, ent [59] (f1 (fun x => some (.lit (.bool (isErr x))))))
def agZ : FuncId × TypeId × (List AV -> Bool) × (List AV -> Option D) := (255, 4, yes, ent [59] (f1 (fun x => some (.lit (.bool (sK x))))))
def e119 : FuncId × TypeId × (List AV -> Bool) × (List AV -> Option D) := (119, 4, yes, ent [59, 59] (f2 (fun x y => some (.lit (.bool (F5 x y))))))
def T3 : Tab := agJ :: agZ :: e119 :: T2
def aeR : FuncId × TypeId × (List AV -> Bool) × (List AV -> Option D) := (176, 4, yes, ent [67, 133] (f2 fun x y => match fnD y with | some 246 => some (.lit (.bool ((ae x).any uT))) | some 160 => some (.lit (.bool ((ae x).any rW))) | some 177 => some (.lit (.bool ((ae x).any isErr))) | some 179 => some (.lit (.bool ((ae x).any isNum))) | some 255 => some (.lit (.bool ((ae x).any sK))) | _ => none))
def T4 : Tab := aeR :: T3
def e244 : FuncId × TypeId × (List AV -> Bool) × (List AV -> Option D) := (244, 59, yes, ent [3, 67] (f2 (fun x y => some (jw (intD x) (ae y)))))
def aff : FuncId × TypeId × (List AV -> Bool) × (List AV -> Option D) := (148, 59, yes, ent [67] (f1 (fun x => some (xO (ae x)))))
def T5 : Tab := e244 :: aff :: T4
def e240 : FuncId × TypeId × (List AV -> Bool) × (List AV -> Option D) := (240, 59, yes, ent [171, 59, 59] (f3 fun x y z => match fnD x with | some 180 => some (V4 y z) | some 241 => some (WH y z) | some 242 => some (Wj y z) | some 243 => some (X5 y z) | _ => none))
def e215 : FuncId × TypeId × (List AV -> Bool) × (List AV -> Option D) := (215, 59, yes, ent [59, 59] (f2 (fun x y => some (eqV x y))))
def e216 : FuncId × TypeId × (List AV -> Bool) × (List AV -> Option D) := (216, 59, yes, ent [59, 59] (f2 (fun x y => some (ltV x y))))
def e217 : FuncId × TypeId × (List AV -> Bool) × (List AV -> Option D) := (217, 59, yes, ent [67] (f1 (fun x => some (YW (ae x)))))
def adf : FuncId × TypeId × (List AV -> Bool) × (List AV -> Option D) := (218, 59, yes, ent [67] (f1 (fun x => some (orD (ae x)))))
def e219 : FuncId × TypeId × (List AV -> Bool) × (List AV -> Option D) := (219, 59, yes, ent [59] (f1 (fun x => some (Zf x))))
def T6 : Tab := e240 :: e215 :: e216 :: e217 :: adf :: e219 :: T5
def e211 : FuncId × TypeId × (List AV -> Bool) × (List AV -> Option D) := (211, 59, yes, ent [59, 59] (f2 (fun x y => some (V4 x y))))
def e212 : FuncId × TypeId × (List AV -> Bool) × (List AV -> Option D) := (212, 59, yes, ent [59, 59] (f2 (fun x y => some (WH x y))))
def e213 : FuncId × TypeId × (List AV -> Bool) × (List AV -> Option D) := (213, 59, yes, ent [59, 59] (f2 (fun x y => some (Wj x y))))
def e214 : FuncId × TypeId × (List AV -> Bool) × (List AV -> Option D) := (214, 59, yes, ent [59, 59] (f2 (fun x y => some (X5 x y))))
def T7 : Tab := e211 :: e212 :: e213 :: e214 :: T6
def T8 : Tab := T7
/- roadbook/val.May -/
def abG : ay := fun _ =>  none
theorem t117 (N : Nat) (x0 : D) : aU Tryz.prog (bM T0) abG N Tryz.f117 [dat 59 x0] =
 bif (((intD (af x0 0)) == 0) == false) then
  bif (((intD (af x0 0)) == 1) == false) then
   bif (((intD (af x0 0)) == 2) == true) then
    some (dat 4 (.lit (.bool ((intD (af x0 1)) == 0))))
   else some (dat 4 (.lit (.bool false)))
  else some (dat 4 (.lit (.bool ((intD (af x0 1)) == 0))))
 else some (dat 4 (.lit (.bool true))) := by kernel_rfl
/- roadbook/roadbookref01.May -/
/- roadbook/val.Of -/
def acU : ay := fun _ =>  none
theorem agi (N : Nat) (x0 : Int) : aU Tryz.prog (bM T0) acU N Tryz.f147 [dat 3 (.lit (.int .i64 x0))] =
 some (dat 59 (.agg [.lit (.int .i64 0), .lit (.int .i64 x0)])) := by kernel_rfl
/- roadbook/val.fault -/
def acF : ay := fun _ =>  none
theorem agc (N : Nat)  : aU Tryz.prog (bM T0) acF N Tryz.f178 [] =
 some (dat 59 (.agg [.lit (.int .i64 2), .lit (.int .i64 0)])) := by kernel_rfl
/- roadbook/val.truth -/
def aa0 : ay := fun _ =>  none
theorem ag5 (N : Nat) (x0 : Bool) : aU Tryz.prog (bM T0) aa0 N Tryz.f245 [dat 4 (.lit (.bool x0))] =
 bif x0 then
  some (dat 3 (.lit (.int .i64 1)))
 else some (dat 3 (.lit (.int .i64 0))) := by kernel_rfl
/- roadbook/roadbookref01.one -/
/- roadbook/val.True -/
def acM : ay := fun _ =>  none
theorem t160 (N : Nat) (x0 : D) : aU Tryz.prog (bM T0) acM N Tryz.f160 [dat 59 x0] =
 bif (((intD (af x0 0)) == 0) == true) then
  some (dat 4 (.lit (.bool ((intD (af x0 1)) != 0))))
 else some (dat 4 (.lit (.bool false))) := by kernel_rfl
/- roadbook/roadbookref01.True -/
/- roadbook/val.plus -/
def ab4 : ay := fun _ =>  none
theorem afl (N : Nat) (x0 : Int) (x1 : Int) : aU Tryz.prog (bM T0) ab4 N Tryz.f180 [dat 3 (.lit (.int .i64 x0)), dat 3 (.lit (.int .i64 x1))] =
 some (aL [3, 4] (.agg [.lit (.int .i64 (IntKind.wrap .i64 (x0 + x1))), .lit (.bool ((decide ((IntKind.wrap .i64 (x0 + x1)) < x0)) == (decide (x1 < 0))))])) := by kernel_rfl
/- roadbook/val.minus -/
def aaS : ay := fun _ =>  none
theorem afo (N : Nat) (x0 : Int) (x1 : Int) : aU Tryz.prog (bM T0) aaS N Tryz.f241 [dat 3 (.lit (.int .i64 x0)), dat 3 (.lit (.int .i64 x1))] =
 some (aL [3, 4] (.agg [.lit (.int .i64 (IntKind.wrap .i64 (x0 - x1))), .lit (.bool ((decide ((IntKind.wrap .i64 (x0 - x1)) > x0)) == (decide (x1 < 0))))])) := by kernel_rfl
/- roadbook/val.times -/
def acv : ay := fun _ =>  none
theorem afF (N : Nat) (x0 : Int) (x1 : Int) : aU Tryz.prog (bM T0) acv N Tryz.f242 [dat 3 (.lit (.int .i64 x0)), dat 3 (.lit (.int .i64 x1))] =
 bif (x0 == 0) then
  some (aL [3, 4] (.agg [.lit (.int .i64 (IntKind.wrap .i64 (x0 * x1))), .lit (.bool true)]))
 else bif (x0 == (-1)) then
   some (aL [3, 4] (.agg [.lit (.int .i64 (IntKind.wrap .i64 (x0 * x1))), .lit (.bool (x1 != (-9223372036854775808)))]))
  else bif (!(x0 == 0)) then
    some (aL [3, 4] (.agg [.lit (.int .i64 (IntKind.wrap .i64 (x0 * x1))), .lit (.bool ((IntKind.wrap .i64 (Int.tdiv (IntKind.wrap .i64 (x0 * x1)) x0)) == x1))]))
   else none := by kernel_rfl
/- roadbook/val.over -/
def acV : ay := fun _ =>  none
theorem ahv (N : Nat) (x0 : Int) (x1 : Int) : aU Tryz.prog (bM T0) acV N Tryz.f243 [dat 3 (.lit (.int .i64 x0)), dat 3 (.lit (.int .i64 x1))] =
 bif ((x1 == 0) == false) then
  bif ((x0 == (-9223372036854775808)) == true) then
   bif (x1 == (-1)) then
    some (aL [3, 4] (.agg [.lit (.int .i64 0), .lit (.bool false)]))
   else bif (!(x1 == 0)) then
     some (aL [3, 4] (.agg [.lit (.int .i64 (IntKind.wrap .i64 (Int.tdiv x0 x1))), .lit (.bool true)]))
    else none
  else bif (!(x1 == 0)) then
    some (aL [3, 4] (.agg [.lit (.int .i64 (IntKind.wrap .i64 (Int.tdiv x0 x1))), .lit (.bool true)]))
   else none
 else some (aL [3, 4] (.agg [.lit (.int .i64 0), .lit (.bool false)])) := by kernel_rfl
/- roadbook/roadbookref01.two -/
/- roadbook/val.isNumber -/
def abm : ay := fun _ =>  none
theorem af7 (N : Nat) (x0 : D) : aU Tryz.prog (bM T0) abm N Tryz.f179 [dat 59 x0] =
 some (dat 4 (.lit (.bool ((intD (af x0 0)) == 0)))) := by kernel_rfl
/- roadbook/val.read -/
def abQ : ay := fun _ =>  none
theorem t156 (N : Nat) (x0 : D) : aU Tryz.prog (bM T1) abQ N Tryz.f156 [dat 59 x0] =
 bif je x0 then
  some (dat 59 x0)
 else some (dat 59 (.agg [.lit (.int .i64 2), .lit (.int .i64 0)])) := by kernel_rfl
/- roadbook/roadbookref01.fine -/
/- roadbook/val.isFalse -/
def aaU : ay := fun _ =>  none
theorem agp (N : Nat) (x0 : D) : aU Tryz.prog (bM T1) aaU N Tryz.f246 [dat 59 x0] =
 some (dat 4 (.lit (.bool (((intD (af x0 0)) == 0) && (((intD (af x0 1)) == 0) && true))))) := by kernel_rfl
/- roadbook/val.isError -/
def acI : ay := fun _ =>  none
theorem afV (N : Nat) (x0 : D) : aU Tryz.prog (bM T2) acI N Tryz.f177 [dat 59 x0] =
 some (dat 4 (.lit (.bool ((intD (af (gX x0) 0)) == 2)))) := by kernel_rfl
/- roadbook/val.isNothing -/
def acH : ay := fun _ =>  none
theorem agF (N : Nat) (x0 : D) : aU Tryz.prog (bM T2) acH N Tryz.f255 [dat 59 x0] =
 some (dat 4 (.lit (.bool ((intD (af (gX x0) 0)) == 1)))) := by kernel_rfl
/- roadbook/val.Less -/
def acR : ay := fun _ =>  none
theorem t119 (N : Nat) (x0 : D) (x1 : D) : aU Tryz.prog (bM T2) acR N Tryz.f119 [dat 59 x0, dat 59 x1] =
 bif ((decide ((intD (af (gX x0) 0)) < (intD (af (gX x1) 0)))) == false) then
  bif (((intD (af (gX x0) 0)) == (intD (af (gX x1) 0))) == true) then
   some (dat 4 (.lit (.bool (decide ((intD (af (gX x0) 1)) < (intD (af (gX x1) 1)))))))
  else some (dat 4 (.lit (.bool false)))
 else some (dat 4 (.lit (.bool true))) := by kernel_rfl
/- roadbook/roadbookref01.Less -/
/- roadbook/roadbookref01.Not -/
/- roadbook/val.some[roadbook/api.Val] -/
def pX : ay := fun i => if i = 2 then some ([0, 2, 3, 4, 5, 6, 10, 11, 12, 13, 14, 15, 16], [], []) else none
def oW (P : Program) (fn : Func) (N n : Nat) (x0 : D) (v9 : Int) : Option AV := aN (preL pX (sub [1, 0, 1, 0, 0] (ag fn))) (az P (bM T3) pX N (sub [1, 0, 1, 0, 0] (ag fn))) n ⟨[dead, dat 133 (.held (.func (.func 246) #[] #[])), dead, dead, dead, dead, dead, dat 67 x0, dat 3 (.lit (.int .i64 ((ae x0).length : Int))), dat 3 (.lit (.int .i64 v9)), dead, dead, dead, dead, dead, dead, dead], bf []⟩ (aG 0 (cZ P (bM T3) pX N (sub [1, 1] (ag fn)) (dJ P fn) ))
theorem zX (N n : Nat) (x0 : D) (v9 : Int) : oW Tryz.prog Tryz.f176 N (n + 1) x0 v9 =
 bif decide (v9 < ((ae x0).length : Int)) then
  bif (decide (0 <= v9) && decide (v9 < ((ae x0).length : Int))) then
   bif uT ((ae x0).getD (v9).toNat .nil) then
    some (dat 4 (.lit (.bool true)))
   else oW Tryz.prog Tryz.f176 N n x0 (IntKind.wrap .i64 (v9 + 1))
  else none
 else some (dat 4 (.lit (.bool false))) := by kernel_rfl
theorem VN (N : Nat) (x0 : D) : aU Tryz.prog (bM T3) pX N Tryz.f176 [dat 67 x0, dat 133 (.held (.func (.func 246) #[] #[]))] =
 oW Tryz.prog Tryz.f176 N N x0 0 := by kernel_rfl
/- roadbook/val.some[roadbook/api.Val] -/
def ql : ay := fun i => if i = 2 then some ([0, 2, 3, 4, 5, 6, 10, 11, 12, 13, 14, 15, 16], [], []) else none
def oQ (P : Program) (fn : Func) (N n : Nat) (x0 : D) (v9 : Int) : Option AV := aN (preL ql (sub [1, 0, 1, 0, 0] (ag fn))) (az P (bM T3) ql N (sub [1, 0, 1, 0, 0] (ag fn))) n ⟨[dead, dat 133 (.held (.func (.func 160) #[] #[])), dead, dead, dead, dead, dead, dat 67 x0, dat 3 (.lit (.int .i64 ((ae x0).length : Int))), dat 3 (.lit (.int .i64 v9)), dead, dead, dead, dead, dead, dead, dead], bf []⟩ (aG 0 (cZ P (bM T3) ql N (sub [1, 1] (ag fn)) (dJ P fn) ))
theorem y8 (N n : Nat) (x0 : D) (v9 : Int) : oQ Tryz.prog Tryz.f176 N (n + 1) x0 v9 =
 bif decide (v9 < ((ae x0).length : Int)) then
  bif (decide (0 <= v9) && decide (v9 < ((ae x0).length : Int))) then
   bif rW ((ae x0).getD (v9).toNat .nil) then
    some (dat 4 (.lit (.bool true)))
   else oQ Tryz.prog Tryz.f176 N n x0 (IntKind.wrap .i64 (v9 + 1))
  else none
 else some (dat 4 (.lit (.bool false))) := by kernel_rfl
theorem VP (N : Nat) (x0 : D) : aU Tryz.prog (bM T3) ql N Tryz.f176 [dat 67 x0, dat 133 (.held (.func (.func 160) #[] #[]))] =
 oQ Tryz.prog Tryz.f176 N N x0 0 := by kernel_rfl
/- roadbook/val.some[roadbook/api.Val] -/
def pF : ay := fun i => if i = 2 then some ([0, 2, 3, 4, 5, 6, 10, 11, 12, 13, 14, 15, 16], [], []) else none
def oG (P : Program) (fn : Func) (N n : Nat) (x0 : D) (v9 : Int) : Option AV := aN (preL pF (sub [1, 0, 1, 0, 0] (ag fn))) (az P (bM T3) pF N (sub [1, 0, 1, 0, 0] (ag fn))) n ⟨[dead, dat 133 (.held (.func (.func 177) #[] #[])), dead, dead, dead, dead, dead, dat 67 x0, dat 3 (.lit (.int .i64 ((ae x0).length : Int))), dat 3 (.lit (.int .i64 v9)), dead, dead, dead, dead, dead, dead, dead], bf []⟩ (aG 0 (cZ P (bM T3) pF N (sub [1, 1] (ag fn)) (dJ P fn) ))
theorem yX (N n : Nat) (x0 : D) (v9 : Int) : oG Tryz.prog Tryz.f176 N (n + 1) x0 v9 =
 bif decide (v9 < ((ae x0).length : Int)) then
  bif (decide (0 <= v9) && decide (v9 < ((ae x0).length : Int))) then
   bif isErr ((ae x0).getD (v9).toNat .nil) then
    some (dat 4 (.lit (.bool true)))
   else oG Tryz.prog Tryz.f176 N n x0 (IntKind.wrap .i64 (v9 + 1))
  else none
 else some (dat 4 (.lit (.bool false))) := by kernel_rfl
theorem VE (N : Nat) (x0 : D) : aU Tryz.prog (bM T3) pF N Tryz.f176 [dat 67 x0, dat 133 (.held (.func (.func 177) #[] #[]))] =
 oG Tryz.prog Tryz.f176 N N x0 0 := by kernel_rfl
/- roadbook/val.some[roadbook/api.Val] -/
def pY : ay := fun i => if i = 2 then some ([0, 2, 3, 4, 5, 6, 10, 11, 12, 13, 14, 15, 16], [], []) else none
def oI (P : Program) (fn : Func) (N n : Nat) (x0 : D) (v9 : Int) : Option AV := aN (preL pY (sub [1, 0, 1, 0, 0] (ag fn))) (az P (bM T3) pY N (sub [1, 0, 1, 0, 0] (ag fn))) n ⟨[dead, dat 133 (.held (.func (.func 179) #[] #[])), dead, dead, dead, dead, dead, dat 67 x0, dat 3 (.lit (.int .i64 ((ae x0).length : Int))), dat 3 (.lit (.int .i64 v9)), dead, dead, dead, dead, dead, dead, dead], bf []⟩ (aG 0 (cZ P (bM T3) pY N (sub [1, 1] (ag fn)) (dJ P fn) ))
theorem Bg (N n : Nat) (x0 : D) (v9 : Int) : oI Tryz.prog Tryz.f176 N (n + 1) x0 v9 =
 bif decide (v9 < ((ae x0).length : Int)) then
  bif (decide (0 <= v9) && decide (v9 < ((ae x0).length : Int))) then
   bif isNum ((ae x0).getD (v9).toNat .nil) then
    some (dat 4 (.lit (.bool true)))
   else oI Tryz.prog Tryz.f176 N n x0 (IntKind.wrap .i64 (v9 + 1))
  else none
 else some (dat 4 (.lit (.bool false))) := by kernel_rfl
theorem Xl (N : Nat) (x0 : D) : aU Tryz.prog (bM T3) pY N Tryz.f176 [dat 67 x0, dat 133 (.held (.func (.func 179) #[] #[]))] =
 oI Tryz.prog Tryz.f176 N N x0 0 := by kernel_rfl
/- roadbook/val.some[roadbook/api.Val] -/
def pI : ay := fun i => if i = 2 then some ([0, 2, 3, 4, 5, 6, 10, 11, 12, 13, 14, 15, 16], [], []) else none
def oL (P : Program) (fn : Func) (N n : Nat) (x0 : D) (v9 : Int) : Option AV := aN (preL pI (sub [1, 0, 1, 0, 0] (ag fn))) (az P (bM T3) pI N (sub [1, 0, 1, 0, 0] (ag fn))) n ⟨[dead, dat 133 (.held (.func (.func 255) #[] #[])), dead, dead, dead, dead, dead, dat 67 x0, dat 3 (.lit (.int .i64 ((ae x0).length : Int))), dat 3 (.lit (.int .i64 v9)), dead, dead, dead, dead, dead, dead, dead], bf []⟩ (aG 0 (cZ P (bM T3) pI N (sub [1, 1] (ag fn)) (dJ P fn) ))
theorem yR (N n : Nat) (x0 : D) (v9 : Int) : oL Tryz.prog Tryz.f176 N (n + 1) x0 v9 =
 bif decide (v9 < ((ae x0).length : Int)) then
  bif (decide (0 <= v9) && decide (v9 < ((ae x0).length : Int))) then
   bif sK ((ae x0).getD (v9).toNat .nil) then
    some (dat 4 (.lit (.bool true)))
   else oL Tryz.prog Tryz.f176 N n x0 (IntKind.wrap .i64 (v9 + 1))
  else none
 else some (dat 4 (.lit (.bool false))) := by kernel_rfl
theorem WS (N : Nat) (x0 : D) : aU Tryz.prog (bM T3) pI N Tryz.f176 [dat 67 x0, dat 133 (.held (.func (.func 255) #[] #[]))] =
 oL Tryz.prog Tryz.f176 N N x0 0 := by kernel_rfl
/- roadbook/roadbookref01.odd -/
/- roadbook/val.ifNumbers -/
def abO : ay := fun _ =>  none
theorem afE (N : Nat) (x0 : Int) (x1 : D) : aU Tryz.prog (bM T4) abO N Tryz.f244 [dat 3 (.lit (.int .i64 x0)), dat 67 x1] =
 bif (ae x1).any isErr then
  some (dat 59 (.agg [.lit (.int .i64 2), .lit (.int .i64 0)]))
 else bif (ae x1).any sK then
   some (dat 59 (.agg [.lit (.int .i64 1), .lit (.int .i64 0)]))
  else some (dat 59 (.agg [.lit (.int .i64 0), .lit (.int .i64 x0)])) := by kernel_rfl
/- roadbook/roadbookref01.And -/
/- roadbook/roadbookref01.Or -/
/- roadbook/roadbookref01.Sum -/
/- roadbook/val.Sum -/
def KE : ay := fun i => if i = 7 then some ([0, 1, 5, 6, 7, 8, 9, 10, 11, 12, 13, 14, 15, 19, 20, 21, 22, 23, 24, 25, 26, 27, 28, 29, 30, 31, 32, 33, 34, 35, 36, 37, 38, 39, 40, 41, 42, 43, 44, 45, 46, 47, 48], [2], []) else none
def l9 (P : Program) (fn : Func) (N n : Nat) (x0 : D) (v3 : Int) (v4 : Int) (v18 : Int) : Option AV := aN (preL KE (sub [1, 1, 1, 1, 0, 1, 0, 0] (ag fn))) (az P (bM T4) KE N (sub [1, 1, 1, 1, 0, 1, 0, 0] (ag fn))) n ⟨[dead, dead, bxp 2 59, dat 3 (.lit (.int .i64 v3)), dat 3 (.lit (.int .i64 v4)), dead, dead, dead, dead, dead, dead, dead, dead, dead, dead, dead, dat 67 x0, dat 3 (.lit (.int .i64 ((ae x0).length : Int))), dat 3 (.lit (.int .i64 v18)), dead, dead, dead, dead, dead, dead, dead, dead, dead, dead, dead, dead, dead, dead, dead, dead, dead, dead, dead, dead, dead, dead, dead, dead, dead, dead, dead, dead, dead, dead], bf [(2, some ⟨59, .agg [.lit (.int .i64 0), .lit (.int .i64 0)], 0, none⟩)]⟩ (aG 0 (cZ P (bM T4) KE N (sub [1, 1, 1, 1, 1] (ag fn)) (dJ P fn) ))
theorem IJ (N n : Nat) (x0 : D) (v3 : Int) (v4 : Int) (v18 : Int) : l9 Tryz.prog Tryz.f148 N (n + 1) x0 v3 v4 v18 =
 bif decide (v18 < ((ae x0).length : Int)) then
  bif (decide (0 <= v18) && decide (v18 < ((ae x0).length : Int))) then
   bif ((!(Di v3 (intD (af ((ae x0).getD (v18).toNat .nil) 1)))) == true) then
    bif decide ((intD (af ((ae x0).getD (v18).toNat .nil) 1)) > 0) then
     l9 Tryz.prog Tryz.f148 N n x0 (IntKind.wrap .i64 (v3 + (intD (af ((ae x0).getD (v18).toNat .nil) 1)))) (IntKind.wrap .i64 (v4 + 1)) (IntKind.wrap .i64 (v18 + 1))
    else bif (!(Di v3 (intD (af ((ae x0).getD (v18).toNat .nil) 1)))) then
      l9 Tryz.prog Tryz.f148 N n x0 (IntKind.wrap .i64 (v3 + (intD (af ((ae x0).getD (v18).toNat .nil) 1)))) (IntKind.wrap .i64 (v4 - 1)) (IntKind.wrap .i64 (v18 + 1))
     else l9 Tryz.prog Tryz.f148 N n x0 (IntKind.wrap .i64 (v3 + (intD (af ((ae x0).getD (v18).toNat .nil) 1)))) v4 (IntKind.wrap .i64 (v18 + 1))
   else bif (!(Di v3 (intD (af ((ae x0).getD (v18).toNat .nil) 1)))) then
     l9 Tryz.prog Tryz.f148 N n x0 (IntKind.wrap .i64 (v3 + (intD (af ((ae x0).getD (v18).toNat .nil) 1)))) (IntKind.wrap .i64 (v4 - 1)) (IntKind.wrap .i64 (v18 + 1))
    else l9 Tryz.prog Tryz.f148 N n x0 (IntKind.wrap .i64 (v3 + (intD (af ((ae x0).getD (v18).toNat .nil) 1)))) v4 (IntKind.wrap .i64 (v18 + 1))
  else none
 else bif (v4 != 0) then
   some (dat 59 (.agg [.lit (.int .i64 2), .lit (.int .i64 0)]))
  else some (dat 59 (.agg [.lit (.int .i64 0), .lit (.int .i64 v3)])) := by kernel_rfl
theorem t148 (N : Nat) (x0 : D) : aU Tryz.prog (bM T4) KE N Tryz.f148 [dat 67 x0] =
 bif (ae x0).any isErr then
  some (dat 59 (.agg [.lit (.int .i64 2), .lit (.int .i64 0)]))
 else bif (!((ae x0).any isNum)) then
   some (dat 59 (.agg [.lit (.int .i64 1), .lit (.int .i64 0)]))
  else l9 Tryz.prog Tryz.f148 N N x0 0 0 0 := by kernel_rfl
/- roadbook/roadbookref01.Add -/
/- roadbook/roadbookref01.Sub -/
/- roadbook/roadbookref01.Mul -/
/- roadbook/roadbookref01.Div -/
/- roadbook/roadbookref01.Eq -/
/- roadbook/roadbookref01.Lt -/
/- roadbook/val.reckon -/
def Qe : ay := fun _ =>  none
theorem Xb (N : Nat) (x1 : D) (x2 : D) : aU Tryz.prog (bM T5) Qe N Tryz.f240 [dat 171 (.held (.func (.func 180) #[] #[])), dat 59 x1, dat 59 x2] =
 bif (!(isNum (jw 0 [x1, x2]))) then
  some (dat 59 (jw 0 [x1, x2]))
 else bif (!(Di (intD (af x1 1)) (intD (af x2 1)))) then
   some (dat 59 (.agg [.lit (.int .i64 2), .lit (.int .i64 0)]))
  else some (dat 59 (.agg [.lit (.int .i64 0), .lit (.int .i64 (IntKind.wrap .i64 ((intD (af x1 1)) + (intD (af x2 1)))))])) := by kernel_rfl
/- roadbook/val.reckon -/
def PK : ay := fun _ =>  none
theorem Xz (N : Nat) (x1 : D) (x2 : D) : aU Tryz.prog (bM T5) PK N Tryz.f240 [dat 171 (.held (.func (.func 241) #[] #[])), dat 59 x1, dat 59 x2] =
 bif (!(isNum (jw 0 [x1, x2]))) then
  some (dat 59 (jw 0 [x1, x2]))
 else bif (!(Sv (intD (af x1 1)) (intD (af x2 1)))) then
   some (dat 59 (.agg [.lit (.int .i64 2), .lit (.int .i64 0)]))
  else some (dat 59 (.agg [.lit (.int .i64 0), .lit (.int .i64 (IntKind.wrap .i64 ((intD (af x1 1)) - (intD (af x2 1)))))])) := by kernel_rfl
/- roadbook/val.reckon -/
def QF : ay := fun _ =>  none
theorem VZ (N : Nat) (x1 : D) (x2 : D) : aU Tryz.prog (bM T5) QF N Tryz.f240 [dat 171 (.held (.func (.func 242) #[] #[])), dat 59 x1, dat 59 x2] =
 bif (!(isNum (jw 0 [x1, x2]))) then
  some (dat 59 (jw 0 [x1, x2]))
 else bif (!(GV (intD (af x1 1)) (intD (af x2 1)))) then
   some (dat 59 (.agg [.lit (.int .i64 2), .lit (.int .i64 0)]))
  else some (dat 59 (.agg [.lit (.int .i64 0), .lit (.int .i64 (IntKind.wrap .i64 ((intD (af x1 1)) * (intD (af x2 1)))))])) := by kernel_rfl
/- roadbook/val.reckon -/
def PS : ay := fun _ =>  none
theorem Wx (N : Nat) (x1 : D) (x2 : D) : aU Tryz.prog (bM T5) PS N Tryz.f240 [dat 171 (.held (.func (.func 243) #[] #[])), dat 59 x1, dat 59 x2] =
 bif (!(isNum (jw 0 [x1, x2]))) then
  some (dat 59 (jw 0 [x1, x2]))
 else bif (!(JS (intD (af x1 1)) (intD (af x2 1)))) then
   some (dat 59 (.agg [.lit (.int .i64 2), .lit (.int .i64 0)]))
  else some (dat 59 (.agg [.lit (.int .i64 0), .lit (.int .i64 (Xm (intD (af x1 1)) (intD (af x2 1))))])) := by kernel_rfl
/- roadbook/val.Eq -/
def acw : ay := fun _ =>  none
theorem ahl (N : Nat) (x0 : D) (x1 : D) : aU Tryz.prog (bM T5) acw N Tryz.f215 [dat 59 x0, dat 59 x1] =
 some (dat 59 (jw (uq ((intD (af x0 1)) == (intD (af x1 1)))) [x0, x1])) := by kernel_rfl
/- roadbook/val.Lt -/
def abU : ay := fun _ =>  none
theorem agL (N : Nat) (x0 : D) (x1 : D) : aU Tryz.prog (bM T5) abU N Tryz.f216 [dat 59 x0, dat 59 x1] =
 some (dat 59 (jw (uq (decide ((intD (af x0 1)) < (intD (af x1 1))))) [x0, x1])) := by kernel_rfl
/- roadbook/val.And -/
def abJ : ay := fun _ =>  none
theorem ag4 (N : Nat) (x0 : D) : aU Tryz.prog (bM T5) abJ N Tryz.f217 [dat 67 x0] =
 bif (ae x0).any uT then
  some (dat 59 (.agg [.lit (.int .i64 0), .lit (.int .i64 0)]))
 else some (dat 59 (jw 1 (ae x0))) := by kernel_rfl
/- roadbook/val.Or -/
def aaR : ay := fun _ =>  none
theorem t218 (N : Nat) (x0 : D) : aU Tryz.prog (bM T5) aaR N Tryz.f218 [dat 67 x0] =
 bif (ae x0).any rW then
  some (dat 59 (.agg [.lit (.int .i64 0), .lit (.int .i64 1)]))
 else some (dat 59 (jw 0 (ae x0))) := by kernel_rfl
/- roadbook/val.Not -/
def abd : ay := fun _ =>  none
theorem ahB (N : Nat) (x0 : D) : aU Tryz.prog (bM T5) abd N Tryz.f219 [dat 59 x0] =
 some (dat 59 (jw (uq (uT x0)) [x0])) := by kernel_rfl
/- roadbook/val.Add -/
def acb : ay := fun _ =>  none
theorem agx (N : Nat) (x0 : D) (x1 : D) : aU Tryz.prog (bM T6) acb N Tryz.f211 [dat 59 x0, dat 59 x1] =
 some (dat 59 (V4 x0 x1)) := by kernel_rfl
/- roadbook/val.Sub -/
def aaJ : ay := fun _ =>  none
theorem t212 (N : Nat) (x0 : D) (x1 : D) : aU Tryz.prog (bM T6) aaJ N Tryz.f212 [dat 59 x0, dat 59 x1] =
 some (dat 59 (WH x0 x1)) := by kernel_rfl
/- roadbook/val.Mul -/
def aaT : ay := fun _ =>  none
theorem t213 (N : Nat) (x0 : D) (x1 : D) : aU Tryz.prog (bM T6) aaT N Tryz.f213 [dat 59 x0, dat 59 x1] =
 some (dat 59 (Wj x0 x1)) := by kernel_rfl
/- roadbook/val.Div -/
def acO : ay := fun _ =>  none
theorem ahw (N : Nat) (x0 : D) (x1 : D) : aU Tryz.prog (bM T6) acO N Tryz.f214 [dat 59 x0, dat 59 x1] =
 some (dat 59 (X5 x0 x1)) := by kernel_rfl
section
set_option linter.unusedSimpArgs false
theorem hm : Tryz.prog.follows .mixedOrders = true := by kernel_rfl
theorem n23 (x : D) : bC Tryz.prog 59 x = x := by kernel_rfl
theorem n28 (x : D) : bC Tryz.prog 67 x = x := by kernel_rfl
theorem n25 (x : D) : bC Tryz.prog 133 x = x := by kernel_rfl
theorem n40 (x : D) : bC Tryz.prog 171 x = x := by kernel_rfl
theorem n3 (x : D) : bC Tryz.prog 3 x = .lit (.int .i64 (intD x)) := by kernel_rfl
theorem n4 (x : D) : bC Tryz.prog 4 x = .lit (.bool (gW x)) := by kernel_rfl
theorem m23 (x : D) : aj Tryz.prog 59 x = dat 59 x := by kernel_rfl
theorem m28 (x : D) : aj Tryz.prog 67 x = dat 67 x := by kernel_rfl
theorem m3 (x : D) : aj Tryz.prog 3 x = dat 3 (.lit (.int .i64 (intD x))) := by kernel_rfl
theorem m4 (x : D) : aj Tryz.prog 4 x = dat 4 (.lit (.bool (gW x))) := by kernel_rfl
theorem m49 (x : D) : aj Tryz.prog 170 x = aL [3, 4] x := by kernel_rfl
theorem u23 : ∃ f g : Field, Tryz.prog.underlying 59 = some (.struct #[f, g]) /\ f.type = 3 /\ g.type = 3 := ⟨_, _, Tryz.underlying59, rfl, rfl⟩
theorem u3 : Tryz.prog.underlying 3 = some (.int .i64) := by kernel_rfl
theorem u28 : Tryz.prog.underlying 67 = some (.slice 59) := by kernel_rfl
theorem u25 : Tryz.prog.underlying 133 = some (.func #[59] #[4] false) := by kernel_rfl
theorem ty3 {n : Nat} {x : D} (h : Ty Tryz.prog n 3 x) : inR (intD x) = true := by
 cases n with
 | zero => exact h.elim
 | succ n =>
  unfold Ty at h
  rw [u3] at h
  split at h <;> try (exact h.elim)
  all_goals try (simp_all; done)
  rename_i k k' z heq
  cases heq
  obtain ⟨rfl, hw⟩ := h
  exact Ls hw
theorem iC {n : Nat} {x : D} (h : Ty Tryz.prog n 3 x) : ∃ z, x = .lit (.int .i64 z) /\ inR z = true := by
 cases n with
 | zero => exact h.elim
 | succ n =>
  unfold Ty at h
  rw [u3] at h
  split at h <;> try (exact h.elim)
  all_goals try (simp_all; done)
  rename_i k k' z heq
  cases heq
  obtain ⟨rfl, hw⟩ := h
  exact ⟨z, rfl, Ls hw⟩
theorem ahe {n : Nat} {x : D} (h : Ty Tryz.prog n 59 x) : ∃ k m, x = vv k m /\ inR k = true /\ inR m = true := by
 obtain ⟨f, g, hu, hf, hg⟩ := u23
 cases n with
 | zero => exact h.elim
 | succ n =>
  unfold Ty at h
  rw [hu] at h
  split at h <;> try (exact h.elim)
  all_goals try (simp_all; done)
  rename_i fs ps heq
  cases heq
  obtain ⟨hl, hp⟩ := h
  match ps, hl with
  | [a, b], _ =>
   have h0 := hp 0 f rfl
   have h1 := hp 1 g rfl
   rw [hf] at h0
   rw [hg] at h1
   obtain ⟨k, ek, hk⟩ := iC h0
   obtain ⟨m, em, hm⟩ := iC h1
   simp at ek em
   subst ek em
   exact ⟨k, m, rfl, hk, hm⟩
theorem Y8 {n : Nat} {x : D} (h : Ty Tryz.prog n 67 x) : ∃ es, x = .slice es [] /\ es.length <= maxLen /\ ∀ y ∈ es, ∃ k m, y = vv k m /\ inR k = true /\ inR m = true := by
 cases n with
 | zero => exact h.elim
 | succ n =>
  unfold Ty at h
  rw [u28] at h
  split at h <;> try (exact h.elim)
  all_goals try (simp_all; done)
  rename_i e es sp heq
  cases heq
  obtain ⟨rfl, hl, hp⟩ := h
  exact ⟨es, rfl, hl, fun y hy => ahe (hp y hy)⟩
theorem A7 : EnvOK Tryz.prog (bM T0) := BU
theorem adg : FnOK Tryz.prog 117 Tryz.f117 := ⟨Tryz.func117, rfl, by kernel_rfl⟩
theorem c117 : ∀ args d, ent [59] (f1 fun x => some (.lit (.bool (je x)))) args = some d -> CallOK Tryz.prog 117 args (aj Tryz.prog 4 d) :=
 mG adg fun x d h _ => by
  cases h
  rw [n23]
  refine aI hm A7 adg ((t117 1 x).trans ?_)
  rw [m4]
  simp only [gW, je, kk, nn]
  cases (intD (af x 0) == 0) <;> cases (intD (af x 0) == 1) <;> cases (intD (af x 0) == 2) <;> rfl
theorem ae2 : FnOK Tryz.prog 147 Tryz.f147 := ⟨Tryz.func147, rfl, by kernel_rfl⟩
theorem agA : ∀ args d, ent [3] (f1 fun x => some (.agg [.lit (.int .i64 0), .lit (.int .i64 (intD x))])) args = some d -> CallOK Tryz.prog 147 args (aj Tryz.prog 59 d) :=
 mG ae2 fun x d h _ => by
  cases h
  rw [n3]
  refine aI hm A7 ae2 ((agi 1 (intD x)).trans ?_)
  rw [m23]
theorem afz : FnOK Tryz.prog 178 Tryz.f178 := ⟨Tryz.func178, rfl, by kernel_rfl⟩
theorem ahA : ∀ args d, ent [] (f0 (some (.agg [.lit (.int .i64 2), .lit (.int .i64 0)]))) args = some d -> CallOK Tryz.prog 178 args (aj Tryz.prog 59 d) :=
 YK fun d h => by
  cases h
  refine aI hm A7 afz ((agc 1).trans ?_)
  rw [m23]
theorem ac0 : FnOK Tryz.prog 245 Tryz.f245 := ⟨Tryz.func245, rfl, by kernel_rfl⟩
theorem agW : ∀ args d, ent [4] (f1 fun x => some (.lit (.int .i64 (uq (gW x))))) args = some d -> CallOK Tryz.prog 245 args (aj Tryz.prog 3 d) :=
 mG ac0 fun x d h _ => by
  cases h
  rw [n4]
  refine aI hm A7 ac0 ((ag5 1 (gW x)).trans ?_)
  rw [m3]
  simp only [intD, uq]
  cases gW x <;> rfl
theorem ado : FnOK Tryz.prog 160 Tryz.f160 := ⟨Tryz.func160, rfl, by kernel_rfl⟩
theorem c160 : ∀ args d, ent [59] (f1 fun x => some (.lit (.bool (rW x)))) args = some d -> CallOK Tryz.prog 160 args (aj Tryz.prog 4 d) :=
 mG ado fun x d h _ => by
  cases h
  rw [n23]
  refine aI hm A7 ado ((t160 1 x).trans ?_)
  rw [m4]
  simp only [gW, rW, kk, nn]
  cases (intD (af x 0) == 0) <;> rfl
theorem acW : FnOK Tryz.prog 180 Tryz.f180 := ⟨Tryz.func180, rfl, by kernel_rfl⟩
theorem afZ : ∀ args d, ent [3, 3] (f2 fun x y => some (.agg [.lit (.int .i64 (IntKind.wrap .i64 ((intD x) + (intD y)))), .lit (.bool (Di (intD x) (intD y)))])) args = some d -> CallOK Tryz.prog 180 args (aj Tryz.prog 170 d) :=
 gB acW fun x y d h ⟨_, hx⟩ ⟨_, hy⟩ => by
  cases h
  rw [n3, n3]
  refine aI hm A7 acW ((afl 1 (intD x) (intD y)).trans ?_)
  rw [m49, Vg (ty3 hx) (ty3 hy)]
  rfl
theorem aeB : FnOK Tryz.prog 241 Tryz.f241 := ⟨Tryz.func241, rfl, by kernel_rfl⟩
theorem afD : ∀ args d, ent [3, 3] (f2 fun x y => some (.agg [.lit (.int .i64 (IntKind.wrap .i64 ((intD x) - (intD y)))), .lit (.bool (Sv (intD x) (intD y)))])) args = some d -> CallOK Tryz.prog 241 args (aj Tryz.prog 170 d) :=
 gB aeB fun x y d h ⟨_, hx⟩ ⟨_, hy⟩ => by
  cases h
  rw [n3, n3]
  refine aI hm A7 aeB ((afo 1 (intD x) (intD y)).trans ?_)
  rw [m49, P7 (ty3 hx) (ty3 hy)]
  rfl
theorem aeG : FnOK Tryz.prog 242 Tryz.f242 := ⟨Tryz.func242, rfl, by kernel_rfl⟩
theorem agY : ∀ args d, ent [3, 3] (f2 fun x y => some (.agg [.lit (.int .i64 (IntKind.wrap .i64 ((intD x) * (intD y)))), .lit (.bool (GV (intD x) (intD y)))])) args = some d -> CallOK Tryz.prog 242 args (aj Tryz.prog 170 d) :=
 gB aeG fun x y d h ⟨_, hx⟩ ⟨_, hy⟩ => by
  cases h
  rw [n3, n3]
  refine aI hm A7 aeG ((afF 1 (intD x) (intD y)).trans ?_)
  have hx' := ty3 hx
  have hy' := ty3 hy
  generalize intD x = a at *
  generalize intD y = b at *
  rw [m49]
  by_cases h0 : a = 0
  ·subst h0
   simp [GV, inR]
  ·have h0' : (a == 0) = false := by simpa using h0
   by_cases h1 : a = -1
   ·subst h1
    have : (b != (-9223372036854775808)) = GV (-1) b := by
     rw [bH] at hy'
     unfold GV
     cases hm' : inR (-1 * b)
     ·rw [uJ] at hm'
      have : b = -9223372036854775808 := by omega
      simp [this]
     ·rw [bH] at hm'
      have : b ≠ -9223372036854775808 := by omega
      simpa using this
    rw [this]
    rfl
   ·have h1' : (a == (-1)) = false := by simpa using h1
    rw [h0', h1', UM hx' hy' h0 h1]
    rfl
theorem adz : FnOK Tryz.prog 243 Tryz.f243 := ⟨Tryz.func243, rfl, by kernel_rfl⟩
theorem agf : ∀ args d, ent [3, 3] (f2 fun x y => some (.agg [.lit (.int .i64 (Xm (intD x) (intD y))), .lit (.bool (JS (intD x) (intD y)))])) args = some d -> CallOK Tryz.prog 243 args (aj Tryz.prog 170 d) :=
 gB adz fun x y d h ⟨_, hx⟩ ⟨_, hy⟩ => by
  cases h
  rw [n3, n3]
  refine aI hm A7 adz ((ahv 1 (intD x) (intD y)).trans ?_)
  have hx' := ty3 hx
  have hy' := ty3 hy
  generalize intD x = a at *
  generalize intD y = b at *
  rw [m49]
  unfold Xm JS
  by_cases h0 : b = 0
  ·subst h0; rfl
  ·have h0' : (b == 0) = false := by simpa using h0
   have ht := Vr hx' h0
   rw [h0', ht]
   cases ha : (a == -9223372036854775808) <;> cases hb : (b == -1) <;> simp [ha, hb] at ht ⊢
   all_goals rw [wrap_in ht]
theorem ac4 : FnOK Tryz.prog 179 Tryz.f179 := ⟨Tryz.func179, rfl, by kernel_rfl⟩
theorem agz : ∀ args d, ent [59] (f1 fun x => some (.lit (.bool (isNum x)))) args = some d -> CallOK Tryz.prog 179 args (aj Tryz.prog 4 d) :=
 mG ac4 fun x d h _ => by
  cases h
  rw [n23]
  refine aI hm A7 ac4 ((af7 1 x).trans ?_)
  rw [m4]
  rfl
theorem aa6 : EnvOK Tryz.prog (bM T1) := ah (ah (ah (ah (ah (ah (ah (ah (ah (ah A7 agz) agf) agY) afD) afZ) c160) agW) ahA) agA) c117
end
section
set_option linter.unusedSimpArgs false
theorem og {i n : Nat} (h : i < n) : (decide (0 <= (i : Int)) && decide ((i : Int) < (n : Int))) = true := by simp [h]
theorem rY (LP : Nat -> Int -> Option AV) (l : List D) (p : D -> Bool) (T F : Option AV) (hl : l.length <= maxLen)
  (hstep : ∀ (n : Nat) (v : Int), LP (n + 1) v = bif decide (v < (l.length : Int)) then
   bif (decide (0 <= v) && decide (v < (l.length : Int))) then bif p (l.getD (v).toNat .nil) then T else LP n (IntKind.wrap .i64 (v + 1)) else none else F) :
  ∀ (n i : Nat), i <= l.length -> l.length - i < n -> LP n (i : Int) = bif (l.drop i).any p then T else F
 | 0, i, _, h => by omega
 | n + 1, i, hi, h => by
  rw [hstep]
  by_cases hlt : i < l.length
  ·have h1 : decide ((i : Int) < (l.length : Int)) = true := by simpa using hlt
   rw [og hlt, h1, cond_true, cond_true, List.drop_eq_getElem_cons hlt, List.any_cons, Int.toNat_natCast]
   have h2 : l.getD i .nil = l[i] := by simp [List.getD, hlt]
   rw [h2]
   have hw : IntKind.wrap .i64 ((i : Int) + 1) = ((i + 1 : Nat) : Int) := by
    rw [wrap_in]
    ·omega
    ·rw [bH]; unfold maxLen at hl; omega
   rw [hw, rY LP l p T F hl hstep n (i + 1) (by omega) (by omega)]
   cases p l[i] <;> rfl
  ·have h1 : decide ((i : Int) < (l.length : Int)) = false := by simpa using hlt
   have h2 : l.drop i = [] := List.drop_of_length_le (by omega)
   rw [h1, h2, cond_false]
   rfl
theorem mJ {n : Nat} {x : D} (hx : Ty Tryz.prog n 67 x) : (ae x).length <= maxLen := by
 obtain ⟨es, rfl, hl, _⟩ := Y8 hx
 exact hl
theorem adu : FnOK Tryz.prog 156 Tryz.f156 := ⟨Tryz.func156, rfl, by kernel_rfl⟩
theorem c156 : ∀ args d, ent [59] (f1 fun x => some (gX x)) args = some d -> CallOK Tryz.prog 156 args (aj Tryz.prog 59 d) :=
 mG adu fun x d h _ => by
  cases h
  rw [n23]
  refine aI hm aa6 adu ((t156 1 x).trans ?_)
  rw [m23]
  unfold gX
  cases je x <;> rfl
theorem ad2 : FnOK Tryz.prog 246 Tryz.f246 := ⟨Tryz.func246, rfl, by kernel_rfl⟩
theorem agv : ∀ args d, ent [59] (f1 fun x => some (.lit (.bool (uT x)))) args = some d -> CallOK Tryz.prog 246 args (aj Tryz.prog 4 d) :=
 mG ad2 fun x d h _ => by
  cases h
  rw [n23]
  refine aI hm aa6 ad2 ((agp 1 x).trans ?_)
  rw [m4, Bool.and_true]
  rfl
theorem Zw : EnvOK Tryz.prog (bM T2) := ah (ah aa6 agv) c156
theorem afe : FnOK Tryz.prog 177 Tryz.f177 := ⟨Tryz.func177, rfl, by kernel_rfl⟩
theorem aha : ∀ args d, ent [59] (f1 fun x => some (.lit (.bool (isErr x)))) args = some d -> CallOK Tryz.prog 177 args (aj Tryz.prog 4 d) :=
 mG afe fun x d h _ => by
  cases h
  rw [n23]
  refine aI hm Zw afe ((afV 1 x).trans ?_)
  rw [m4]
  rfl
theorem aeI : FnOK Tryz.prog 255 Tryz.f255 := ⟨Tryz.func255, rfl, by kernel_rfl⟩
theorem agR : ∀ args d, ent [59] (f1 fun x => some (.lit (.bool (sK x)))) args = some d -> CallOK Tryz.prog 255 args (aj Tryz.prog 4 d) :=
 mG aeI fun x d h _ => by
  cases h
  rw [n23]
  refine aI hm Zw aeI ((agF 1 x).trans ?_)
  rw [m4]
  rfl
theorem aeH : FnOK Tryz.prog 119 Tryz.f119 := ⟨Tryz.func119, rfl, by kernel_rfl⟩
theorem c119 : ∀ args d, ent [59, 59] (f2 fun x y => some (.lit (.bool (F5 x y)))) args = some d -> CallOK Tryz.prog 119 args (aj Tryz.prog 4 d) :=
 gB aeH fun x y d h _ _ => by
  cases h
  rw [n23, n23]
  refine aI hm Zw aeH ((t119 1 x y).trans ?_)
  rw [m4]
  simp only [gW]
  unfold F5 kk nn
  cases decide (intD (af (gX x) 0) < intD (af (gX y) 0)) <;> cases (intD (af (gX x) 0) == intD (af (gX y) 0)) <;> rfl
theorem TZ : EnvOK Tryz.prog (bM T3) := ah (ah (ah Zw c119) agR) aha
theorem Zp {n : Nat} {x : D} (hx : Ty Tryz.prog n 67 x) : aU Tryz.prog (bM T3) pX ((ae x).length + 1) Tryz.f176 [dat 67 x, dat 133 (.held (.func (.func 246) #[] #[]))] = some (dat 4 (.lit (.bool ((ae x).any uT)))) := by
 rw [VN]
 have h := rY (fun n v => oW Tryz.prog Tryz.f176 ((ae x).length + 1) n x v) (ae x) uT (some (dat 4 (.lit (.bool true)))) (some (dat 4 (.lit (.bool false)))) (mJ hx)
  (fun n v => zX ((ae x).length + 1) n x v) ((ae x).length + 1) 0 (Nat.zero_le _) (by omega)
 rw [List.drop_zero] at h
 refine Eq.trans h ?_
 cases (ae x).any uT <;> rfl
theorem ZI {n : Nat} {x : D} (hx : Ty Tryz.prog n 67 x) : aU Tryz.prog (bM T3) ql ((ae x).length + 1) Tryz.f176 [dat 67 x, dat 133 (.held (.func (.func 160) #[] #[]))] = some (dat 4 (.lit (.bool ((ae x).any rW)))) := by
 rw [VP]
 have h := rY (fun n v => oQ Tryz.prog Tryz.f176 ((ae x).length + 1) n x v) (ae x) rW (some (dat 4 (.lit (.bool true)))) (some (dat 4 (.lit (.bool false)))) (mJ hx)
  (fun n v => y8 ((ae x).length + 1) n x v) ((ae x).length + 1) 0 (Nat.zero_le _) (by omega)
 rw [List.drop_zero] at h
 refine Eq.trans h ?_
 cases (ae x).any rW <;> rfl
theorem YX {n : Nat} {x : D} (hx : Ty Tryz.prog n 67 x) : aU Tryz.prog (bM T3) pF ((ae x).length + 1) Tryz.f176 [dat 67 x, dat 133 (.held (.func (.func 177) #[] #[]))] = some (dat 4 (.lit (.bool ((ae x).any isErr)))) := by
 rw [VE]
 have h := rY (fun n v => oG Tryz.prog Tryz.f176 ((ae x).length + 1) n x v) (ae x) isErr (some (dat 4 (.lit (.bool true)))) (some (dat 4 (.lit (.bool false)))) (mJ hx)
  (fun n v => yX ((ae x).length + 1) n x v) ((ae x).length + 1) 0 (Nat.zero_le _) (by omega)
 rw [List.drop_zero] at h
 refine Eq.trans h ?_
 cases (ae x).any isErr <;> rfl
theorem YA {n : Nat} {x : D} (hx : Ty Tryz.prog n 67 x) : aU Tryz.prog (bM T3) pY ((ae x).length + 1) Tryz.f176 [dat 67 x, dat 133 (.held (.func (.func 179) #[] #[]))] = some (dat 4 (.lit (.bool ((ae x).any isNum)))) := by
 rw [Xl]
 have h := rY (fun n v => oI Tryz.prog Tryz.f176 ((ae x).length + 1) n x v) (ae x) isNum (some (dat 4 (.lit (.bool true)))) (some (dat 4 (.lit (.bool false)))) (mJ hx)
  (fun n v => Bg ((ae x).length + 1) n x v) ((ae x).length + 1) 0 (Nat.zero_le _) (by omega)
 rw [List.drop_zero] at h
 refine Eq.trans h ?_
 cases (ae x).any isNum <;> rfl
theorem Y9 {n : Nat} {x : D} (hx : Ty Tryz.prog n 67 x) : aU Tryz.prog (bM T3) pI ((ae x).length + 1) Tryz.f176 [dat 67 x, dat 133 (.held (.func (.func 255) #[] #[]))] = some (dat 4 (.lit (.bool ((ae x).any sK)))) := by
 rw [WS]
 have h := rY (fun n v => oL Tryz.prog Tryz.f176 ((ae x).length + 1) n x v) (ae x) sK (some (dat 4 (.lit (.bool true)))) (some (dat 4 (.lit (.bool false)))) (mJ hx)
  (fun n v => yR ((ae x).length + 1) n x v) ((ae x).length + 1) 0 (Nat.zero_le _) (by omega)
 rw [List.drop_zero] at h
 refine Eq.trans h ?_
 cases (ae x).any sK <;> rfl
theorem Uw : FnOK Tryz.prog 176 Tryz.f176 := ⟨Tryz.func176, rfl, by kernel_rfl⟩
theorem Io {n : Nat} {x : D} {t : TypeId} {p q : Array TypeId} {r : Bool} {f : FuncId} (hu : Tryz.prog.underlying t = some (.func p q r)) (h : Ty Tryz.prog n t x) (hf : fnD x = some f) : x = .held (.func (.func f) #[] #[]) := by
 cases n with
 | zero => exact h.elim
 | succ n =>
  unfold Ty at h
  rw [hu] at h
  split at h <;> try (exact h.elim)
  all_goals try (simp_all; done)
  ·rename_i v heq
   rcases h with rfl | ⟨g, rfl⟩
   ·simp [fnD] at hf
   ·simp only [fnD, Option.some.injEq] at hf
    rw [hf]
  ·simp [fnD] at hf
theorem afN : ∀ args d, aeR.2.2.2 args = some d -> CallOK Tryz.prog 176 args (aj Tryz.prog 4 d) :=
 gB Uw fun x y d h ⟨_, hx⟩ ⟨_, hy⟩ => by
  rw [n28, n25]
  split at h
  ·rename_i hf
   cases h
   rw [Io u25 hy hf]
   refine aI hm TZ Uw ((Zp hx).trans ?_)
   rw [m4]
   rfl
  ·rename_i hf
   cases h
   rw [Io u25 hy hf]
   refine aI hm TZ Uw ((ZI hx).trans ?_)
   rw [m4]
   rfl
  ·rename_i hf
   cases h
   rw [Io u25 hy hf]
   refine aI hm TZ Uw ((YX hx).trans ?_)
   rw [m4]
   rfl
  ·rename_i hf
   cases h
   rw [Io u25 hy hf]
   refine aI hm TZ Uw ((YA hx).trans ?_)
   rw [m4]
   rfl
  ·rename_i hf
   cases h
   rw [Io u25 hy hf]
   refine aI hm TZ Uw ((Y9 hx).trans ?_)
   rw [m4]
   rfl
  ·cases h
theorem acK : EnvOK Tryz.prog (bM T4) := ah TZ afN
end
section
set_option linter.unusedSimpArgs false
theorem aeS : FnOK Tryz.prog 244 Tryz.f244 := ⟨Tryz.func244, rfl, by kernel_rfl⟩
theorem afY : ∀ args d, e244.2.2.2 args = some d -> CallOK Tryz.prog 244 args (aj Tryz.prog 59 d) :=
 gB aeS fun x y d h _ _ => by
  cases h
  rw [n3, n28]
  refine aI hm acK aeS ((afE 1 (intD x) y).trans ?_)
  rw [m23]
  unfold jw
  cases (ae y).any isErr <;> cases (ae y).any sK <;> rfl
end
section
set_option linter.unusedSimpArgs false
theorem total_cons (y : D) (l : List D) : total (y :: l) = nn y + total l := by simp [total]
theorem XE {i : Nat} {l : List D} (hl : l.length <= maxLen) (h : i < l.length) : IntKind.wrap .i64 ((i : Int) + 1) = ((i + 1 : Nat) : Int) := by
 rw [wrap_in]
 ·omega
 ·rw [bH]; unfold maxLen at hl; omega
theorem zo {N : Nat} {x : D} (hl : (ae x).length <= maxLen) (hall : ∀ y ∈ ae x, inR (nn y) = true) (T : Int) : ∀ (n i : Nat) (v c : Int), i <= (ae x).length -> (ae x).length - i < n ->
  inR v = true -> -(i : Int) <= c -> c <= (i : Int) -> v + c * 18446744073709551616 + total ((ae x).drop i) = T ->
  l9 Tryz.prog Tryz.f148 N n x v c (i : Int) = bif inR T then some (dat 59 (vv 0 T)) else some (dat 59 (vv 2 0))
 | 0, i, _, _, _, h, _, _, _, _ => by omega
 | n + 1, i, v, c, hi, h, hv, hc1, hc2, hT => by
  rw [IJ]
  by_cases hlt : i < (ae x).length
  ·have h1 : decide ((i : Int) < ((ae x).length : Int)) = true := by simpa using hlt
   rw [og hlt, h1, cond_true, cond_true, Int.toNat_natCast]
   have h2 : (ae x).getD i .nil = (ae x)[i] := by simp [List.getD, hlt]
   rw [h2, XE hl hlt]
   rw [List.drop_eq_getElem_cons hlt, total_cons] at hT
   have hy := hall (ae x)[i] (List.getElem_mem hlt)
   have hmax : ((ae x).length : Int) <= 9223372036854775807 := by unfold maxLen at hl; omega
   generalize (ae x)[i] = y at *
   have hnn : intD (af y 1) = nn y := rfl
   rw [hnn]
   generalize nn y = b at *
   have hs := Pg (v + b)
   have hvb := hv
   have hbb := hy
   rw [bH] at hvb hbb
   cases ho : Di v b with
   | true =>
    have ho' : inR (v + b) = true := ho
    rw [wrap_in ho']
    refine Eq.trans ?_ (zo (N := N) hl hall T n (i + 1) (v + b) c (by omega) (by omega) ho' (by omega) (by omega) (by omega))
    rfl
   | false =>
    have ho' : inR (v + b) = false := ho
    rw [uJ] at ho'
    by_cases hb0 : b > 0
    ·have d : decide (b > 0) = true := by simpa using hb0
     have hw : IntKind.wrap .i64 (v + b) = v + b - 18446744073709551616 := by rw [ng]; omega
     have hc : IntKind.wrap .i64 (c + 1) = c + 1 := wrap_in (by rw [bH]; omega)
     rw [d, hc]
     refine Eq.trans ?_ (zo (N := N) hl hall T n (i + 1) (IntKind.wrap .i64 (v + b)) (c + 1) (by omega) (by omega) hs (by omega) (by omega) (by rw [hw]; omega))
     rfl
    ·have d : decide (b > 0) = false := by simpa using hb0
     have hw : IntKind.wrap .i64 (v + b) = v + b + 18446744073709551616 := by rw [ng]; omega
     have hc : IntKind.wrap .i64 (c - 1) = c - 1 := wrap_in (by rw [bH]; omega)
     rw [d, hc]
     refine Eq.trans ?_ (zo (N := N) hl hall T n (i + 1) (IntKind.wrap .i64 (v + b)) (c - 1) (by omega) (by omega) hs (by omega) (by omega) (by rw [hw]; omega))
     rfl
  ·have h1 : decide ((i : Int) < ((ae x).length : Int)) = false := by simpa using hlt
   have h2 : (ae x).drop i = [] := List.drop_of_length_le (by omega)
   rw [h1, cond_false]
   rw [h2] at hT
   have ht0 : total [] = 0 := rfl
   rw [ht0] at hT
   rw [bH] at hv
   by_cases hc0 : c = 0
   ·subst hc0
    have hTv : T = v := by omega
    have hin : inR T = true := by rw [bH]; omega
    rw [hin, hTv]
    rfl
   ·have hin : inR T = false := by rw [uJ]; omega
    have hne : (c != 0) = true := by simpa using hc0
    rw [hin, hne]
    rfl
theorem ada : FnOK Tryz.prog 148 Tryz.f148 := ⟨Tryz.func148, rfl, by kernel_rfl⟩
theorem Xh {n : Nat} {x : D} (hx : Ty Tryz.prog n 67 x) : ∀ y ∈ ae x, inR (nn y) = true := by
 obtain ⟨es, rfl, _, hall⟩ := Y8 hx
 intro y hy
 obtain ⟨k, m, rfl, _, h⟩ := hall y hy
 exact h
theorem c148 : ∀ args d, aff.2.2.2 args = some d -> CallOK Tryz.prog 148 args (aj Tryz.prog 59 d) :=
 mG ada fun x d h ⟨_, hx⟩ => by
  cases h
  rw [n28]
  refine aI (fuel := (ae x).length + 1) hm acK ada ((t148 ((ae x).length + 1) x).trans ?_)
  have hs := zo (N := (ae x).length + 1) (mJ hx) (Xh hx) (total (ae x)) ((ae x).length + 1) 0 0 0 (Nat.zero_le _) (by omega) (by decide) (by omega) (by omega) (by rw [List.drop_zero]; omega)
  have hs' : l9 Tryz.prog Tryz.f148 ((ae x).length + 1) ((ae x).length + 1) x 0 0 0 = _ := hs
  rw [hs', m23]
  unfold xO
  cases (ae x).any isErr <;> cases (ae x).any isNum <;> cases inR (total (ae x)) <;> rfl
theorem Iy : EnvOK Tryz.prog (bM T5) := ah (ah acK c148) afY
end
section
set_option linter.unusedSimpArgs false
theorem Xj : FnOK Tryz.prog 240 Tryz.f240 := ⟨Tryz.func240, rfl, by kernel_rfl⟩
theorem u40 : Tryz.prog.underlying 171 = some (.func #[3, 3] #[3, 4] false) := by kernel_rfl
theorem wK {fits : Bool} {v w : Int} {x y : D} (hw : fits = true -> w = v) :
  (bif (!(isNum (jw 0 [x, y]))) then some (dat 59 (jw 0 [x, y]))
   else bif (!fits) then some (dat 59 (.agg [.lit (.int .i64 2), .lit (.int .i64 0)])) else some (dat 59 (.agg [.lit (.int .i64 0), .lit (.int .i64 w)]))) = some (dat 59 (TR fits v x y)) := by
 unfold jw TR
 cases [x, y].any isErr <;> cases [x, y].any sK <;> cases fits <;> try rfl
 rw [hw rfl]
 rfl
theorem ag8 : ∀ args d, e240.2.2.2 args = some d -> CallOK Tryz.prog 240 args (aj Tryz.prog 59 d) :=
 Pq Xj fun x y z d h ⟨_, hx⟩ _ _ => by
  rw [n40, n23, n23]
  split at h
  ·rename_i hf
   cases h
   rw [Io u40 hx hf]
   refine aI hm Iy Xj ((Xb 1 y z).trans ?_)
   rw [m23]
   exact wK wrap_in
  ·rename_i hf
   cases h
   rw [Io u40 hx hf]
   refine aI hm Iy Xj ((Xz 1 y z).trans ?_)
   rw [m23]
   exact wK wrap_in
  ·rename_i hf
   cases h
   rw [Io u40 hx hf]
   refine aI hm Iy Xj ((VZ 1 y z).trans ?_)
   rw [m23]
   exact wK wrap_in
  ·rename_i hf
   cases h
   rw [Io u40 hx hf]
   refine aI hm Iy Xj ((Wx 1 y z).trans ?_)
   rw [m23]
   exact wK fun _ => rfl
  ·cases h
theorem adO : FnOK Tryz.prog 215 Tryz.f215 := ⟨Tryz.func215, rfl, by kernel_rfl⟩
theorem afH : ∀ args d, e215.2.2.2 args = some d -> CallOK Tryz.prog 215 args (aj Tryz.prog 59 d) :=
 gB adO fun x y d h _ _ => by
  cases h
  rw [n23, n23]
  refine aI hm Iy adO ((ahl 1 x y).trans ?_)
  rw [m23]
  rfl
theorem acX : FnOK Tryz.prog 216 Tryz.f216 := ⟨Tryz.func216, rfl, by kernel_rfl⟩
theorem agq : ∀ args d, e216.2.2.2 args = some d -> CallOK Tryz.prog 216 args (aj Tryz.prog 59 d) :=
 gB acX fun x y d h _ _ => by
  cases h
  rw [n23, n23]
  refine aI hm Iy acX ((agL 1 x y).trans ?_)
  rw [m23]
  rfl
theorem aeU : FnOK Tryz.prog 217 Tryz.f217 := ⟨Tryz.func217, rfl, by kernel_rfl⟩
theorem agr : ∀ args d, e217.2.2.2 args = some d -> CallOK Tryz.prog 217 args (aj Tryz.prog 59 d) :=
 mG aeU fun x d h _ => by
  cases h
  rw [n28]
  refine aI hm Iy aeU ((ag4 1 x).trans ?_)
  rw [m23]
  unfold YW
  cases (ae x).any uT <;> rfl
theorem ae9 : FnOK Tryz.prog 218 Tryz.f218 := ⟨Tryz.func218, rfl, by kernel_rfl⟩
theorem c218 : ∀ args d, adf.2.2.2 args = some d -> CallOK Tryz.prog 218 args (aj Tryz.prog 59 d) :=
 mG ae9 fun x d h _ => by
  cases h
  rw [n28]
  refine aI hm Iy ae9 ((t218 1 x).trans ?_)
  rw [m23]
  unfold orD
  cases (ae x).any rW <;> rfl
theorem ad7 : FnOK Tryz.prog 219 Tryz.f219 := ⟨Tryz.func219, rfl, by kernel_rfl⟩
theorem ag0 : ∀ args d, e219.2.2.2 args = some d -> CallOK Tryz.prog 219 args (aj Tryz.prog 59 d) :=
 mG ad7 fun x d h _ => by
  cases h
  rw [n23]
  refine aI hm Iy ad7 ((ahB 1 x).trans ?_)
  rw [m23]
  rfl
theorem Vs : EnvOK Tryz.prog (bM T6) := ah (ah (ah (ah (ah (ah Iy ag0) c218) agr) agq) afH) ag8
theorem adS : FnOK Tryz.prog 211 Tryz.f211 := ⟨Tryz.func211, rfl, by kernel_rfl⟩
theorem ahk : ∀ args d, e211.2.2.2 args = some d -> CallOK Tryz.prog 211 args (aj Tryz.prog 59 d) :=
 gB adS fun x y d h _ _ => by
  cases h
  rw [n23, n23]
  refine aI hm Vs adS ((agx 1 x y).trans ?_)
  rw [m23]
theorem ac8 : FnOK Tryz.prog 212 Tryz.f212 := ⟨Tryz.func212, rfl, by kernel_rfl⟩
theorem c212 : ∀ args d, e212.2.2.2 args = some d -> CallOK Tryz.prog 212 args (aj Tryz.prog 59 d) :=
 gB ac8 fun x y d h _ _ => by
  cases h
  rw [n23, n23]
  refine aI hm Vs ac8 ((t212 1 x y).trans ?_)
  rw [m23]
theorem adJ : FnOK Tryz.prog 213 Tryz.f213 := ⟨Tryz.func213, rfl, by kernel_rfl⟩
theorem c213 : ∀ args d, e213.2.2.2 args = some d -> CallOK Tryz.prog 213 args (aj Tryz.prog 59 d) :=
 gB adJ fun x y d h _ _ => by
  cases h
  rw [n23, n23]
  refine aI hm Vs adJ ((t213 1 x y).trans ?_)
  rw [m23]
theorem aeT : FnOK Tryz.prog 214 Tryz.f214 := ⟨Tryz.func214, rfl, by kernel_rfl⟩
theorem ag6 : ∀ args d, e214.2.2.2 args = some d -> CallOK Tryz.prog 214 args (aj Tryz.prog 59 d) :=
 gB aeT fun x y d h _ _ => by
  cases h
  rw [n23, n23]
  refine aI hm Vs aeT ((ahw 1 x y).trans ?_)
  rw [m23]
theorem Qy : EnvOK Tryz.prog (bM T7) := ah (ah (ah (ah Vs ag6) c213) c212) ahk
theorem BD : EnvOK Tryz.prog (bM T8) := Qy
end
end Go.Proofs.YtpceahbengfjeaaGreatDoor
