/- Trees of functions, and lemmas. Nothing here is trusted. -/
import Derived.Test.YtpceahbengfjeaaGreatDoorZ17
import Derived.Test.YtpceahbengfjeaaGreatDoorRows
namespace Go.Proofs.YtpceahbengfjeaaGreatDoor
open Go.Ev
set_option linter.unusedVariables false
def T0:Tab:=[]
def e117:FuncId×TypeId×(List AV->Bool)×(List AV->Option D):=(117,4,yes,ent [59] (f1 (fun x=>some (.lit (.bool (iI x))))))
def afm:FuncId×TypeId×(List AV->Bool)×(List AV->Option D):=(147,59,yes,ent [3] (f1 (fun x=>some (.agg [.lit (.int .i64 0),.lit (.int .i64 (intD x))]))))
def agL:FuncId×TypeId×(List AV->Bool)×(List AV->Option D):=(178,59,yes,ent [] (f0 (some (.agg [.lit (.int .i64 2),.lit (.int .i64 0)]))))
def e245:FuncId×TypeId×(List AV->Bool)×(List AV->Option D):=(245,3,yes,ent [4] (f1 (fun x=>some (.lit (.int .i64 (uJ (gu x)))))))
def e160:FuncId×TypeId×(List AV->Bool)×(List AV->Option D):=(160,4,yes,ent [59] (f1 (fun x=>some (.lit (.bool (sS x))))))
def afE:FuncId×TypeId×(List AV->Bool)×(List AV->Option D):=(180,170,yes,ent [3,3] (f2 (fun x y=>some (.agg [.lit (.int .i64 (IntKind.wrap .i64 ((intD x)+(intD y)))),.lit (.bool (DD (intD x) (intD y)))]))))
def e241:FuncId×TypeId×(List AV->Bool)×(List AV->Option D):=(241,170,yes,ent [3,3] (f2 (fun x y=>some (.agg [.lit (.int .i64 (IntKind.wrap .i64 ((intD x) - (intD y)))),.lit (.bool (Rt (intD x) (intD y)))]))))
def e242:FuncId×TypeId×(List AV->Bool)×(List AV->Option D):=(242,170,yes,ent [3,3] (f2 (fun x y=>some (.agg [.lit (.int .i64 (IntKind.wrap .i64 ((intD x)*(intD y)))),.lit (.bool (Gg (intD x) (intD y)))]))))
def e243:FuncId×TypeId×(List AV->Bool)×(List AV->Option D):=(243,170,yes,ent [3,3] (f2 (fun x y=>some (.agg [.lit (.int .i64 (XO (intD x) (intD y))),.lit (.bool (JG (intD x) (intD y)))]))))
def agl:FuncId×TypeId×(List AV->Bool)×(List AV->Option D):=(179,4,yes,ent [59] (f1 (fun x=>some (.lit (.bool (isNum x))))))
def T1:Tab:=e117::afm::agL::e245::e160::afE::e241::e242::e243::agl::T0
def agQ:FuncId×TypeId×(List AV->Bool)×(List AV->Option D):=(156,59,yes,ent [59] (f1 (fun x=>some (gX x))))
def e246:FuncId×TypeId×(List AV->Bool)×(List AV->Option D):=(246,4,yes,ent [59] (f1 (fun x=>some (.lit (.bool (uU x))))))
def T2:Tab:=agQ::e246::T1
def ahA:FuncId×TypeId×(List AV->Bool)×(List AV->Option D):=(177,4,yes,ent [59] (f1 (fun x=>some (.lit (.bool (isErr x))))))
def afF:FuncId×TypeId×(List AV->Bool)×(List AV->Option D):=(255,4,yes,ent [59] (f1 (fun x=>some (.lit (.bool (sV x))))))
def e119:FuncId×TypeId×(List AV->Bool)×(List AV->Option D):=(119,4,yes,ent [59,59] (f2 (fun x y=>some (.lit (.bool (GG x y))))))
def T3:Tab:=ahA::afF::e119::T2
def adk:FuncId×TypeId×(List AV->Bool)×(List AV->Option D):=(176,4,yes,ent [67,133] (f2 fun x y=>match fnD y with|some 246=>some (.lit (.bool ((ae x).any uU)))|some 160=>some (.lit (.bool ((ae x).any sS)))|some 177=>some (.lit (.bool ((ae x).any isErr)))|some 179=>some (.lit (.bool ((ae x).any isNum)))|some 255=>some (.lit (.bool ((ae x).any sV)))|_=>none))
def T4:Tab:=adk::T3
def e244:FuncId×TypeId×(List AV->Bool)×(List AV->Option D):=(244,59,yes,ent [3,67] (f2 (fun x y=>some (jB (intD x) (ae y)))))
def aec:FuncId×TypeId×(List AV->Bool)×(List AV->Option D):=(148,59,yes,ent [67] (f1 (fun x=>some (yA (ae x)))))
def T5:Tab:=e244::aec::T4
def e240:FuncId×TypeId×(List AV->Bool)×(List AV->Option D):=(240,59,yes,ent [171,59,59] (f3 fun x y z=>match fnD x with|some 180=>some (WM y z)|some 241=>some (Xq y z)|some 242=>some (We y z)|some 243=>some (Xp y z)|_=>none))
def e215:FuncId×TypeId×(List AV->Bool)×(List AV->Option D):=(215,59,yes,ent [59,59] (f2 (fun x y=>some (eqV x y))))
def e216:FuncId×TypeId×(List AV->Bool)×(List AV->Option D):=(216,59,yes,ent [59,59] (f2 (fun x y=>some (ltV x y))))
def e217:FuncId×TypeId×(List AV->Bool)×(List AV->Option D):=(217,59,yes,ent [67] (f1 (fun x=>some (Zx (ae x)))))
def ads:FuncId×TypeId×(List AV->Bool)×(List AV->Option D):=(218,59,yes,ent [67] (f1 (fun x=>some (orD (ae x)))))
def e219:FuncId×TypeId×(List AV->Bool)×(List AV->Option D):=(219,59,yes,ent [59] (f1 (fun x=>some (Y4 x))))
def T6:Tab:=e240::e215::e216::e217::ads::e219::T5
def e211:FuncId×TypeId×(List AV->Bool)×(List AV->Option D):=(211,59,yes,ent [59,59] (f2 (fun x y=>some (WM x y))))
def e212:FuncId×TypeId×(List AV->Bool)×(List AV->Option D):=(212,59,yes,ent [59,59] (f2 (fun x y=>some (Xq x y))))
def e213:FuncId×TypeId×(List AV->Bool)×(List AV->Option D):=(213,59,yes,ent [59,59] (f2 (fun x y=>some (We x y))))
def e214:FuncId×TypeId×(List AV->Bool)×(List AV->Option D):=(214,59,yes,ent [59,59] (f2 (fun x y=>some (Xp x y))))
def T7:Tab:=e211::e212::e213::e214::T6
def T8:Tab:=T7
/- roadbook/val.May -/
def abL:ay:=fun _=>none
theorem t117 (N:Nat) (x0:D):aU Tryz.prog (bM T0) abL N Tryz.f117 [dat 59 x0]=
 bif (((intD (af x0 0))==0)==false)then
  bif (((intD (af x0 0))==1)==false)then
   bif (((intD (af x0 0))==2)==true)then
    some (dat 4 (.lit (.bool ((intD (af x0 1))==0))))
   else some (dat 4 (.lit (.bool false)))
  else some (dat 4 (.lit (.bool ((intD (af x0 1))==0))))
 else some (dat 4 (.lit (.bool true))):=by kernel_rfl
/- roadbook/roadbookref01.May -/
/- roadbook/val.Of -/
def acE:ay:=fun _=>none
theorem agm (N:Nat) (x0:Int):aU Tryz.prog (bM T0) acE N Tryz.f147 [dat 3 (.lit (.int .i64 x0))]=
 some (dat 59 (.agg [.lit (.int .i64 0),.lit (.int .i64 x0)])):=by kernel_rfl
/- roadbook/val.fault -/
def acQ:ay:=fun _=>none
theorem afK (N:Nat):aU Tryz.prog (bM T0) acQ N Tryz.f178 []=
 some (dat 59 (.agg [.lit (.int .i64 2),.lit (.int .i64 0)])):=by kernel_rfl
/- roadbook/val.truth -/
def acN:ay:=fun _=>none
theorem agK (N:Nat) (x0:Bool):aU Tryz.prog (bM T0) acN N Tryz.f245 [dat 4 (.lit (.bool x0))]=
 bif x0 then
  some (dat 3 (.lit (.int .i64 1)))
 else some (dat 3 (.lit (.int .i64 0))):=by kernel_rfl
/- roadbook/roadbookref01.one -/
/- roadbook/val.True -/
def ab1:ay:=fun _=>none
theorem t160 (N:Nat) (x0:D):aU Tryz.prog (bM T0) ab1 N Tryz.f160 [dat 59 x0]=
 bif (((intD (af x0 0))==0)==true)then
  some (dat 4 (.lit (.bool ((intD (af x0 1))!=0))))
 else some (dat 4 (.lit (.bool false))):=by kernel_rfl
/- roadbook/roadbookref01.True -/
/- roadbook/val.plus -/
def abu:ay:=fun _=>none
theorem afJ (N:Nat) (x0:Int) (x1:Int):aU Tryz.prog (bM T0) abu N Tryz.f180 [dat 3 (.lit (.int .i64 x0)),dat 3 (.lit (.int .i64 x1))]=
 some (aL [3,4] (.agg [.lit (.int .i64 (IntKind.wrap .i64 (x0+x1))),.lit (.bool ((decide ((IntKind.wrap .i64 (x0+x1))<x0))==(decide (x1<0))))])):=by kernel_rfl
/- roadbook/val.minus -/
def acu:ay:=fun _=>none
theorem afv (N:Nat) (x0:Int) (x1:Int):aU Tryz.prog (bM T0) acu N Tryz.f241 [dat 3 (.lit (.int .i64 x0)),dat 3 (.lit (.int .i64 x1))]=
 some (aL [3,4] (.agg [.lit (.int .i64 (IntKind.wrap .i64 (x0 - x1))),.lit (.bool ((decide ((IntKind.wrap .i64 (x0 - x1))>x0))==(decide (x1<0))))])):=by kernel_rfl
/- roadbook/val.times -/
def abm:ay:=fun _=>none
theorem agV (N:Nat) (x0:Int) (x1:Int):aU Tryz.prog (bM T0) abm N Tryz.f242 [dat 3 (.lit (.int .i64 x0)),dat 3 (.lit (.int .i64 x1))]=
 bif (x0==0)then
  some (aL [3,4] (.agg [.lit (.int .i64 (IntKind.wrap .i64 (x0*x1))),.lit (.bool true)]))
 else bif (x0==(-1))then
   some (aL [3,4] (.agg [.lit (.int .i64 (IntKind.wrap .i64 (x0*x1))),.lit (.bool (x1 !=(-9223372036854775808)))]))
  else bif (!(x0==0))then
    some (aL [3,4] (.agg [.lit (.int .i64 (IntKind.wrap .i64 (x0*x1))),.lit (.bool ((IntKind.wrap .i64 (Int.tdiv (IntKind.wrap .i64 (x0*x1)) x0))==x1))]))
   else none:=by kernel_rfl
/- roadbook/val.over -/
def abZ:ay:=fun _=>none
theorem ahn (N:Nat) (x0:Int) (x1:Int):aU Tryz.prog (bM T0) abZ N Tryz.f243 [dat 3 (.lit (.int .i64 x0)),dat 3 (.lit (.int .i64 x1))]=
 bif ((x1==0)==false)then
  bif ((x0==(-9223372036854775808))==true)then
   bif (x1==(-1))then
    some (aL [3,4] (.agg [.lit (.int .i64 0),.lit (.bool false)]))
   else bif (!(x1==0))then
     some (aL [3,4] (.agg [.lit (.int .i64 (IntKind.wrap .i64 (Int.tdiv x0 x1))),.lit (.bool true)]))
    else none
  else bif (!(x1==0))then
    some (aL [3,4] (.agg [.lit (.int .i64 (IntKind.wrap .i64 (Int.tdiv x0 x1))),.lit (.bool true)]))
   else none
 else some (aL [3,4] (.agg [.lit (.int .i64 0),.lit (.bool false)])):=by kernel_rfl
/- roadbook/roadbookref01.two -/
/- roadbook/val.isNumber -/
def abw:ay:=fun _=>none
theorem ahr (N:Nat) (x0:D):aU Tryz.prog (bM T0) abw N Tryz.f179 [dat 59 x0]=
 some (dat 4 (.lit (.bool ((intD (af x0 0))==0)))):=by kernel_rfl
/- roadbook/val.read -/
def abD:ay:=fun _=>none
theorem t156 (N:Nat) (x0:D):aU Tryz.prog (bM T1) abD N Tryz.f156 [dat 59 x0]=
 bif iI x0 then
  some (dat 59 x0)
 else some (dat 59 (.agg [.lit (.int .i64 2),.lit (.int .i64 0)])):=by kernel_rfl
/- roadbook/roadbookref01.fine -/
/- roadbook/val.isFalse -/
def aba:ay:=fun _=>none
theorem afA (N:Nat) (x0:D):aU Tryz.prog (bM T1) aba N Tryz.f246 [dat 59 x0]=
 some (dat 4 (.lit (.bool (((intD (af x0 0))==0)&&(((intD (af x0 1))==0)&&true))))):=by kernel_rfl
/- roadbook/val.isError -/
def abr:ay:=fun _=>none
theorem af5 (N:Nat) (x0:D):aU Tryz.prog (bM T2) abr N Tryz.f177 [dat 59 x0]=
 some (dat 4 (.lit (.bool ((intD (af (gX x0) 0))==2)))):=by kernel_rfl
/- roadbook/val.isNothing -/
def acA:ay:=fun _=>none
theorem agP (N:Nat) (x0:D):aU Tryz.prog (bM T2) acA N Tryz.f255 [dat 59 x0]=
 some (dat 4 (.lit (.bool ((intD (af (gX x0) 0))==1)))):=by kernel_rfl
/- roadbook/val.Less -/
def ace:ay:=fun _=>none
theorem t119 (N:Nat) (x0:D) (x1:D):aU Tryz.prog (bM T2) ace N Tryz.f119 [dat 59 x0,dat 59 x1]=
 bif ((decide ((intD (af (gX x0) 0))<(intD (af (gX x1) 0))))==false)then
  bif (((intD (af (gX x0) 0))==(intD (af (gX x1) 0)))==true)then
   some (dat 4 (.lit (.bool (decide ((intD (af (gX x0) 1))<(intD (af (gX x1) 1)))))))
  else some (dat 4 (.lit (.bool false)))
 else some (dat 4 (.lit (.bool true))):=by kernel_rfl
/- roadbook/roadbookref01.Less -/
/- roadbook/roadbookref01.Not -/
/- roadbook/val.some[roadbook/api.Val] -/
def qx:ay:=fun i=>if i=2 then some ([0,2,3,4,5,6,10,11,12,13,14,15,16],[],[])else none
def oK (P:Program) (fn:Func) (N n:Nat) (x0:D) (v9:Int):Option AV:=aN (preL qx (sub [1,0,1,0,0] (ag fn))) (az P (bM T3) qx N (sub [1,0,1,0,0] (ag fn))) n ⟨[dead,dat 133 (.held (.func (.func 246) #[] #[])),dead,dead,dead,dead,dead,dat 67 x0,dat 3 (.lit (.int .i64 ((ae x0).length:Int))),dat 3 (.lit (.int .i64 v9)),dead,dead,dead,dead,dead,dead,dead],aZ []⟩ (aG 0 (cZ P (bM T3) qx N (sub [1,1] (ag fn)) (dJ P fn)))
theorem zT (N n:Nat) (x0:D) (v9:Int):oK Tryz.prog Tryz.f176 N (n+1) x0 v9=
 bif decide (v9<((ae x0).length:Int))then
  bif (decide (0<=v9)&&decide (v9<((ae x0).length:Int)))then
   bif uU ((ae x0).getD (v9).toNat .nil)then
    some (dat 4 (.lit (.bool true)))
   else oK Tryz.prog Tryz.f176 N n x0 (IntKind.wrap .i64 (v9+1))
  else none
 else some (dat 4 (.lit (.bool false))):=by kernel_rfl
theorem Xd (N:Nat) (x0:D):aU Tryz.prog (bM T3) qx N Tryz.f176 [dat 67 x0,dat 133 (.held (.func (.func 246) #[] #[]))]=
 oK Tryz.prog Tryz.f176 N N x0 0:=by kernel_rfl
/- roadbook/val.some[roadbook/api.Val] -/
def pK:ay:=fun i=>if i=2 then some ([0,2,3,4,5,6,10,11,12,13,14,15,16],[],[])else none
def oM (P:Program) (fn:Func) (N n:Nat) (x0:D) (v9:Int):Option AV:=aN (preL pK (sub [1,0,1,0,0] (ag fn))) (az P (bM T3) pK N (sub [1,0,1,0,0] (ag fn))) n ⟨[dead,dat 133 (.held (.func (.func 160) #[] #[])),dead,dead,dead,dead,dead,dat 67 x0,dat 3 (.lit (.int .i64 ((ae x0).length:Int))),dat 3 (.lit (.int .i64 v9)),dead,dead,dead,dead,dead,dead,dead],aZ []⟩ (aG 0 (cZ P (bM T3) pK N (sub [1,1] (ag fn)) (dJ P fn)))
theorem yQ (N n:Nat) (x0:D) (v9:Int):oM Tryz.prog Tryz.f176 N (n+1) x0 v9=
 bif decide (v9<((ae x0).length:Int))then
  bif (decide (0<=v9)&&decide (v9<((ae x0).length:Int)))then
   bif sS ((ae x0).getD (v9).toNat .nil)then
    some (dat 4 (.lit (.bool true)))
   else oM Tryz.prog Tryz.f176 N n x0 (IntKind.wrap .i64 (v9+1))
  else none
 else some (dat 4 (.lit (.bool false))):=by kernel_rfl
theorem V4 (N:Nat) (x0:D):aU Tryz.prog (bM T3) pK N Tryz.f176 [dat 67 x0,dat 133 (.held (.func (.func 160) #[] #[]))]=
 oM Tryz.prog Tryz.f176 N N x0 0:=by kernel_rfl
/- roadbook/val.some[roadbook/api.Val] -/
def pU:ay:=fun i=>if i=2 then some ([0,2,3,4,5,6,10,11,12,13,14,15,16],[],[])else none
def oU (P:Program) (fn:Func) (N n:Nat) (x0:D) (v9:Int):Option AV:=aN (preL pU (sub [1,0,1,0,0] (ag fn))) (az P (bM T3) pU N (sub [1,0,1,0,0] (ag fn))) n ⟨[dead,dat 133 (.held (.func (.func 177) #[] #[])),dead,dead,dead,dead,dead,dat 67 x0,dat 3 (.lit (.int .i64 ((ae x0).length:Int))),dat 3 (.lit (.int .i64 v9)),dead,dead,dead,dead,dead,dead,dead],aZ []⟩ (aG 0 (cZ P (bM T3) pU N (sub [1,1] (ag fn)) (dJ P fn)))
theorem Bg (N n:Nat) (x0:D) (v9:Int):oU Tryz.prog Tryz.f176 N (n+1) x0 v9=
 bif decide (v9<((ae x0).length:Int))then
  bif (decide (0<=v9)&&decide (v9<((ae x0).length:Int)))then
   bif isErr ((ae x0).getD (v9).toNat .nil)then
    some (dat 4 (.lit (.bool true)))
   else oU Tryz.prog Tryz.f176 N n x0 (IntKind.wrap .i64 (v9+1))
  else none
 else some (dat 4 (.lit (.bool false))):=by kernel_rfl
theorem Yt (N:Nat) (x0:D):aU Tryz.prog (bM T3) pU N Tryz.f176 [dat 67 x0,dat 133 (.held (.func (.func 177) #[] #[]))]=
 oU Tryz.prog Tryz.f176 N N x0 0:=by kernel_rfl
/- roadbook/val.some[roadbook/api.Val] -/
def pz:ay:=fun i=>if i=2 then some ([0,2,3,4,5,6,10,11,12,13,14,15,16],[],[])else none
def oO (P:Program) (fn:Func) (N n:Nat) (x0:D) (v9:Int):Option AV:=aN (preL pz (sub [1,0,1,0,0] (ag fn))) (az P (bM T3) pz N (sub [1,0,1,0,0] (ag fn))) n ⟨[dead,dat 133 (.held (.func (.func 179) #[] #[])),dead,dead,dead,dead,dead,dat 67 x0,dat 3 (.lit (.int .i64 ((ae x0).length:Int))),dat 3 (.lit (.int .i64 v9)),dead,dead,dead,dead,dead,dead,dead],aZ []⟩ (aG 0 (cZ P (bM T3) pz N (sub [1,1] (ag fn)) (dJ P fn)))
theorem zu (N n:Nat) (x0:D) (v9:Int):oO Tryz.prog Tryz.f176 N (n+1) x0 v9=
 bif decide (v9<((ae x0).length:Int))then
  bif (decide (0<=v9)&&decide (v9<((ae x0).length:Int)))then
   bif isNum ((ae x0).getD (v9).toNat .nil)then
    some (dat 4 (.lit (.bool true)))
   else oO Tryz.prog Tryz.f176 N n x0 (IntKind.wrap .i64 (v9+1))
  else none
 else some (dat 4 (.lit (.bool false))):=by kernel_rfl
theorem Wh (N:Nat) (x0:D):aU Tryz.prog (bM T3) pz N Tryz.f176 [dat 67 x0,dat 133 (.held (.func (.func 179) #[] #[]))]=
 oO Tryz.prog Tryz.f176 N N x0 0:=by kernel_rfl
/- roadbook/val.some[roadbook/api.Val] -/
def ql:ay:=fun i=>if i=2 then some ([0,2,3,4,5,6,10,11,12,13,14,15,16],[],[])else none
def oP (P:Program) (fn:Func) (N n:Nat) (x0:D) (v9:Int):Option AV:=aN (preL ql (sub [1,0,1,0,0] (ag fn))) (az P (bM T3) ql N (sub [1,0,1,0,0] (ag fn))) n ⟨[dead,dat 133 (.held (.func (.func 255) #[] #[])),dead,dead,dead,dead,dead,dat 67 x0,dat 3 (.lit (.int .i64 ((ae x0).length:Int))),dat 3 (.lit (.int .i64 v9)),dead,dead,dead,dead,dead,dead,dead],aZ []⟩ (aG 0 (cZ P (bM T3) ql N (sub [1,1] (ag fn)) (dJ P fn)))
theorem AX (N n:Nat) (x0:D) (v9:Int):oP Tryz.prog Tryz.f176 N (n+1) x0 v9=
 bif decide (v9<((ae x0).length:Int))then
  bif (decide (0<=v9)&&decide (v9<((ae x0).length:Int)))then
   bif sV ((ae x0).getD (v9).toNat .nil)then
    some (dat 4 (.lit (.bool true)))
   else oP Tryz.prog Tryz.f176 N n x0 (IntKind.wrap .i64 (v9+1))
  else none
 else some (dat 4 (.lit (.bool false))):=by kernel_rfl
theorem WU (N:Nat) (x0:D):aU Tryz.prog (bM T3) ql N Tryz.f176 [dat 67 x0,dat 133 (.held (.func (.func 255) #[] #[]))]=
 oP Tryz.prog Tryz.f176 N N x0 0:=by kernel_rfl
/- roadbook/roadbookref01.odd -/
/- roadbook/val.ifNumbers -/
def abJ:ay:=fun _=>none
theorem agA (N:Nat) (x0:Int) (x1:D):aU Tryz.prog (bM T4) abJ N Tryz.f244 [dat 3 (.lit (.int .i64 x0)),dat 67 x1]=
 bif (ae x1).any isErr then
  some (dat 59 (.agg [.lit (.int .i64 2),.lit (.int .i64 0)]))
 else bif (ae x1).any sV then
   some (dat 59 (.agg [.lit (.int .i64 1),.lit (.int .i64 0)]))
  else some (dat 59 (.agg [.lit (.int .i64 0),.lit (.int .i64 x0)])):=by kernel_rfl
/- roadbook/roadbookref01.And -/
/- roadbook/roadbookref01.Or -/
/- roadbook/roadbookref01.Sum -/
/- roadbook/val.Sum -/
def Mc:ay:=fun i=>if i=7 then some ([0,1,5,6,7,8,9,10,11,12,13,14,15,19,20,21,22,23,24,25,26,27,28,29,30,31,32,33,34,35,36,37,38,39,40,41,42,43,44,45,46,47,48],[2],[])else none
def lZ (P:Program) (fn:Func) (N n:Nat) (x0:D) (v3:Int) (v4:Int) (v18:Int):Option AV:=aN (preL Mc (sub [1,1,1,1,0,1,0,0] (ag fn))) (az P (bM T4) Mc N (sub [1,1,1,1,0,1,0,0] (ag fn))) n ⟨[dead,dead,bxp 2 59,dat 3 (.lit (.int .i64 v3)),dat 3 (.lit (.int .i64 v4)),dead,dead,dead,dead,dead,dead,dead,dead,dead,dead,dead,dat 67 x0,dat 3 (.lit (.int .i64 ((ae x0).length:Int))),dat 3 (.lit (.int .i64 v18)),dead,dead,dead,dead,dead,dead,dead,dead,dead,dead,dead,dead,dead,dead,dead,dead,dead,dead,dead,dead,dead,dead,dead,dead,dead,dead,dead,dead,dead,dead],aZ [(2,some ⟨59,.agg [.lit (.int .i64 0),.lit (.int .i64 0)],0,none⟩)]⟩ (aG 0 (cZ P (bM T4) Mc N (sub [1,1,1,1,1] (ag fn)) (dJ P fn)))
theorem IL (N n:Nat) (x0:D) (v3:Int) (v4:Int) (v18:Int):lZ Tryz.prog Tryz.f148 N (n+1) x0 v3 v4 v18=
 bif decide (v18<((ae x0).length:Int))then
  bif (decide (0<=v18)&&decide (v18<((ae x0).length:Int)))then
   bif ((!(DD v3 (intD (af ((ae x0).getD (v18).toNat .nil) 1))))==true)then
    bif decide ((intD (af ((ae x0).getD (v18).toNat .nil) 1))>0)then
     lZ Tryz.prog Tryz.f148 N n x0 (IntKind.wrap .i64 (v3+(intD (af ((ae x0).getD (v18).toNat .nil) 1)))) (IntKind.wrap .i64 (v4+1)) (IntKind.wrap .i64 (v18+1))
    else bif (!(DD v3 (intD (af ((ae x0).getD (v18).toNat .nil) 1))))then
      lZ Tryz.prog Tryz.f148 N n x0 (IntKind.wrap .i64 (v3+(intD (af ((ae x0).getD (v18).toNat .nil) 1)))) (IntKind.wrap .i64 (v4 - 1)) (IntKind.wrap .i64 (v18+1))
     else lZ Tryz.prog Tryz.f148 N n x0 (IntKind.wrap .i64 (v3+(intD (af ((ae x0).getD (v18).toNat .nil) 1)))) v4 (IntKind.wrap .i64 (v18+1))
   else bif (!(DD v3 (intD (af ((ae x0).getD (v18).toNat .nil) 1))))then
     lZ Tryz.prog Tryz.f148 N n x0 (IntKind.wrap .i64 (v3+(intD (af ((ae x0).getD (v18).toNat .nil) 1)))) (IntKind.wrap .i64 (v4 - 1)) (IntKind.wrap .i64 (v18+1))
    else lZ Tryz.prog Tryz.f148 N n x0 (IntKind.wrap .i64 (v3+(intD (af ((ae x0).getD (v18).toNat .nil) 1)))) v4 (IntKind.wrap .i64 (v18+1))
  else none
 else bif (v4 !=0)then
   some (dat 59 (.agg [.lit (.int .i64 2),.lit (.int .i64 0)]))
  else some (dat 59 (.agg [.lit (.int .i64 0),.lit (.int .i64 v3)])):=by kernel_rfl
theorem t148 (N:Nat) (x0:D):aU Tryz.prog (bM T4) Mc N Tryz.f148 [dat 67 x0]=
 bif (ae x0).any isErr then
  some (dat 59 (.agg [.lit (.int .i64 2),.lit (.int .i64 0)]))
 else bif (!((ae x0).any isNum))then
   some (dat 59 (.agg [.lit (.int .i64 1),.lit (.int .i64 0)]))
  else lZ Tryz.prog Tryz.f148 N N x0 0 0 0:=by kernel_rfl
/- roadbook/roadbookref01.Add -/
/- roadbook/roadbookref01.Sub -/
/- roadbook/roadbookref01.Mul -/
/- roadbook/roadbookref01.Div -/
/- roadbook/roadbookref01.Eq -/
/- roadbook/roadbookref01.Lt -/
/- roadbook/val.reckon -/
def PP:ay:=fun _=>none
theorem WE (N:Nat) (x1:D) (x2:D):aU Tryz.prog (bM T5) PP N Tryz.f240 [dat 171 (.held (.func (.func 180) #[] #[])),dat 59 x1,dat 59 x2]=
 bif (!(isNum (jB 0 [x1,x2])))then
  some (dat 59 (jB 0 [x1,x2]))
 else bif (!(DD (intD (af x1 1)) (intD (af x2 1))))then
   some (dat 59 (.agg [.lit (.int .i64 2),.lit (.int .i64 0)]))
  else some (dat 59 (.agg [.lit (.int .i64 0),.lit (.int .i64 (IntKind.wrap .i64 ((intD (af x1 1))+(intD (af x2 1)))))])):=by kernel_rfl
/- roadbook/val.reckon -/
def QI:ay:=fun _=>none
theorem Xc (N:Nat) (x1:D) (x2:D):aU Tryz.prog (bM T5) QI N Tryz.f240 [dat 171 (.held (.func (.func 241) #[] #[])),dat 59 x1,dat 59 x2]=
 bif (!(isNum (jB 0 [x1,x2])))then
  some (dat 59 (jB 0 [x1,x2]))
 else bif (!(Rt (intD (af x1 1)) (intD (af x2 1))))then
   some (dat 59 (.agg [.lit (.int .i64 2),.lit (.int .i64 0)]))
  else some (dat 59 (.agg [.lit (.int .i64 0),.lit (.int .i64 (IntKind.wrap .i64 ((intD (af x1 1)) - (intD (af x2 1)))))])):=by kernel_rfl
/- roadbook/val.reckon -/
def QO:ay:=fun _=>none
theorem XW (N:Nat) (x1:D) (x2:D):aU Tryz.prog (bM T5) QO N Tryz.f240 [dat 171 (.held (.func (.func 242) #[] #[])),dat 59 x1,dat 59 x2]=
 bif (!(isNum (jB 0 [x1,x2])))then
  some (dat 59 (jB 0 [x1,x2]))
 else bif (!(Gg (intD (af x1 1)) (intD (af x2 1))))then
   some (dat 59 (.agg [.lit (.int .i64 2),.lit (.int .i64 0)]))
  else some (dat 59 (.agg [.lit (.int .i64 0),.lit (.int .i64 (IntKind.wrap .i64 ((intD (af x1 1))*(intD (af x2 1)))))])):=by kernel_rfl
/- roadbook/val.reckon -/
def QJ:ay:=fun _=>none
theorem WN (N:Nat) (x1:D) (x2:D):aU Tryz.prog (bM T5) QJ N Tryz.f240 [dat 171 (.held (.func (.func 243) #[] #[])),dat 59 x1,dat 59 x2]=
 bif (!(isNum (jB 0 [x1,x2])))then
  some (dat 59 (jB 0 [x1,x2]))
 else bif (!(JG (intD (af x1 1)) (intD (af x2 1))))then
   some (dat 59 (.agg [.lit (.int .i64 2),.lit (.int .i64 0)]))
  else some (dat 59 (.agg [.lit (.int .i64 0),.lit (.int .i64 (XO (intD (af x1 1)) (intD (af x2 1))))])):=by kernel_rfl
/- roadbook/val.Eq -/
def aaT:ay:=fun _=>none
theorem agv (N:Nat) (x0:D) (x1:D):aU Tryz.prog (bM T5) aaT N Tryz.f215 [dat 59 x0,dat 59 x1]=
 some (dat 59 (jB (uJ ((intD (af x0 1))==(intD (af x1 1)))) [x0,x1])):=by kernel_rfl
/- roadbook/val.Lt -/
def abb:ay:=fun _=>none
theorem ahm (N:Nat) (x0:D) (x1:D):aU Tryz.prog (bM T5) abb N Tryz.f216 [dat 59 x0,dat 59 x1]=
 some (dat 59 (jB (uJ (decide ((intD (af x0 1))<(intD (af x1 1))))) [x0,x1])):=by kernel_rfl
/- roadbook/val.And -/
def aco:ay:=fun _=>none
theorem ag9 (N:Nat) (x0:D):aU Tryz.prog (bM T5) aco N Tryz.f217 [dat 67 x0]=
 bif (ae x0).any uU then
  some (dat 59 (.agg [.lit (.int .i64 0),.lit (.int .i64 0)]))
 else some (dat 59 (jB 1 (ae x0))):=by kernel_rfl
/- roadbook/val.Or -/
def abA:ay:=fun _=>none
theorem t218 (N:Nat) (x0:D):aU Tryz.prog (bM T5) abA N Tryz.f218 [dat 67 x0]=
 bif (ae x0).any sS then
  some (dat 59 (.agg [.lit (.int .i64 0),.lit (.int .i64 1)]))
 else some (dat 59 (jB 0 (ae x0))):=by kernel_rfl
/- roadbook/val.Not -/
def acr:ay:=fun _=>none
theorem ahs (N:Nat) (x0:D):aU Tryz.prog (bM T5) acr N Tryz.f219 [dat 59 x0]=
 some (dat 59 (jB (uJ (uU x0)) [x0])):=by kernel_rfl
/- roadbook/val.Add -/
def abp:ay:=fun _=>none
theorem agN (N:Nat) (x0:D) (x1:D):aU Tryz.prog (bM T6) abp N Tryz.f211 [dat 59 x0,dat 59 x1]=
 some (dat 59 (WM x0 x1)):=by kernel_rfl
/- roadbook/val.Sub -/
def aaL:ay:=fun _=>none
theorem t212 (N:Nat) (x0:D) (x1:D):aU Tryz.prog (bM T6) aaL N Tryz.f212 [dat 59 x0,dat 59 x1]=
 some (dat 59 (Xq x0 x1)):=by kernel_rfl
/- roadbook/val.Mul -/
def aaM:ay:=fun _=>none
theorem t213 (N:Nat) (x0:D) (x1:D):aU Tryz.prog (bM T6) aaM N Tryz.f213 [dat 59 x0,dat 59 x1]=
 some (dat 59 (We x0 x1)):=by kernel_rfl
/- roadbook/val.Div -/
def acV:ay:=fun _=>none
theorem ahc (N:Nat) (x0:D) (x1:D):aU Tryz.prog (bM T6) acV N Tryz.f214 [dat 59 x0,dat 59 x1]=
 some (dat 59 (Xp x0 x1)):=by kernel_rfl
section
set_option linter.unusedSimpArgs false
theorem hm:Tryz.prog.follows .mixedOrders=true:=by kernel_rfl
theorem n23 (x:D):bD Tryz.prog 59 x=x:=by kernel_rfl
theorem n28 (x:D):bD Tryz.prog 67 x=x:=by kernel_rfl
theorem n25 (x:D):bD Tryz.prog 133 x=x:=by kernel_rfl
theorem n40 (x:D):bD Tryz.prog 171 x=x:=by kernel_rfl
theorem n3 (x:D):bD Tryz.prog 3 x=.lit (.int .i64 (intD x)):=by kernel_rfl
theorem n4 (x:D):bD Tryz.prog 4 x=.lit (.bool (gu x)):=by kernel_rfl
theorem m23 (x:D):aj Tryz.prog 59 x=dat 59 x:=by kernel_rfl
theorem m28 (x:D):aj Tryz.prog 67 x=dat 67 x:=by kernel_rfl
theorem m3 (x:D):aj Tryz.prog 3 x=dat 3 (.lit (.int .i64 (intD x))):=by kernel_rfl
theorem m4 (x:D):aj Tryz.prog 4 x=dat 4 (.lit (.bool (gu x))):=by kernel_rfl
theorem m49 (x:D):aj Tryz.prog 170 x=aL [3,4] x:=by kernel_rfl
theorem u23: ∃ f g:Field,Tryz.prog.underlying 59=some (.struct #[f,g])/\f.type=3/\g.type=3:=⟨_,_,Tryz.underlying59,rfl,rfl⟩
theorem u3:Tryz.prog.underlying 3=some (.int .i64):=by kernel_rfl
theorem u28:Tryz.prog.underlying 67=some (.slice 59):=by kernel_rfl
theorem u25:Tryz.prog.underlying 133=some (.func #[59] #[4] false):=by kernel_rfl
theorem ty3 {n:Nat} {x:D} (h:Ty Tryz.prog n 3 x):inR (intD x)=true:=by
 cases n with
 |zero=>exact h.elim
 |succ n=>
  unfold Ty at h
  rw[u3]at h
  split at h<;>try (exact h.elim)
  all_goals try (simp_all;done)
  rename_i k k' z heq
  cases heq
  obtain⟨rfl,hw⟩:=h
  exact KG hw
theorem iC {n:Nat} {x:D} (h:Ty Tryz.prog n 3 x): ∃ z,x=.lit (.int .i64 z)/\inR z=true:=by
 cases n with
 |zero=>exact h.elim
 |succ n=>
  unfold Ty at h
  rw[u3]at h
  split at h<;>try (exact h.elim)
  all_goals try (simp_all;done)
  rename_i k k' z heq
  cases heq
  obtain⟨rfl,hw⟩:=h
  exact⟨z,rfl,KG hw⟩
theorem ahd {n:Nat} {x:D} (h:Ty Tryz.prog n 59 x): ∃ k m,x=vv k m/\inR k=true/\inR m=true:=by
 obtain⟨f,g,hu,hf,hg⟩:=u23
 cases n with
 |zero=>exact h.elim
 |succ n=>
  unfold Ty at h
  rw[hu]at h
  split at h<;>try (exact h.elim)
  all_goals try (simp_all;done)
  rename_i fs ps heq
  cases heq
  obtain⟨hl,hp⟩:=h
  match ps,hl with
  | [a,b],_=>
   have h0:=hp 0 f rfl
   have h1:=hp 1 g rfl
   rw[hf]at h0
   rw[hg]at h1
   obtain⟨k,ek,hk⟩:=iC h0
   obtain⟨m,em,hm⟩:=iC h1
   simp at ek em
   subst ek em
   exact⟨k,m,rfl,hk,hm⟩
theorem Zg {n:Nat} {x:D} (h:Ty Tryz.prog n 67 x): ∃ es,x=.slice es []/\es.length<=maxLen/\ ∀ y∈es,∃ k m,y=vv k m/\inR k=true/\inR m=true:=by
 cases n with
 |zero=>exact h.elim
 |succ n=>
  unfold Ty at h
  rw[u28]at h
  split at h<;>try (exact h.elim)
  all_goals try (simp_all;done)
  rename_i e es sp heq
  cases heq
  obtain⟨rfl,hl,hp⟩:=h
  exact⟨es,rfl,hl,fun y hy=>ahd (hp y hy)⟩
theorem Bd:EnvOK Tryz.prog (bM T0):=CQ
theorem aeA:FnOK Tryz.prog 117 Tryz.f117:=⟨Tryz.func117,rfl,by kernel_rfl⟩
theorem c117: ∀ args d,ent [59] (f1 fun x=>some (.lit (.bool (iI x)))) args=some d->CallOK Tryz.prog 117 args (aj Tryz.prog 4 d):=
 mY aeA fun x d h _=>by
  cases h
  rw[n23]
  refine aI hm Bd aeA ((t117 1 x).trans ?_)
  rw[m4]
  simp only[gu,iI,kk,nn]
  cases (intD (af x 0)==0)<;>cases (intD (af x 0)==1)<;>cases (intD (af x 0)==2)<;>rfl
theorem adn:FnOK Tryz.prog 147 Tryz.f147:=⟨Tryz.func147,rfl,by kernel_rfl⟩
theorem ags: ∀ args d,ent [3] (f1 fun x=>some (.agg [.lit (.int .i64 0),.lit (.int .i64 (intD x))])) args=some d->CallOK Tryz.prog 147 args (aj Tryz.prog 59 d):=
 mY adn fun x d h _=>by
  cases h
  rw[n3]
  refine aI hm Bd adn ((agm 1 (intD x)).trans ?_)
  rw[m23]
theorem afu:FnOK Tryz.prog 178 Tryz.f178:=⟨Tryz.func178,rfl,by kernel_rfl⟩
theorem agt: ∀ args d,ent [] (f0 (some (.agg [.lit (.int .i64 2),.lit (.int .i64 0)]))) args=some d->CallOK Tryz.prog 178 args (aj Tryz.prog 59 d):=
 YP fun d h=>by
  cases h
  refine aI hm Bd afu ((afK 1).trans ?_)
  rw[m23]
theorem aeZ:FnOK Tryz.prog 245 Tryz.f245:=⟨Tryz.func245,rfl,by kernel_rfl⟩
theorem afr: ∀ args d,ent [4] (f1 fun x=>some (.lit (.int .i64 (uJ (gu x))))) args=some d->CallOK Tryz.prog 245 args (aj Tryz.prog 3 d):=
 mY aeZ fun x d h _=>by
  cases h
  rw[n4]
  refine aI hm Bd aeZ ((agK 1 (gu x)).trans ?_)
  rw[m3]
  simp only[intD,uJ]
  cases gu x<;>rfl
theorem aeY:FnOK Tryz.prog 160 Tryz.f160:=⟨Tryz.func160,rfl,by kernel_rfl⟩
theorem c160: ∀ args d,ent [59] (f1 fun x=>some (.lit (.bool (sS x)))) args=some d->CallOK Tryz.prog 160 args (aj Tryz.prog 4 d):=
 mY aeY fun x d h _=>by
  cases h
  rw[n23]
  refine aI hm Bd aeY ((t160 1 x).trans ?_)
  rw[m4]
  simp only[gu,sS,kk,nn]
  cases (intD (af x 0)==0)<;>rfl
theorem adi:FnOK Tryz.prog 180 Tryz.f180:=⟨Tryz.func180,rfl,by kernel_rfl⟩
theorem agY: ∀ args d,ent [3,3] (f2 fun x y=>some (.agg [.lit (.int .i64 (IntKind.wrap .i64 ((intD x)+(intD y)))),.lit (.bool (DD (intD x) (intD y)))])) args=some d->CallOK Tryz.prog 180 args (aj Tryz.prog 170 d):=
 gD adi fun x y d h ⟨_,hx⟩ ⟨_,hy⟩=>by
  cases h
  rw[n3,n3]
  refine aI hm Bd adi ((afJ 1 (intD x) (intD y)).trans ?_)
  rw[m49,Us (ty3 hx) (ty3 hy)]
  rfl
theorem ad2:FnOK Tryz.prog 241 Tryz.f241:=⟨Tryz.func241,rfl,by kernel_rfl⟩
theorem afP: ∀ args d,ent [3,3] (f2 fun x y=>some (.agg [.lit (.int .i64 (IntKind.wrap .i64 ((intD x) - (intD y)))),.lit (.bool (Rt (intD x) (intD y)))])) args=some d->CallOK Tryz.prog 241 args (aj Tryz.prog 170 d):=
 gD ad2 fun x y d h ⟨_,hx⟩ ⟨_,hy⟩=>by
  cases h
  rw[n3,n3]
  refine aI hm Bd ad2 ((afv 1 (intD x) (intD y)).trans ?_)
  rw[m49,Qz (ty3 hx) (ty3 hy)]
  rfl
theorem ade:FnOK Tryz.prog 242 Tryz.f242:=⟨Tryz.func242,rfl,by kernel_rfl⟩
theorem afz: ∀ args d,ent [3,3] (f2 fun x y=>some (.agg [.lit (.int .i64 (IntKind.wrap .i64 ((intD x)*(intD y)))),.lit (.bool (Gg (intD x) (intD y)))])) args=some d->CallOK Tryz.prog 242 args (aj Tryz.prog 170 d):=
 gD ade fun x y d h ⟨_,hx⟩ ⟨_,hy⟩=>by
  cases h
  rw[n3,n3]
  refine aI hm Bd ade ((agV 1 (intD x) (intD y)).trans ?_)
  have hx':=ty3 hx
  have hy':=ty3 hy
  generalize intD x=a at*
  generalize intD y=b at*
  rw[m49]
  by_cases h0:a=0
  ·subst h0
   simp[Gg,inR]
  ·have h0':(a==0)=false:=by simpa using h0
   by_cases h1:a= -1
   ·subst h1
    have:(b !=(-9223372036854775808))=Gg (-1) b:=by
     rw[bH]at hy'
     unfold Gg
     cases hm':inR (-1*b)
     ·rw[uq]at hm'
      have:b= -9223372036854775808:=by omega
      simp[this]
     ·rw[bH]at hm'
      have:b≠ -9223372036854775808:=by omega
      simpa using this
    rw[this]
    rfl
   ·have h1':(a==(-1))=false:=by simpa using h1
    rw[h0',h1',Uf hx' hy' h0 h1]
    rfl
theorem adf:FnOK Tryz.prog 243 Tryz.f243:=⟨Tryz.func243,rfl,by kernel_rfl⟩
theorem agu: ∀ args d,ent [3,3] (f2 fun x y=>some (.agg [.lit (.int .i64 (XO (intD x) (intD y))),.lit (.bool (JG (intD x) (intD y)))])) args=some d->CallOK Tryz.prog 243 args (aj Tryz.prog 170 d):=
 gD adf fun x y d h ⟨_,hx⟩ ⟨_,hy⟩=>by
  cases h
  rw[n3,n3]
  refine aI hm Bd adf ((ahn 1 (intD x) (intD y)).trans ?_)
  have hx':=ty3 hx
  have hy':=ty3 hy
  generalize intD x=a at*
  generalize intD y=b at*
  rw[m49]
  unfold XO JG
  by_cases h0:b=0
  ·subst h0;rfl
  ·have h0':(b==0)=false:=by simpa using h0
   have ht:=Vg hx' h0
   rw[h0',ht]
   cases ha:(a== -9223372036854775808)<;>cases hb:(b== -1)<;>simp[ha,hb]at ht⊢
   all_goals rw[wrap_in ht]
theorem aed:FnOK Tryz.prog 179 Tryz.f179:=⟨Tryz.func179,rfl,by kernel_rfl⟩
theorem agW: ∀ args d,ent [59] (f1 fun x=>some (.lit (.bool (isNum x)))) args=some d->CallOK Tryz.prog 179 args (aj Tryz.prog 4 d):=
 mY aed fun x d h _=>by
  cases h
  rw[n23]
  refine aI hm Bd aed ((ahr 1 x).trans ?_)
  rw[m4]
  rfl
theorem acP:EnvOK Tryz.prog (bM T1):=ah (ah (ah (ah (ah (ah (ah (ah (ah (ah Bd agW) agu) afz) afP) agY) c160) afr) agt) ags) c117
end
section
set_option linter.unusedSimpArgs false
theorem oh {i n:Nat} (h:i<n):(decide (0<=(i:Int))&&decide ((i:Int)<(n:Int)))=true:=by simp[h]
theorem sU (LP:Nat->Int->Option AV) (l:List D) (p:D->Bool) (T F:Option AV) (hl:l.length<=maxLen)
  (hstep: ∀ (n:Nat) (v:Int),LP (n+1) v=bif decide (v<(l.length:Int))then
   bif (decide (0<=v)&&decide (v<(l.length:Int)))then bif p (l.getD (v).toNat .nil)then T else LP n (IntKind.wrap .i64 (v+1))else none else F):
  ∀ (n i:Nat),i<=l.length->l.length - i<n->LP n (i:Int)=bif (l.drop i).any p then T else F
 |0,i,_,h=>by omega
 |n+1,i,hi,h=>by
  rw[hstep]
  by_cases hlt:i<l.length
  ·have h1:decide ((i:Int)<(l.length:Int))=true:=by simpa using hlt
   rw[oh hlt,h1,cond_true,cond_true,List.drop_eq_getElem_cons hlt,List.any_cons,Int.toNat_natCast]
   have h2:l.getD i .nil=l[i]:=by simp[List.getD,hlt]
   rw[h2]
   have hw:IntKind.wrap .i64 ((i:Int)+1)=((i+1:Nat):Int):=by
    rw[wrap_in]
    ·omega
    ·rw[bH];unfold maxLen at hl;omega
   rw[hw,sU LP l p T F hl hstep n (i+1) (by omega) (by omega)]
   cases p l[i]<;>rfl
  ·have h1:decide ((i:Int)<(l.length:Int))=false:=by simpa using hlt
   have h2:l.drop i=[]:=List.drop_of_length_le (by omega)
   rw[h1,h2,cond_false]
   rfl
theorem mQ {n:Nat} {x:D} (hx:Ty Tryz.prog n 67 x):(ae x).length<=maxLen:=by
 obtain⟨es,rfl,hl,_⟩:=Zg hx
 exact hl
theorem ad7:FnOK Tryz.prog 156 Tryz.f156:=⟨Tryz.func156,rfl,by kernel_rfl⟩
theorem c156: ∀ args d,ent [59] (f1 fun x=>some (gX x)) args=some d->CallOK Tryz.prog 156 args (aj Tryz.prog 59 d):=
 mY ad7 fun x d h _=>by
  cases h
  rw[n23]
  refine aI hm acP ad7 ((t156 1 x).trans ?_)
  rw[m23]
  unfold gX
  cases iI x<;>rfl
theorem aeP:FnOK Tryz.prog 246 Tryz.f246:=⟨Tryz.func246,rfl,by kernel_rfl⟩
theorem ahe: ∀ args d,ent [59] (f1 fun x=>some (.lit (.bool (uU x)))) args=some d->CallOK Tryz.prog 246 args (aj Tryz.prog 4 d):=
 mY aeP fun x d h _=>by
  cases h
  rw[n23]
  refine aI hm acP aeP ((afA 1 x).trans ?_)
  rw[m4,Bool.and_true]
  rfl
theorem YT:EnvOK Tryz.prog (bM T2):=ah (ah acP ahe) c156
theorem adv:FnOK Tryz.prog 177 Tryz.f177:=⟨Tryz.func177,rfl,by kernel_rfl⟩
theorem afG: ∀ args d,ent [59] (f1 fun x=>some (.lit (.bool (isErr x)))) args=some d->CallOK Tryz.prog 177 args (aj Tryz.prog 4 d):=
 mY adv fun x d h _=>by
  cases h
  rw[n23]
  refine aI hm YT adv ((af5 1 x).trans ?_)
  rw[m4]
  rfl
theorem adM:FnOK Tryz.prog 255 Tryz.f255:=⟨Tryz.func255,rfl,by kernel_rfl⟩
theorem agy: ∀ args d,ent [59] (f1 fun x=>some (.lit (.bool (sV x)))) args=some d->CallOK Tryz.prog 255 args (aj Tryz.prog 4 d):=
 mY adM fun x d h _=>by
  cases h
  rw[n23]
  refine aI hm YT adM ((agP 1 x).trans ?_)
  rw[m4]
  rfl
theorem ad4:FnOK Tryz.prog 119 Tryz.f119:=⟨Tryz.func119,rfl,by kernel_rfl⟩
theorem c119: ∀ args d,ent [59,59] (f2 fun x y=>some (.lit (.bool (GG x y)))) args=some d->CallOK Tryz.prog 119 args (aj Tryz.prog 4 d):=
 gD ad4 fun x y d h _ _=>by
  cases h
  rw[n23,n23]
  refine aI hm YT ad4 ((t119 1 x y).trans ?_)
  rw[m4]
  simp only[gu]
  unfold GG kk nn
  cases decide (intD (af (gX x) 0)<intD (af (gX y) 0))<;>cases (intD (af (gX x) 0)==intD (af (gX y) 0))<;>rfl
theorem TR:EnvOK Tryz.prog (bM T3):=ah (ah (ah YT c119) agy) afG
theorem YA {n:Nat} {x:D} (hx:Ty Tryz.prog n 67 x):aU Tryz.prog (bM T3) qx ((ae x).length+1) Tryz.f176 [dat 67 x,dat 133 (.held (.func (.func 246) #[] #[]))]=some (dat 4 (.lit (.bool ((ae x).any uU)))):=by
 rw[Xd]
 have h:=sU (fun n v=>oK Tryz.prog Tryz.f176 ((ae x).length+1) n x v) (ae x) uU (some (dat 4 (.lit (.bool true)))) (some (dat 4 (.lit (.bool false)))) (mQ hx)
  (fun n v=>zT ((ae x).length+1) n x v) ((ae x).length+1) 0 (Nat.zero_le _) (by omega)
 rw[List.drop_zero]at h
 refine Eq.trans h ?_
 cases (ae x).any uU<;>rfl
theorem Y8 {n:Nat} {x:D} (hx:Ty Tryz.prog n 67 x):aU Tryz.prog (bM T3) pK ((ae x).length+1) Tryz.f176 [dat 67 x,dat 133 (.held (.func (.func 160) #[] #[]))]=some (dat 4 (.lit (.bool ((ae x).any sS)))):=by
 rw[V4]
 have h:=sU (fun n v=>oM Tryz.prog Tryz.f176 ((ae x).length+1) n x v) (ae x) sS (some (dat 4 (.lit (.bool true)))) (some (dat 4 (.lit (.bool false)))) (mQ hx)
  (fun n v=>yQ ((ae x).length+1) n x v) ((ae x).length+1) 0 (Nat.zero_le _) (by omega)
 rw[List.drop_zero]at h
 refine Eq.trans h ?_
 cases (ae x).any sS<;>rfl
theorem ZG {n:Nat} {x:D} (hx:Ty Tryz.prog n 67 x):aU Tryz.prog (bM T3) pU ((ae x).length+1) Tryz.f176 [dat 67 x,dat 133 (.held (.func (.func 177) #[] #[]))]=some (dat 4 (.lit (.bool ((ae x).any isErr)))):=by
 rw[Yt]
 have h:=sU (fun n v=>oU Tryz.prog Tryz.f176 ((ae x).length+1) n x v) (ae x) isErr (some (dat 4 (.lit (.bool true)))) (some (dat 4 (.lit (.bool false)))) (mQ hx)
  (fun n v=>Bg ((ae x).length+1) n x v) ((ae x).length+1) 0 (Nat.zero_le _) (by omega)
 rw[List.drop_zero]at h
 refine Eq.trans h ?_
 cases (ae x).any isErr<;>rfl
theorem Zw {n:Nat} {x:D} (hx:Ty Tryz.prog n 67 x):aU Tryz.prog (bM T3) pz ((ae x).length+1) Tryz.f176 [dat 67 x,dat 133 (.held (.func (.func 179) #[] #[]))]=some (dat 4 (.lit (.bool ((ae x).any isNum)))):=by
 rw[Wh]
 have h:=sU (fun n v=>oO Tryz.prog Tryz.f176 ((ae x).length+1) n x v) (ae x) isNum (some (dat 4 (.lit (.bool true)))) (some (dat 4 (.lit (.bool false)))) (mQ hx)
  (fun n v=>zu ((ae x).length+1) n x v) ((ae x).length+1) 0 (Nat.zero_le _) (by omega)
 rw[List.drop_zero]at h
 refine Eq.trans h ?_
 cases (ae x).any isNum<;>rfl
theorem YO {n:Nat} {x:D} (hx:Ty Tryz.prog n 67 x):aU Tryz.prog (bM T3) ql ((ae x).length+1) Tryz.f176 [dat 67 x,dat 133 (.held (.func (.func 255) #[] #[]))]=some (dat 4 (.lit (.bool ((ae x).any sV)))):=by
 rw[WU]
 have h:=sU (fun n v=>oP Tryz.prog Tryz.f176 ((ae x).length+1) n x v) (ae x) sV (some (dat 4 (.lit (.bool true)))) (some (dat 4 (.lit (.bool false)))) (mQ hx)
  (fun n v=>AX ((ae x).length+1) n x v) ((ae x).length+1) 0 (Nat.zero_le _) (by omega)
 rw[List.drop_zero]at h
 refine Eq.trans h ?_
 cases (ae x).any sV<;>rfl
theorem TQ:FnOK Tryz.prog 176 Tryz.f176:=⟨Tryz.func176,rfl,by kernel_rfl⟩
theorem Ih {n:Nat} {x:D} {t:TypeId} {p q:Array TypeId} {r:Bool} {f:FuncId} (hu:Tryz.prog.underlying t=some (.func p q r)) (h:Ty Tryz.prog n t x) (hf:fnD x=some f):x=.held (.func (.func f) #[] #[]):=by
 cases n with
 |zero=>exact h.elim
 |succ n=>
  unfold Ty at h
  rw[hu]at h
  split at h<;>try (exact h.elim)
  all_goals try (simp_all;done)
  ·rename_i v heq
   rcases h with rfl|⟨g,rfl⟩
   ·simp[fnD]at hf
   ·simp only[fnD,Option.some.injEq]at hf
    rw[hf]
  ·simp[fnD]at hf
theorem afM: ∀ args d,adk.2.2.2 args=some d->CallOK Tryz.prog 176 args (aj Tryz.prog 4 d):=
 gD TQ fun x y d h ⟨_,hx⟩ ⟨_,hy⟩=>by
  rw[n28,n25]
  split at h
  ·rename_i hf
   cases h
   rw[Ih u25 hy hf]
   refine aI hm TR TQ ((YA hx).trans ?_)
   rw[m4]
   rfl
  ·rename_i hf
   cases h
   rw[Ih u25 hy hf]
   refine aI hm TR TQ ((Y8 hx).trans ?_)
   rw[m4]
   rfl
  ·rename_i hf
   cases h
   rw[Ih u25 hy hf]
   refine aI hm TR TQ ((ZG hx).trans ?_)
   rw[m4]
   rfl
  ·rename_i hf
   cases h
   rw[Ih u25 hy hf]
   refine aI hm TR TQ ((Zw hx).trans ?_)
   rw[m4]
   rfl
  ·rename_i hf
   cases h
   rw[Ih u25 hy hf]
   refine aI hm TR TQ ((YO hx).trans ?_)
   rw[m4]
   rfl
  ·cases h
theorem aaU:EnvOK Tryz.prog (bM T4):=ah TR afM
end
section
set_option linter.unusedSimpArgs false
theorem ac6:FnOK Tryz.prog 244 Tryz.f244:=⟨Tryz.func244,rfl,by kernel_rfl⟩
theorem aha: ∀ args d,e244.2.2.2 args=some d->CallOK Tryz.prog 244 args (aj Tryz.prog 59 d):=
 gD ac6 fun x y d h _ _=>by
  cases h
  rw[n3,n28]
  refine aI hm aaU ac6 ((agA 1 (intD x) y).trans ?_)
  rw[m23]
  unfold jB
  cases (ae y).any isErr<;>cases (ae y).any sV<;>rfl
end
section
set_option linter.unusedSimpArgs false
theorem total_cons (y:D) (l:List D):total (y::l)=nn y+total l:=by simp[total]
theorem Xr {i:Nat} {l:List D} (hl:l.length<=maxLen) (h:i<l.length):IntKind.wrap .i64 ((i:Int)+1)=((i+1:Nat):Int):=by
 rw[wrap_in]
 ·omega
 ·rw[bH];unfold maxLen at hl;omega
theorem yL {N:Nat} {x:D} (hl:(ae x).length<=maxLen) (hall: ∀ y∈ae x,inR (nn y)=true) (T:Int): ∀ (n i:Nat) (v c:Int),i<=(ae x).length->(ae x).length - i<n->
  inR v=true-> -(i:Int)<=c->c<=(i:Int)->v+c*18446744073709551616+total ((ae x).drop i)=T->
  lZ Tryz.prog Tryz.f148 N n x v c (i:Int)=bif inR T then some (dat 59 (vv 0 T))else some (dat 59 (vv 2 0))
 |0,i,_,_,_,h,_,_,_,_=>by omega
 |n+1,i,v,c,hi,h,hv,hc1,hc2,hT=>by
  rw[IL]
  by_cases hlt:i<(ae x).length
  ·have h1:decide ((i:Int)<((ae x).length:Int))=true:=by simpa using hlt
   rw[oh hlt,h1,cond_true,cond_true,Int.toNat_natCast]
   have h2:(ae x).getD i .nil=(ae x)[i]:=by simp[List.getD,hlt]
   rw[h2,Xr hl hlt]
   rw[List.drop_eq_getElem_cons hlt,total_cons]at hT
   have hy:=hall (ae x)[i] (List.getElem_mem hlt)
   have hmax:((ae x).length:Int)<=9223372036854775807:=by unfold maxLen at hl;omega
   generalize (ae x)[i]=y at*
   have hnn:intD (af y 1)=nn y:=rfl
   rw[hnn]
   generalize nn y=b at*
   have hs:=OD (v+b)
   have hvb:=hv
   have hbb:=hy
   rw[bH]at hvb hbb
   cases ho:DD v b with
   |true=>
    have ho':inR (v+b)=true:=ho
    rw[wrap_in ho']
    refine Eq.trans ?_ (yL (N:=N) hl hall T n (i+1) (v+b) c (by omega) (by omega) ho' (by omega) (by omega) (by omega))
    rfl
   |false=>
    have ho':inR (v+b)=false:=ho
    rw[uq]at ho'
    by_cases hb0:b>0
    ·have d:decide (b>0)=true:=by simpa using hb0
     have hw:IntKind.wrap .i64 (v+b)=v+b - 18446744073709551616:=by rw[ng];omega
     have hc:IntKind.wrap .i64 (c+1)=c+1:=wrap_in (by rw[bH];omega)
     rw[d,hc]
     refine Eq.trans ?_ (yL (N:=N) hl hall T n (i+1) (IntKind.wrap .i64 (v+b)) (c+1) (by omega) (by omega) hs (by omega) (by omega) (by rw[hw];omega))
     rfl
    ·have d:decide (b>0)=false:=by simpa using hb0
     have hw:IntKind.wrap .i64 (v+b)=v+b+18446744073709551616:=by rw[ng];omega
     have hc:IntKind.wrap .i64 (c - 1)=c - 1:=wrap_in (by rw[bH];omega)
     rw[d,hc]
     refine Eq.trans ?_ (yL (N:=N) hl hall T n (i+1) (IntKind.wrap .i64 (v+b)) (c - 1) (by omega) (by omega) hs (by omega) (by omega) (by rw[hw];omega))
     rfl
  ·have h1:decide ((i:Int)<((ae x).length:Int))=false:=by simpa using hlt
   have h2:(ae x).drop i=[]:=List.drop_of_length_le (by omega)
   rw[h1,cond_false]
   rw[h2]at hT
   have ht0:total []=0:=rfl
   rw[ht0]at hT
   rw[bH]at hv
   by_cases hc0:c=0
   ·subst hc0
    have hTv:T=v:=by omega
    have hin:inR T=true:=by rw[bH];omega
    rw[hin,hTv]
    rfl
   ·have hin:inR T=false:=by rw[uq];omega
    have hne:(c !=0)=true:=by simpa using hc0
    rw[hin,hne]
    rfl
theorem adI:FnOK Tryz.prog 148 Tryz.f148:=⟨Tryz.func148,rfl,by kernel_rfl⟩
theorem WZ {n:Nat} {x:D} (hx:Ty Tryz.prog n 67 x): ∀ y∈ae x,inR (nn y)=true:=by
 obtain⟨es,rfl,_,hall⟩:=Zg hx
 intro y hy
 obtain⟨k,m,rfl,_,h⟩:=hall y hy
 exact h
theorem c148: ∀ args d,aec.2.2.2 args=some d->CallOK Tryz.prog 148 args (aj Tryz.prog 59 d):=
 mY adI fun x d h ⟨_,hx⟩=>by
  cases h
  rw[n28]
  refine aI (fuel:=(ae x).length+1) hm aaU adI ((t148 ((ae x).length+1) x).trans ?_)
  have hs:=yL (N:=(ae x).length+1) (mQ hx) (WZ hx) (total (ae x)) ((ae x).length+1) 0 0 0 (Nat.zero_le _) (by omega) (by decide) (by omega) (by omega) (by rw[List.drop_zero];omega)
  have hs':lZ Tryz.prog Tryz.f148 ((ae x).length+1) ((ae x).length+1) x 0 0 0=_:=hs
  rw[hs',m23]
  unfold yA
  cases (ae x).any isErr<;>cases (ae x).any isNum<;>cases inR (total (ae x))<;>rfl
theorem IE:EnvOK Tryz.prog (bM T5):=ah (ah aaU c148) aha
end
section
set_option linter.unusedSimpArgs false
theorem Yo:FnOK Tryz.prog 240 Tryz.f240:=⟨Tryz.func240,rfl,by kernel_rfl⟩
theorem u40:Tryz.prog.underlying 171=some (.func #[3,3] #[3,4] false):=by kernel_rfl
theorem wS {fits:Bool} {v w:Int} {x y:D} (hw:fits=true->w=v):
  (bif (!(isNum (jB 0 [x,y])))then some (dat 59 (jB 0 [x,y]))
   else bif (!fits)then some (dat 59 (.agg [.lit (.int .i64 2),.lit (.int .i64 0)]))else some (dat 59 (.agg [.lit (.int .i64 0),.lit (.int .i64 w)])))=some (dat 59 (Uu fits v x y)):=by
 unfold jB Uu
 cases [x,y].any isErr<;>cases [x,y].any sV<;>cases fits<;>try rfl
 rw[hw rfl]
 rfl
theorem afN: ∀ args d,e240.2.2.2 args=some d->CallOK Tryz.prog 240 args (aj Tryz.prog 59 d):=
 O7 Yo fun x y z d h ⟨_,hx⟩ _ _=>by
  rw[n40,n23,n23]
  split at h
  ·rename_i hf
   cases h
   rw[Ih u40 hx hf]
   refine aI hm IE Yo ((WE 1 y z).trans ?_)
   rw[m23]
   exact wS wrap_in
  ·rename_i hf
   cases h
   rw[Ih u40 hx hf]
   refine aI hm IE Yo ((Xc 1 y z).trans ?_)
   rw[m23]
   exact wS wrap_in
  ·rename_i hf
   cases h
   rw[Ih u40 hx hf]
   refine aI hm IE Yo ((XW 1 y z).trans ?_)
   rw[m23]
   exact wS wrap_in
  ·rename_i hf
   cases h
   rw[Ih u40 hx hf]
   refine aI hm IE Yo ((WN 1 y z).trans ?_)
   rw[m23]
   exact wS fun _=>rfl
  ·cases h
theorem ae9:FnOK Tryz.prog 215 Tryz.f215:=⟨Tryz.func215,rfl,by kernel_rfl⟩
theorem agF: ∀ args d,e215.2.2.2 args=some d->CallOK Tryz.prog 215 args (aj Tryz.prog 59 d):=
 gD ae9 fun x y d h _ _=>by
  cases h
  rw[n23,n23]
  refine aI hm IE ae9 ((agv 1 x y).trans ?_)
  rw[m23]
  rfl
theorem adJ:FnOK Tryz.prog 216 Tryz.f216:=⟨Tryz.func216,rfl,by kernel_rfl⟩
theorem agD: ∀ args d,e216.2.2.2 args=some d->CallOK Tryz.prog 216 args (aj Tryz.prog 59 d):=
 gD adJ fun x y d h _ _=>by
  cases h
  rw[n23,n23]
  refine aI hm IE adJ ((ahm 1 x y).trans ?_)
  rw[m23]
  rfl
theorem adG:FnOK Tryz.prog 217 Tryz.f217:=⟨Tryz.func217,rfl,by kernel_rfl⟩
theorem afo: ∀ args d,e217.2.2.2 args=some d->CallOK Tryz.prog 217 args (aj Tryz.prog 59 d):=
 mY adG fun x d h _=>by
  cases h
  rw[n28]
  refine aI hm IE adG ((ag9 1 x).trans ?_)
  rw[m23]
  unfold Zx
  cases (ae x).any uU<;>rfl
theorem aee:FnOK Tryz.prog 218 Tryz.f218:=⟨Tryz.func218,rfl,by kernel_rfl⟩
theorem c218: ∀ args d,ads.2.2.2 args=some d->CallOK Tryz.prog 218 args (aj Tryz.prog 59 d):=
 mY aee fun x d h _=>by
  cases h
  rw[n28]
  refine aI hm IE aee ((t218 1 x).trans ?_)
  rw[m23]
  unfold orD
  cases (ae x).any sS<;>rfl
theorem ac4:FnOK Tryz.prog 219 Tryz.f219:=⟨Tryz.func219,rfl,by kernel_rfl⟩
theorem afD: ∀ args d,e219.2.2.2 args=some d->CallOK Tryz.prog 219 args (aj Tryz.prog 59 d):=
 mY ac4 fun x d h _=>by
  cases h
  rw[n23]
  refine aI hm IE ac4 ((ahs 1 x).trans ?_)
  rw[m23]
  rfl
theorem Xf:EnvOK Tryz.prog (bM T6):=(ah (ah (ah (ah (ah (ah IE afD) c218) afo) agD) agF) afN)
theorem adt:FnOK Tryz.prog 211 Tryz.f211:=⟨Tryz.func211,rfl,by kernel_rfl⟩
theorem afR: ∀ args d,e211.2.2.2 args=some d->CallOK Tryz.prog 211 args (aj Tryz.prog 59 d):=
 gD adt fun x y d h _ _=>by
  cases h
  rw[n23,n23]
  refine aI hm Xf adt ((agN 1 x y).trans ?_)
  rw[m23]
theorem aeD:FnOK Tryz.prog 212 Tryz.f212:=⟨Tryz.func212,rfl,by kernel_rfl⟩
theorem c212: ∀ args d,e212.2.2.2 args=some d->CallOK Tryz.prog 212 args (aj Tryz.prog 59 d):=
 gD aeD fun x y d h _ _=>by
  cases h
  rw[n23,n23]
  refine aI hm Xf aeD ((t212 1 x y).trans ?_)
  rw[m23]
theorem aeu:FnOK Tryz.prog 213 Tryz.f213:=⟨Tryz.func213,rfl,by kernel_rfl⟩
theorem c213: ∀ args d,e213.2.2.2 args=some d->CallOK Tryz.prog 213 args (aj Tryz.prog 59 d):=
 gD aeu fun x y d h _ _=>by
  cases h
  rw[n23,n23]
  refine aI hm Xf aeu ((t213 1 x y).trans ?_)
  rw[m23]
theorem aeL:FnOK Tryz.prog 214 Tryz.f214:=⟨Tryz.func214,rfl,by kernel_rfl⟩
theorem ahB: ∀ args d,e214.2.2.2 args=some d->CallOK Tryz.prog 214 args (aj Tryz.prog 59 d):=
 gD aeL fun x y d h _ _=>by
  cases h
  rw[n23,n23]
  refine aI hm Xf aeL ((ahc 1 x y).trans ?_)
  rw[m23]
theorem PQ:EnvOK Tryz.prog (bM T7):=(ah (ah (ah (ah Xf ahB) c213) c212) afR)
theorem BL:EnvOK Tryz.prog (bM T8):=PQ
end
end Go.Proofs.YtpceahbengfjeaaGreatDoor
