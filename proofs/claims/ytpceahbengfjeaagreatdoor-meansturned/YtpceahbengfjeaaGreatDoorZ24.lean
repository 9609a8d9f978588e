/- Trees of functions, and lemmas. Nothing here is trusted. -/
import Derived.Test.YtpceahbengfjeaaGreatDoorZ20
import Derived.Test.YtpceahbengfjeaaGreatDoorZ21
import Derived.Test.YtpceahbengfjeaaGreatDoorZ16
namespace Go.Proofs.YtpceahbengfjeaaGreatDoor
open Go.Ev
set_option linter.unusedVariables false
/- slices.Index[[]int,int] -/
def yJ:ay:=fun i=>if i=2 then some ([2,3,4,5,6,9,10,11,12,13,14,15,16,17,18],[],[])else none
def oJ (P:Program) (fn:Func) (N n:Nat) (x0:D) (x1:Int) (v8:Int):Option AV:=aN (preL yJ (sub [1,0,1,0,0] (ag fn))) (az P (ak T8 [] [] []) yJ N (sub [1,0,1,0,0] (ag fn))) n ⟨[dat 28 x0,dat 3 (.lit (.int .i64 x1)),dead,dead,dead,dead,dead,dat 3 (.lit (.int .i64 ((ae x0).length:Int))),dat 3 (.lit (.int .i64 v8)),dead,dead,dead,dead,dead,dead,dead,dead,dead,dead],aZ []⟩ (aG 0 (cZ P (ak T8 [] [] []) yJ N (sub [1,1] (ag fn)) (dJ P fn)))
theorem ug (N n:Nat) (x0:D) (x1:Int) (v8:Int):oJ Tryz.prog Tryz.f60 N (n+1) x0 x1 v8=
 bif decide (v8<((ae x0).length:Int))then
  bif (decide (0<=v8)&&decide (v8<((ae x0).length:Int)))then
   bif (x1==(intD ((ae x0).getD (v8).toNat .nil)))then
    some (dat 3 (.lit (.int .i64 v8)))
   else oJ Tryz.prog Tryz.f60 N n x0 x1 (IntKind.wrap .i64 (v8+1))
  else none
 else some (dat 3 (.lit (.int .i64 (-1)))):=by kernel_rfl
theorem t60 (N:Nat) (x0:D) (x1:Int):aU Tryz.prog (ak T8 [] [] []) yJ N Tryz.f60 [dat 28 x0,dat 3 (.lit (.int .i64 x1))]=
 oJ Tryz.prog Tryz.f60 N N x0 x1 0:=by kernel_rfl
/- roadbook/bag.rankAt -/
def adq:ay:=fun _=>none
theorem t61 (N:Nat) (x0:D) (x1:Int):aU Tryz.prog (ak T8 [] [] []) adq N Tryz.f61 [dat 67 x0,dat 3 (.lit (.int .i64 x1))]=
 bif ((decide (x1<0))==false)then
  bif decide (x1>=((ae x0).length:Int))then
   some (dat 90 (.agg [.lit (.int .i64 0),.lit (.int .i64 0)]))
  else bif (decide (0<=x1)&&decide (x1<((ae x0).length:Int)))then
    bif iI ((ae x0).getD (x1).toNat .nil)then
     some (dat 90 (.agg [.lit (.int .i64 (intD (af ((ae x0).getD (x1).toNat .nil) 0))),.lit (.int .i64 (intD (af ((ae x0).getD (x1).toNat .nil) 1)))]))
    else some (dat 90 (.agg [.lit (.int .i64 2),.lit (.int .i64 0)]))
   else none
 else some (dat 90 (.agg [.lit (.int .i64 0),.lit (.int .i64 0)])):=by kernel_rfl
/- (roadbook/bag.rank).value -/
def acn:ay:=fun _=>none
theorem afC (N:Nat) (x0:D):aU Tryz.prog (ak T8 [] [] []) acn N Tryz.f120 [dat 90 x0]=
 some (dat 59 (.agg [.lit (.int .i64 (intD (af x0 0))),.lit (.int .i64 (intD (af x0 1)))])):=by kernel_rfl
/- roadbook/roadbookref02.Ints -/
def yK:ay:=fun i=>if i=4 then some ([2,3,4,6,7,8,9,10,11,12,13,14,15,16,17,18,19,20,21,22,23,24,25],[],[])else none
def oZ (P:Program) (fn:Func) (N n:Nat) (x0:D) (x1:D) (v5:Int):Option AV:=aN (preL yK (sub [1,1,0,1,0,0] (ag fn))) (az P (ak T8 [] [] []) yK N (sub [1,1,0,1,0,0] (ag fn))) n ⟨[dat 28 x0,dat 28 x1,dead,dead,dead,dat 3 (.lit (.int .i64 v5)),dead,dead,dead,dead,dead,dead,dead,dead,dead,dead,dead,dead,dead,dead,dead,dead,dead,dead,dead,dead],aZ []⟩ (aG 0 (cZ P (ak T8 [] [] []) yK N (sub [1,1,1] (ag fn)) (dJ P fn)))
theorem oW (N n:Nat) (x0:D) (x1:D) (v5:Int):oZ Tryz.prog Tryz.f55 N (n+1) x0 x1 v5=
 bif decide (v5<((ae x0).length:Int))then
  bif (decide (0<=v5)&&decide (v5<((ae x0).length:Int)))then
   bif (decide (0<=v5)&&decide (v5<((ae x1).length:Int)))then
    bif ((intD ((ae x0).getD (v5).toNat .nil))!=(intD ((ae x1).getD (v5).toNat .nil)))then
     some (dat 4 (.lit (.bool false)))
    else oZ Tryz.prog Tryz.f55 N n x0 x1 (IntKind.wrap .i64 (v5+1))
   else none
  else none
 else some (dat 4 (.lit (.bool true))):=by kernel_rfl
theorem t55 (N:Nat) (x0:D) (x1:D):aU Tryz.prog (ak T8 [] [] []) yK N Tryz.f55 [dat 28 x0,dat 28 x1]=
 bif (((ae x0).length:Int)!=((ae x1).length:Int))then
  some (dat 4 (.lit (.bool false)))
 else oZ Tryz.prog Tryz.f55 N N x0 x1 0:=by kernel_rfl
/- roadbook/roadbookref03.Row -/
def Rw:ay:=fun i=>if i=4 then some ([2,3,4,6,7,8,9,10,11,12,13,14,15,16,17,18,19,20,21,22,23,24,25],[],[])else none
def EW (P:Program) (fn:Func) (N n:Nat) (x0:D) (x1:D) (v5:Int):Option AV:=aN (preL Rw (sub [1,1,0,1,0,0] (ag fn))) (az P (ak T8 [] [] []) Rw N (sub [1,1,0,1,0,0] (ag fn))) n ⟨[dat 67 x0,dat 67 x1,dead,dead,dead,dat 3 (.lit (.int .i64 v5)),dead,dead,dead,dead,dead,dead,dead,dead,dead,dead,dead,dead,dead,dead,dead,dead,dead,dead,dead,dead],aZ []⟩ (aG 0 (cZ P (ak T8 [] [] []) Rw N (sub [1,1,1] (ag fn)) (dJ P fn)))
theorem y9 (N n:Nat) (x0:D) (x1:D) (v5:Int):EW Tryz.prog Tryz.f33 N (n+1) x0 x1 v5=
 bif decide (v5<((ae x0).length:Int))then
  bif (decide (0<=v5)&&decide (v5<((ae x0).length:Int)))then
   bif (decide (0<=v5)&&decide (v5<((ae x1).length:Int)))then
    bif (!(((intD (af ((ae x0).getD (v5).toNat .nil) 0))==(intD (af ((ae x1).getD (v5).toNat .nil) 0)))&&(((intD (af ((ae x0).getD (v5).toNat .nil) 1))==(intD (af ((ae x1).getD (v5).toNat .nil) 1)))&&true)))then
     some (dat 4 (.lit (.bool false)))
    else EW Tryz.prog Tryz.f33 N n x0 x1 (IntKind.wrap .i64 (v5+1))
   else none
  else none
 else some (dat 4 (.lit (.bool true))):=by kernel_rfl
theorem t33 (N:Nat) (x0:D) (x1:D):aU Tryz.prog (ak T8 [] [] []) Rw N Tryz.f33 [dat 67 x0,dat 67 x1]=
 bif (((ae x0).length:Int)!=((ae x1).length:Int))then
  some (dat 4 (.lit (.bool false)))
 else EW Tryz.prog Tryz.f33 N N x0 x1 0:=by kernel_rfl
/- roadbook/bag.colsMay -/
def SX:ay:=fun i=>if i=3 then some ([0,1,2,4,5,9,10,11,12,13,14,15,16,17,18,19,20,21,22,23,24,25],[3],[])else none
def ES (P:Program) (fn:Func) (N n:Nat) (x0:D) (v8:Int) (b3:D):Option AV:=aN (preL SX (sub [1,1,0,1,0,0] (ag fn))) (az P (ak T8 [] [] []) SX N (sub [1,1,0,1,0,0] (ag fn))) n ⟨[dead,dead,dead,bxp 3 141,dead,dead,dat 28 x0,dat 3 (.lit (.int .i64 ((ae x0).length:Int))),dat 3 (.lit (.int .i64 v8)),dead,dead,dead,dead,dead,dead,dead,dead,dead,dead,dead,dead,dead,dead,dead,dead,dead],aZ [(3,some ⟨141,b3,0,none⟩)]⟩ (aG 0 (cZ P (ak T8 [] [] []) SX N (sub [1,1,1] (ag fn)) (dJ P fn)))
theorem ML (N n:Nat) (x0:D) (v8:Int) (b3:D):ES Tryz.prog Tryz.f73 N (n+1) x0 v8 b3=
 bif decide (v8<((ae x0).length:Int))then
  bif (decide (0<=v8)&&decide (v8<((ae x0).length:Int)))then
   bif ((decide ((intD ((ae x0).getD (v8).toNat .nil))<0))==false)then
    bif ((decide ((intD ((ae x0).getD (v8).toNat .nil))>15))==false)then
     bif (decide (0<=(intD ((ae x0).getD (v8).toNat .nil)))&&decide ((intD ((ae x0).getD (v8).toNat .nil))<(16:Int)))then
      bif gu (af b3 (intD ((ae x0).getD (v8).toNat .nil)).toNat)then
       some (dat 4 (.lit (.bool false)))
      else bif (decide (0<=(intD ((ae x0).getD (v8).toNat .nil)))&&decide ((intD ((ae x0).getD (v8).toNat .nil))<(16:Int)))then
        ES Tryz.prog Tryz.f73 N n x0 (IntKind.wrap .i64 (v8+1)) (qB b3 (intD ((ae x0).getD (v8).toNat .nil)).toNat (.lit (.bool true)))
       else none
     else none
    else some (dat 4 (.lit (.bool false)))
   else some (dat 4 (.lit (.bool false)))
  else none
 else some (dat 4 (.lit (.bool true))):=by kernel_rfl
theorem t73 (N:Nat) (x0:D):aU Tryz.prog (ak T8 [] [] []) SX N Tryz.f73 [dat 28 x0]=
 ES Tryz.prog Tryz.f73 N N x0 0 (.agg [.lit (.bool false),.lit (.bool false),.lit (.bool false),.lit (.bool false),.lit (.bool false),.lit (.bool false),.lit (.bool false),.lit (.bool false),.lit (.bool false),.lit (.bool false),.lit (.bool false),.lit (.bool false),.lit (.bool false),.lit (.bool false),.lit (.bool false),.lit (.bool false)]):=by kernel_rfl
/- roadbook/bag.rowsMay -/
def uX:ay:=fun i=>if i=2 then some ([0,2,3,4,5,6,7,11,12,13,14,15,16,17,18,19,20,21,22,23,24,25,26,27,28,29,30],[1],[])else if i=7 then some ([0,2,3,4,5,6,7,11,12,13,14,15,16,17,18,19,23,24,25,26,27,28,29,30],[1],[])else none
def wQ (P:Program) (fn:Func) (N n:Nat) (x0:D) (v10:Int):Option AV:=aN (preL uX (sub [1,0,1,0,0] (ag fn))) (az P (ak T8 [] [] []) uX N (sub [1,0,1,0,0] (ag fn))) n ⟨[dead,bxp 1 37,dead,dead,dead,dead,dead,dead,dat 35 (af x0 1),dat 3 (.lit (.int .i64 ((ae (af x0 1)).length:Int))),dat 3 (.lit (.int .i64 v10)),dead,dead,dead,dead,dead,dead,dead,dead,dead,dead,dead,dead,dead,dead,dead,dead,dead,dead,dead,dead],aZ [(1,some ⟨37,x0,0,none⟩)]⟩ (aG 0 (cZ P (ak T8 [] [] []) uX N (sub [1,1] (ag fn)) (dJ P fn)))
def A7 (P:Program) (fn:Func) (N n:Nat) (x0:D) (v10:Int) (m0:Nat) (v22:Int):Option AV:=aN (preL uX (sub [1,0,1,0,0,1,1,0,0,1,1,1,0,0] (ag fn))) (az P (ak T8 [] [] []) uX N (sub [1,0,1,0,0,1,1,0,0,1,1,1,0,0] (ag fn))) n ⟨[dead,bxp 1 37,dead,dead,dead,dead,dead,dead,dat 35 (af x0 1),dat 3 (.lit (.int .i64 ((ae (af x0 1)).length:Int))),dat 3 (.lit (.int .i64 v10)),dead,dead,dead,dead,dead,dead,dead,dead,dead,dat 67 ((ae (af x0 1)).getD (v10).toNat .nil),dat 3 (.lit (.int .i64 ((ae ((ae (af x0 1)).getD (v10).toNat .nil)).length:Int))),dat 3 (.lit (.int .i64 v22)),dead,dead,dead,dead,dead,dead,dead,dead],aZ [(1,some ⟨37,x0,0,none⟩)]⟩ (aG 2 (aG 1 (cZ P (ak T8 [] [] []) uX N (sub [1,0,1,0,0,1,1,1] (ag fn)) (Nb (fun s=>aN (preL uX (sub [1,0,1,0,0] (ag fn))) (az P (ak T8 [] [] []) uX N (sub [1,0,1,0,0] (ag fn))) m0 ((preL uX (sub [1,0,1,0,0] (ag fn))) s) (aG 0 (cZ P (ak T8 [] [] []) uX N (sub [1,1] (ag fn)) (dJ P fn)))) (aG 0 (cZ P (ak T8 [] [] []) uX N (sub [1,1] (ag fn)) (dJ P fn)))))))
theorem yO (N n:Nat) (x0:D) (v10:Int) (m0:Nat) (v22:Int):A7 Tryz.prog Tryz.f80 N (n+1) x0 v10 m0 v22=
 bif decide (v22<((ae ((ae (af x0 1)).getD (v10).toNat .nil)).length:Int))then
  bif (decide (0<=v22)&&decide (v22<((ae ((ae (af x0 1)).getD (v10).toNat .nil)).length:Int)))then
   bif (!(iI ((ae ((ae (af x0 1)).getD (v10).toNat .nil)).getD (v22).toNat .nil)))then
    some (dat 4 (.lit (.bool false)))
   else A7 Tryz.prog Tryz.f80 N n x0 v10 m0 (IntKind.wrap .i64 (v22+1))
  else none
 else wQ Tryz.prog Tryz.f80 N m0 x0 (IntKind.wrap .i64 (v10+1)):=by kernel_rfl
theorem AB (N n:Nat) (x0:D) (v10:Int):wQ Tryz.prog Tryz.f80 N (n+1) x0 v10=
 bif decide (v10<((ae (af x0 1)).length:Int))then
  bif (decide (0<=v10)&&decide (v10<((ae (af x0 1)).length:Int)))then
   bif (((ae ((ae (af x0 1)).getD (v10).toNat .nil)).length:Int)!=((ae (af x0 0)).length:Int))then
    some (dat 4 (.lit (.bool false)))
   else A7 Tryz.prog Tryz.f80 N N x0 v10 n 0
  else none
 else some (dat 4 (.lit (.bool true))):=by kernel_rfl
theorem t80 (N:Nat) (x0:D):aU Tryz.prog (ak T8 [] [] []) uX N Tryz.f80 [dat 37 x0]=
 wQ Tryz.prog Tryz.f80 N N x0 0:=by kernel_rfl
/- roadbook/bag.column -/
def Ku:ay:=fun i=>if i=3 then some ([0,2,3,4,6,7,8,9,10,11,12,16,17,18,19,20,21,22,23,24,25,26,27,28],[11],[])else none
def yI (P:Program) (fn:Func) (N n:Nat) (x0:D) (x1:Int) (v15:Int) (b11:List D):Option AV:=aN (preL Ku (sub [1,1,0,1,0,0] (ag fn))) (az P (ak T8 [] [] []) Ku N (sub [1,1,0,1,0,0] (ag fn))) n ⟨[dead,dat 3 (.lit (.int .i64 x1)),dead,dead,dead,bxp 11 67,dead,dead,dead,dead,dead,dead,dead,dat 35 (af x0 1),dat 3 (.lit (.int .i64 ((ae (af x0 1)).length:Int))),dat 3 (.lit (.int .i64 v15)),dead,dead,dead,dead,dead,dead,dead,dead,dead,dead,dead,dead,dead],aZ [(11,some ⟨67,.slice b11 [],2,none⟩)]⟩ (aG 0 (cZ P (ak T8 [] [] []) Ku N (sub [1,1,1] (ag fn)) (dJ P fn)))
theorem Iy (N n:Nat) (x0:D) (x1:Int) (v15:Int) (b11:List D):yI Tryz.prog Tryz.f149 N (n+1) x0 x1 v15 b11=
 bif decide (v15<((ae (af x0 1)).length:Int))then
  bif (decide (0<=v15)&&decide (v15<((ae (af x0 1)).length:Int)))then
   bif (decide (0<=x1)&&decide (x1<((ae ((ae (af x0 1)).getD (v15).toNat .nil)).length:Int)))then
    bif (decide (0<=v15)&&decide (v15<(b11.length:Int)))then
     yI Tryz.prog Tryz.f149 N n x0 x1 (IntKind.wrap .i64 (v15+1)) (b11.set (v15).toNat ((ae ((ae (af x0 1)).getD (v15).toNat .nil)).getD (x1).toNat .nil))
    else none
   else none
  else none
 else some (dat 67 (.slice b11 [])):=by kernel_rfl
theorem af4 (N:Nat) (x0:D) (x1:Int):aU Tryz.prog (ak T8 [] [] []) Ku N Tryz.f149 [dat 37 x0,dat 3 (.lit (.int .i64 x1))]=
 bif (decide (0<=((ae (af x0 1)).length:Int))&&decide (((ae (af x0 1)).length:Int)<=2147483648))then
  yI Tryz.prog Tryz.f149 N N x0 x1 0 (List.replicate (((ae (af x0 1)).length:Int)).toNat (.agg [.lit (.int .i64 0),.lit (.int .i64 0)]:D))
 else none:=by kernel_rfl
/- roadbook/roadbooklaw03.few -/
/- roadbook/bag.groupCols -/
def xM:ay:=fun i=>if i=3 then some ([0,1,2,3,4,6,7,8,9,12,13,14,15,16,17,18,19,20],[18,900000],[])else none
def NQ (P:Program) (fn:Func) (N n:Nat) (x0:Int) (x1:Int) (v5:List D) (v11:Int):Option AV:=aN (preL xM (sub [1,1,0,1,0,0] (ag fn))) (az P (ak T8 [] [] []) xM N (sub [1,1,0,1,0,0] (ag fn))) n ⟨[dead,dead,dead,dead,dead,ful 28 (.slice v5 []),dead,dead,dead,dead,dat 3 (.lit (.int .i64 (IntKind.wrap .i64 (1+x1)))),dat 3 (.lit (.int .i64 v11)),dead,dead,dead,dead,dead,dead,dead,dead,dead],aZ [(18,none),(900000,none)]⟩ (aG 0 (cZ P (ak T8 [] [] []) xM N (sub [1,1,1] (ag fn)) (dJ P fn)))
def wU (P:Program) (fn:Func) (N n:Nat) (x0:Int) (x1:Int) (v11:Int) (b18:List D):Option AV:=aN (preL xM (sub [1,1,0,1,0,0] (ag fn))) (az P (ak T8 [] [] []) xM N (sub [1,1,0,1,0,0] (ag fn))) n ⟨[dead,dead,dead,dead,dead,bxp 18 28,dead,dead,dead,dead,dat 3 (.lit (.int .i64 (IntKind.wrap .i64 (1+x1)))),dat 3 (.lit (.int .i64 v11)),dead,dead,dead,dead,dead,dead,dead,dead,dead],aZ [(18,some ⟨28,.slice b18 [],2,none⟩),(900000,none)]⟩ (aG 0 (cZ P (ak T8 [] [] []) xM N (sub [1,1,1] (ag fn)) (dJ P fn)))
theorem Gl (N n:Nat) (x0:Int) (x1:Int) (v11:Int) (b18:List D):wU Tryz.prog Tryz.f107 N (n+1) x0 x1 v11 b18=
 bif decide (v11<(IntKind.wrap .i64 (1+x1)))then
  bif decide ((b18).length+1<=2147483648)then
   wU Tryz.prog Tryz.f107 N n x0 x1 (IntKind.wrap .i64 (v11+1)) (b18++[.lit (.int .i64 (IntKind.wrap .i64 (16+v11)))])
  else none
 else some (dat 28 (.slice b18 [])):=by kernel_rfl
theorem IQ (N n:Nat) (x0:Int) (x1:Int) (v5:List D) (v11:Int):NQ Tryz.prog Tryz.f107 N (n+1) x0 x1 v5 v11=
 bif decide (v11<(IntKind.wrap .i64 (1+x1)))then
  bif decide ((v5).length+1<=2147483648)then
   wU Tryz.prog Tryz.f107 N n x0 x1 (IntKind.wrap .i64 (v11+1)) (v5++[.lit (.int .i64 (IntKind.wrap .i64 (16+v11)))])
  else none
 else some (dat 28 (.slice v5 [])):=by kernel_rfl
theorem t107 (N:Nat) (x0:Int) (x1:Int):aU Tryz.prog (ak T8 [] [] []) xM N Tryz.f107 [dat 3 (.lit (.int .i64 x0)),dat 3 (.lit (.int .i64 x1))]=
 NQ Tryz.prog Tryz.f107 N N x0 x1 [.lit (.int .i64 x0)] 0:=by kernel_rfl
/- slices.Clone[[]roadbook/api.Val,roadbook/api.Val] -/
def TG:ay:=fun _=>none
theorem aex (N:Nat):su Tryz.prog (ak T8 [] [] []) TG N Tryz.f65 [⟨1,67,.slice [] [],0,2,0,[]⟩]=
 some (dat 67 (.slice [] [])):=by kernel_rfl
def Zt:ay:=fun _=>none
theorem adB (N:Nat) (x0:D):su Tryz.prog (ak T8 [] [] []) Zt N Tryz.f65 [⟨1,67,x0,0,3,0,[]⟩]=
 bif decide (0+(ae x0).length<=2147483648)then
  some (dat 67 (.slice ([]++(ae x0)) []))
 else none:=by kernel_rfl
/- slices.Clone[[]int,int] -/
def Tf:ay:=fun _=>none
theorem afc (N:Nat):su Tryz.prog (ak T8 [] [] []) Tf N Tryz.f66 [⟨1,28,.slice [] [],0,2,0,[]⟩]=
 some (dat 28 (.slice [] [])):=by kernel_rfl
def YJ:ay:=fun _=>none
theorem adA (N:Nat) (x0:D):su Tryz.prog (ak T8 [] [] []) YJ N Tryz.f66 [⟨1,28,x0,0,3,0,[]⟩]=
 bif decide (0+(ae x0).length<=2147483648)then
  some (dat 28 (.slice ([]++(ae x0)) []))
 else none:=by kernel_rfl
section
set_option maxRecDepth 10000
set_option linter.unusedSimpArgs false
theorem nI (x:D):bD Tryz.prog 28 x=x:=by kernel_rfl
theorem nB (x:D):bD Tryz.prog 37 x=x:=by kernel_rfl
theorem nR (x:D):bD Tryz.prog 35 x=x:=by kernel_rfl
theorem nK (x:D):bD Tryz.prog 90 x=x:=by kernel_rfl
theorem nE (x:D):bD Tryz.prog 93 x=x:=by kernel_rfl
theorem mI (x:D):aj Tryz.prog 28 x=dat 28 x:=by kernel_rfl
theorem mB (x:D):aj Tryz.prog 37 x=dat 37 x:=by kernel_rfl
theorem mK (x:D):aj Tryz.prog 90 x=dat 90 x:=by kernel_rfl
theorem Ua (x:D):aj Tryz.prog 43 x=aL [37,4] x:=by kernel_rfl
theorem uI:Tryz.prog.underlying 28=some (.slice 3):=by kernel_rfl
theorem uV:Tryz.prog.underlying 67=some (.slice 59):=by kernel_rfl
theorem uR:Tryz.prog.underlying 35=some (.slice 67):=by kernel_rfl
theorem uB: ∃ f g:Field,Tryz.prog.underlying 37=some (.struct #[f,g])/\f.type=28/\g.type=35:=⟨_,_,Tryz.underlying37,rfl,rfl⟩
def OKr (r:D):Prop:= ∃ vs,r=.slice vs []/\vs.length<=maxLen/\ ∀ v∈vs,∃ k m,v=vv k m/\inR k=true/\inR m=true
theorem tyI {n:Nat} {x:D} (h:Ty Tryz.prog n 28 x): ∃ es,x=.slice es []/\es.length<=maxLen/\ ∀ y∈es,∃ z,y=fO z/\inR z=true:=by
 cases n with
 |zero=>exact h.elim
 |succ n=>
  unfold Ty at h
  rw[uI]at h
  split at h<;>try (exact h.elim)
  all_goals try (simp_all;done)
  rename_i e es sp heq
  cases heq
  obtain⟨rfl,hl,hp⟩:=h
  exact⟨es,rfl,hl,fun y hy=>iC (hp y hy)⟩
theorem tyR {n:Nat} {x:D} (h:Ty Tryz.prog n 35 x): ∃ es,x=.slice es []/\es.length<=maxLen/\ ∀ y∈es,OKr y:=by
 cases n with
 |zero=>exact h.elim
 |succ n=>
  unfold Ty at h
  rw[uR]at h
  split at h<;>try (exact h.elim)
  all_goals try (simp_all;done)
  rename_i e es sp heq
  cases heq
  obtain⟨rfl,hl,hp⟩:=h
  exact⟨es,rfl,hl,fun y hy=>Zg (hp y hy)⟩
structure OKb (x:D) (cs rs:List D):Prop where
 eq:x=aX cs rs
 cl:cs.length<=maxLen
 rl:rs.length<=maxLen
 c: ∀ y∈cs,∃ z,y=fO z/\inR z=true
 r: ∀ y∈rs,OKr y
theorem tyB {n:Nat} {x:D} (h:Ty Tryz.prog n 37 x): ∃ cs rs,OKb x cs rs:=by
 obtain⟨f,g,hu,hf,hg⟩:=uB
 cases n with
 |zero=>exact h.elim
 |succ n=>
  unfold Ty at h
  rw[hu]at h
  split at h<;>try (exact h.elim)
  all_goals try (simp_all;done)
  rename_i fs ps heq
  cases heq
  obtain⟨hl,hp⟩:=h
  have hl:ps.length=2:=hl
  have h0:=hp 0 f (by rfl)
  have h1:=hp 1 g (by rfl)
  rw[hf]at h0
  rw[hg]at h1
  match ps,hl,h0,h1 with
  | [a,b],_,h0,h1=>
   obtain⟨cs,rfl,h2,h3⟩:=tyI (show Ty Tryz.prog n 28 a from h0)
   obtain⟨rs,rfl,h4,h5⟩:=tyR (show Ty Tryz.prog n 35 b from h1)
   exact⟨cs,rs,rfl,h2,h4,h3,h5⟩
theorem UZ {n:Nat} {x:D} (hx:Ty Tryz.prog n 28 x):(ae x).length<=maxLen:=by
 obtain⟨es,rfl,hl,_⟩:=tyI hx
 exact hl
theorem aev {n:Nat} {x:D} (hx:Ty Tryz.prog n 35 x):(ae x).length<=maxLen:=by
 obtain⟨es,rfl,hl,_⟩:=tyR hx
 exact hl
theorem uC (cs rs:List D):ae (af (aX cs rs) 1)=rs:=rfl
theorem QR (cs rs:List D):ae (af (aX cs rs) 0)=cs:=rfl
def Hq (rs:List D):Nat:=rs.length+(rs.map fun r=>(ae r).length).sum+1
theorem Wv {rs:List D} {r:D} (h:r∈rs):(ae r).length<Hq rs:=by
 have:(ae r).length<=(rs.map fun r=>(ae r).length).sum:=aaD _ _ (List.mem_map.2 ⟨r,h,rfl⟩)
 unfold Hq;omega
theorem vY {N:Nat} {x0:D} {x1:Int} (hl:(ae x0).length<=maxLen): ∀ (n i:Nat),i<=(ae x0).length->(ae x0).length - i<n->
  oJ Tryz.prog Tryz.f60 N n x0 x1 (i:Int)=some (dat 3 (.lit (.int .i64 (Lib.idxFrom (((ae x0).drop i).map intD) x1 i))))
 |0,i,_,h=>by omega
 |n+1,i,hi,h=>by
  rw[ug]
  by_cases hlt:i<(ae x0).length
  ·rw[bG hlt,eY hlt,cond_true,cond_true,List.drop_eq_getElem_cons hlt,List.map_cons,Int.toNat_natCast,dA hlt,Lib.idxFrom]
   rw[fE hl hlt,vY hl n (i+1) (by omega) (by omega)]
   by_cases he:intD (ae x0)[i]=x1
   ·have:(x1==intD (ae x0)[i])=true:=by simp[he]
    rw[this,cond_true,if_pos he]
   ·have:(x1==intD (ae x0)[i])=false:=by
     rw[beq_eq_false_iff_ne];exact fun hh=>he hh.symm
    rw[this,cond_false,if_neg he]
  ·have h2:(ae x0).drop i=[]:=List.drop_of_length_le (by omega)
   rw[fB hlt,h2,cond_false]
   rfl
def e60:FuncId×TypeId×(List AV->Bool)×(List AV->Option D):=(60,3,yes,ent [28,3] (f2 fun x y=>some (.lit (.int .i64 (Lib.idxOf ((ae x).map intD) (intD y))))))
theorem k60:FnOK Tryz.prog 60 Tryz.f60:=⟨Tryz.func60,rfl,by kernel_rfl⟩
theorem c60: ∀ args d,e60.2.2.2 args=some d->CallOK Tryz.prog 60 args (aj Tryz.prog 3 d):=
 gD k60 fun x y d h ⟨_,hx⟩ _=>by
  cases h
  rw[nI,n3]
  refine aI hm BL k60 ((t60 ((ae x).length+1) x (intD y)).trans ?_)
  rw[m3]
  have:=vY (N:=(ae x).length+1) (x1:=intD y) (UZ hx) ((ae x).length+1) 0 (Nat.zero_le _) (by omega)
  simpa [Lib.idxOf,intD]using this
def e61:FuncId×TypeId×(List AV->Bool)×(List AV->Option D):=(61,90,yes,ent [67,3] (f2 fun x y=>some (fC (ae x) (intD y))))
theorem k61:FnOK Tryz.prog 61 Tryz.f61:=⟨Tryz.func61,rfl,by kernel_rfl⟩
theorem c61: ∀ args d,e61.2.2.2 args=some d->CallOK Tryz.prog 61 args (aj Tryz.prog 90 d):=
 gD k61 fun x y d h ⟨_,hx⟩ _=>by
  cases h
  rw[n28,n3]
  refine aI hm BL k61 ((t61 1 x (intD y)).trans ?_)
  rw[mK]
  unfold fC
  by_cases h1:intD y<0
  ·have:decide (intD y<0)=true:=by simpa using h1
   rw[this];rfl
  ·have e1:decide (intD y<0)=false:=by simpa using h1
   rw[e1]
   by_cases h2:intD y>=((ae x).length:Int)
   ·have:decide (intD y>=((ae x).length:Int))=true:=by simpa using h2
    rw[this];rfl
   ·have e2:decide (intD y>=((ae x).length:Int))=false:=by simpa using h2
    have e3:(decide (0<=intD y)&&decide (intD y<((ae x).length:Int)))=true:=by
     simp only[Bool.and_eq_true,decide_eq_true_eq];omega
    rw[e2,e3]
    cases iI ((ae x).getD (intD y).toNat .nil)<;>rfl
def e120:FuncId×TypeId×(List AV->Bool)×(List AV->Option D):=(120,59,yes,ent [90] (f1 fun x=>some (lI x)))
theorem aen:FnOK Tryz.prog 120 Tryz.f120:=⟨Tryz.func120,rfl,by kernel_rfl⟩
theorem agG: ∀ args d,e120.2.2.2 args=some d->CallOK Tryz.prog 120 args (aj Tryz.prog 59 d):=
 mY aen fun x d h _=>by
  cases h
  rw[nK]
  refine aI hm BL aen ((afC 1 x).trans ?_)
  rw[m23]
  rfl
def e55:FuncId×TypeId×(List AV->Bool)×(List AV->Option D):=(55,4,yes,ent [28,28] (f2 fun x y=>some (.lit (.bool (ik (ae x) (ae y))))))
theorem k55:FnOK Tryz.prog 55 Tryz.f55:=⟨Tryz.func55,rfl,by kernel_rfl⟩
theorem c55: ∀ args d,e55.2.2.2 args=some d->CallOK Tryz.prog 55 args (aj Tryz.prog 4 d):=
 gD k55 fun x y d h ⟨_,hx⟩ ⟨_,hy⟩=>by
  cases h
  rw[nI,nI]
  refine aI hm BL k55 ((t55 ((ae x).length+1) x y).trans ?_)
  rw[m4]
  by_cases hl:(ae x).length=(ae y).length
  ·have e1:(((ae x).length:Int)!=((ae y).length:Int))=false:=by simp[hl]
   rw[e1,cond_false]
   have:=jl (fun n v=>oZ Tryz.prog Tryz.f55 ((ae x).length+1) n x y v) (ae x).length (fun i=>!(intD ((ae x).getD i .nil)==intD ((ae y).getD i .nil))) (some (dat 4 (.lit (.bool false)))) (some (dat 4 (.lit (.bool true))))
    (fun n i hi=>by
     rw[oW,bG hi,eY hi,bG (by omega:i<(ae y).length),cond_true,cond_true,cond_true,fE (UZ hx) hi,Int.toNat_natCast]
     rfl)
    (fun n=>by rw[oW,fB (by omega),cond_false]) ((ae x).length+1) 0 (Nat.zero_le _) (by omega)
   refine this.trans ?_
   have h2:=MF intD (ae x) (ae y) hl
   show _=some (dat 4 (.lit (.bool (ik (ae x) (ae y)))))
   unfold ik
   rw[<-h2,Nat.sub_zero]
   cases (List.range' 0 (ae x).length).any _<;>rfl
  ·have e1:(((ae x).length:Int)!=((ae y).length:Int))=true:=by simp;omega
   rw[e1,cond_true]
   have:ik (ae x) (ae y)=false:=by
    unfold ik
    rw[beq_eq_false_iff_ne]
    intro hh
    exact hl (by simpa using congrArg List.length hh)
   show _=some (dat 4 (.lit (.bool (ik (ae x) (ae y)))))
   rw[this]
def e33:FuncId×TypeId×(List AV->Bool)×(List AV->Option D):=(33,4,yes,ent [67,67] (f2 fun x y=>some (.lit (.bool (wC (ae x) (ae y))))))
theorem k33:FnOK Tryz.prog 33 Tryz.f33:=⟨Tryz.func33,rfl,by kernel_rfl⟩
theorem Xi (a b:D):((intD (af a 0)==intD (af b 0))&&((intD (af a 1)==intD (af b 1))&&true))=(sH a==sH b):=by
 unfold sH kk nn
 rw[Bool.and_true]
 rfl
theorem c33: ∀ args d,e33.2.2.2 args=some d->CallOK Tryz.prog 33 args (aj Tryz.prog 4 d):=
 gD k33 fun x y d h ⟨_,hx⟩ ⟨_,hy⟩=>by
  cases h
  rw[n28,n28]
  refine aI hm BL k33 ((t33 ((ae x).length+1) x y).trans ?_)
  rw[m4]
  by_cases hl:(ae x).length=(ae y).length
  ·have e1:(((ae x).length:Int)!=((ae y).length:Int))=false:=by simp[hl]
   rw[e1,cond_false]
   have:=jl (fun n v=>EW Tryz.prog Tryz.f33 ((ae x).length+1) n x y v) (ae x).length (fun i=>!(sH ((ae x).getD i .nil)==sH ((ae y).getD i .nil))) (some (dat 4 (.lit (.bool false)))) (some (dat 4 (.lit (.bool true))))
    (fun n i hi=>by
     rw[y9,bG hi,eY hi,bG (by omega:i<(ae y).length),cond_true,cond_true,cond_true,fE (mQ hx) hi,Int.toNat_natCast,Xi])
    (fun n=>by rw[y9,fB (by omega),cond_false]) ((ae x).length+1) 0 (Nat.zero_le _) (by omega)
   refine this.trans ?_
   have h2:=MF sH (ae x) (ae y) hl
   show _=some (dat 4 (.lit (.bool (wC (ae x) (ae y)))))
   unfold wC
   rw[<-h2,Nat.sub_zero]
   cases (List.range' 0 (ae x).length).any _<;>rfl
  ·have e1:(((ae x).length:Int)!=((ae y).length:Int))=true:=by simp;omega
   rw[e1,cond_true]
   have:wC (ae x) (ae y)=false:=by
    unfold wC
    rw[beq_eq_false_iff_ne]
    intro hh
    exact hl (by simpa using congrArg List.length hh)
   show _=some (dat 4 (.lit (.bool (wC (ae x) (ae y)))))
   rw[this]
theorem rP {N:Nat} {x0:D} (hl:(ae x0).length<=maxLen): ∀ (n i:Nat) (s:List Int),i<=(ae x0).length->(ae x0).length - i<n->
  ES Tryz.prog Tryz.f73 N n x0 (i:Int) (seenD s)=some (dat 4 (.lit (.bool (rX s (((ae x0).drop i).map intD)))))
 |0,i,s,_,h=>by omega
 |n+1,i,s,hi,h=>by
  rw[ML]
  by_cases hlt:i<(ae x0).length
  ·rw[bG hlt,eY hlt,cond_true,cond_true,List.drop_eq_getElem_cons hlt,List.map_cons,Int.toNat_natCast,dA hlt,rX,fE hl hlt]
   by_cases h0:intD (ae x0)[i]<0
   ·have a1:decide (intD (ae x0)[i]<0)=true:=by simpa using h0
    have a2:decide (0<=intD (ae x0)[i])=false:=by simpa using h0
    rw[a1,a2];rfl
   ·have a1:decide (intD (ae x0)[i]<0)=false:=by simpa using h0
    have a2:decide (0<=intD (ae x0)[i])=true:=by simp;omega
    by_cases h15:intD (ae x0)[i]>15
    ·have b1:decide (intD (ae x0)[i]>15)=true:=by simpa using h15
     have b2:decide (intD (ae x0)[i]<=15)=false:=by simp;omega
     rw[a1,a2,b1,b2];rfl
    ·have b1:decide (intD (ae x0)[i]>15)=false:=by simpa using h15
     have b2:decide (intD (ae x0)[i]<=15)=true:=by simp;omega
     have b3:decide (intD (ae x0)[i]<(16:Int))=true:=by simp;omega
     rw[a1,a2,b1,b2,b3,WG (by omega) (by omega),XU (by omega) (by omega),rP hl n (i+1) _ (by omega) (by omega)]
     cases s.contains (intD (ae x0)[i])<;>rfl
  ·have h2:(ae x0).drop i=[]:=List.drop_of_length_le (by omega)
   rw[fB hlt,h2,cond_false]
   rfl
def e73:FuncId×TypeId×(List AV->Bool)×(List AV->Option D):=(73,4,yes,ent [28] (f1 fun x=>some (.lit (.bool (dm (ae x))))))
theorem k73:FnOK Tryz.prog 73 Tryz.f73:=⟨Tryz.func73,rfl,by kernel_rfl⟩
theorem c73: ∀ args d,e73.2.2.2 args=some d->CallOK Tryz.prog 73 args (aj Tryz.prog 4 d):=
 mY k73 fun x d h ⟨_,hx⟩=>by
  cases h
  rw[nI]
  refine aI hm BL k73 ((t73 ((ae x).length+1) x).trans ?_)
  rw[m4,<-VO]
  have:=rP (N:=(ae x).length+1) (UZ hx) ((ae x).length+1) 0 [] (Nat.zero_le _) (by omega)
  refine this.trans ?_
  rw[List.drop_zero,XN]
  rfl
theorem YR {N:Nat} {x0:D} {v10:Int} {m0:Nat} (r:D) (hr:(ae (af x0 1)).getD v10.toNat .nil=r) (hl:(ae r).length<=maxLen) (hN:(ae r).length<N):
  A7 Tryz.prog Tryz.f80 N N x0 v10 m0 0=bif (ae r).all iI then wQ Tryz.prog Tryz.f80 N m0 x0 (IntKind.wrap .i64 (v10+1))else some (dat 4 (.lit (.bool false))):=by
 have:=jl (fun n v=>A7 Tryz.prog Tryz.f80 N n x0 v10 m0 v) (ae r).length (fun i=>!iI ((ae r).getD i .nil)) (some (dat 4 (.lit (.bool false)))) (wQ Tryz.prog Tryz.f80 N m0 x0 (IntKind.wrap .i64 (v10+1)))
  (fun n i hi=>by
   rw[yO,hr,bG hi,eY hi,cond_true,cond_true,fE hl hi,Int.toNat_natCast])
  (fun n=>by rw[yO,hr,fB (by omega),cond_false]) N 0 (Nat.zero_le _) (by omega)
 refine this.trans ?_
 rw[Nat.sub_zero,rO (ae r) (fun v=>!iI v)]
 have:(ae r).any (fun v=>!iI v)=!(ae r).all iI:=by
  rw[List.all_eq_not_any_not,Bool.not_not]
 rw[this]
 cases (ae r).all iI<;>rfl
def e80:FuncId×TypeId×(List AV->Bool)×(List AV->Option D):=(80,4,yes,ent [37] (f1 fun x=>some (.lit (.bool (iQ x)))))
theorem k80:FnOK Tryz.prog 80 Tryz.f80:=⟨Tryz.func80,rfl,by kernel_rfl⟩
theorem c80: ∀ args d,e80.2.2.2 args=some d->CallOK Tryz.prog 80 args (aj Tryz.prog 4 d):=
 mY k80 fun x d h ⟨_,hx⟩=>by
  cases h
  rw[nB]
  obtain⟨cs,rs,rfl,h1,h2,h3,h4⟩:=tyB hx
  refine aI hm BL k80 ((t80 (Hq rs) (aX cs rs)).trans ?_)
  rw[m4]
  have:=jl (fun n v=>wQ Tryz.prog Tryz.f80 (Hq rs) n (aX cs rs) v) rs.length (fun i=>!(((ae (rs.getD i .nil)).length==cs.length)&&(ae (rs.getD i .nil)).all iI)) (some (dat 4 (.lit (.bool false)))) (some (dat 4 (.lit (.bool true))))
   (fun n i hi=>by
    have hmem:rs.getD i .nil∈rs:=by rw[dA hi];exact List.getElem_mem hi
    obtain⟨vs,hvs,hvl,_⟩:=h4 _ hmem
    have hvl':(ae (rs.getD i .nil)).length<=maxLen:=by rw[hvs];exact hvl
    rw[AB,uC,QR,bG hi,eY hi,cond_true,cond_true,Int.toNat_natCast,YR (rs.getD i .nil) (by rw[uC,Int.toNat_natCast]) hvl' (Wv hmem),fE h2 hi]
    by_cases he:(ae (rs.getD i .nil)).length=cs.length
    ·have q1:(((ae (rs.getD i .nil)).length:Int)!=(cs.length:Int))=false:=Sj he
     have q2:((ae (rs.getD i .nil)).length==cs.length)=true:=ZQ he
     rw[q1,q2]
     cases (ae (rs.getD i .nil)).all iI<;>rfl
    ·have q1:(((ae (rs.getD i .nil)).length:Int)!=(cs.length:Int))=true:=Tq he
     have q2:((ae (rs.getD i .nil)).length==cs.length)=false:=aac he
     rw[q1,q2];rfl)
   (fun n=>by rw[AB,uC,fB (by omega),cond_false]) (Hq rs) 0 (Nat.zero_le _) (by unfold Hq;omega)
  refine this.trans ?_
  rw[Nat.sub_zero,rO rs (fun r=>!(((ae r).length==cs.length)&&(ae r).all iI))]
  have e:iQ (aX cs rs)=!(rs.any fun r=>!(((ae r).length==cs.length)&&(ae r).all iI)):=by
   unfold iQ
   rw[List.all_eq_not_any_not]
   rfl
  show _=some (dat 4 (.lit (.bool (iQ (aX cs rs)))))
  rw[e]
  cases rs.any _<;>rfl
theorem D9 {N:Nat} {cs rs:List D} {x1:Int} (hl:rs.length<=maxLen) (h0:0<=x1) (hin: ∀ r∈rs,x1<((ae r).length:Int)): ∀ (n i:Nat) (tl:List D),i<=rs.length->rs.length - i<n->tl.length=rs.length - i->
  yI Tryz.prog Tryz.f149 N n (aX cs rs) x1 (i:Int) ((rs.take i).map (fun r=>(ae r).getD x1.toNat .nil)++tl)=some (dat 67 (.slice (kC rs x1) []))
 |0,i,tl,_,h,_=>by omega
 |n+1,i,tl,hi,h,htl=>by
  rw[Iy,uC]
  by_cases hlt:i<rs.length
  ·have hlen:((rs.take i).map (fun r=>(ae r).getD x1.toNat .nil)++tl).length=rs.length:=by simp;omega
   have hc:(decide (0<=x1)&&decide (x1<((ae rs[i]).length:Int)))=true:=by
    simp only[Bool.and_eq_true,decide_eq_true_eq];exact⟨h0,hin _ (List.getElem_mem hlt)⟩
   rw[hlen,bG hlt,eY hlt,cond_true,cond_true,Int.toNat_natCast,dA hlt,hc,cond_true,cond_true,fE hl hlt,Gw (fun r=>(ae r).getD x1.toNat .nil) hlt htl]
   exact D9 hl h0 hin n (i+1) (tl.drop 1) (by omega) (by omega) (by simp;omega)
  ·have hi2:i=rs.length:=by omega
   have htl0:tl=[]:=List.length_eq_zero_iff.1 (by omega)
   subst htl0 hi2
   rw[fB (by omega),cond_false,List.take_length,List.append_nil]
   rfl
def abH:FuncId×TypeId×(List AV->Bool)×(List AV->Option D):=(149,67,jU (q2 fun x y=>uS (aK x) (intD y)),ent [37,3] (f2 fun x y=>some (.slice (kC (aK x) (intD y)) [])))
theorem afg:FnOK Tryz.prog 149 Tryz.f149:=⟨Tryz.func149,rfl,by kernel_rfl⟩
theorem afw: ∀ args d,abH.2.2.1 args=true->abH.2.2.2 args=some d->CallOK Tryz.prog 149 args (aj Tryz.prog 67 d):=
 qG afg fun x y d hq h ⟨_,hx⟩ _=>by
  cases h
  rw[nB,n3]
  obtain⟨cs,rs,rfl,h1,h2,h3,h4⟩:=tyB hx
  simp only[uS,Bool.and_eq_true,decide_eq_true_eq,List.all_eq_true]at hq
  obtain⟨⟨g1,g2⟩,g3⟩:=hq
  have g2:rs.length<=2147483648:=g2
  refine aI hm BL afg ((af4 (rs.length+1) (aX cs rs) (intD y)).trans ?_)
  rw[m28,uC]
  have c1:(decide (0<=(rs.length:Int))&&decide ((rs.length:Int)<=2147483648))=true:=by
   simp only[Bool.and_eq_true,decide_eq_true_eq];omega
  rw[c1,cond_true,Int.toNat_natCast]
  exact D9 (N:=rs.length+1) (cs:=cs) h2 g1 g3 (rs.length+1) 0 _ (Nat.zero_le _) (by omega) (by simp)
theorem FW {N:Nat} {x0:Int} {m:Nat} (hm1:m<=1000): ∀ (n i:Nat) (l:List D),1<=i->i<=m+1->m+1 - i<n->l=dE x0 ((i - 1:Nat):Int)->
  wU Tryz.prog Tryz.f107 N n x0 (m:Int) (i:Int) l=some (dat 28 (.slice (dE x0 (m:Int)) []))
 |0,i,l,_,_,h,_=>by omega
 |n+1,i,l,h1,hi,h,hl=>by
  have hw:IntKind.wrap .i64 (1+(m:Int))=((m+1:Nat):Int):=by rw[aH (l_in (by omega) (by omega))];omega
  rw[Gl,hw]
  by_cases hlt:i<m+1
  ·have hlen:l.length=i+1:=by rw[hl];simp[dE];omega
   have c1:decide (l.length+1<=2147483648)=true:=by simp;omega
   have w1:IntKind.wrap .i64 ((i:Int)+1)=((i+1:Nat):Int):=by rw[aH (l_in (by omega) (by omega))];omega
   have w2:IntKind.wrap .i64 (16+(i:Int))=16+(i:Int):=aH (l_in (by omega) (by omega))
   rw[eY hlt,cond_true,c1,cond_true,w1,w2]
   refine FW hm1 n (i+1) _ (by omega) (by omega) (by omega) ?_
   rw[hl]
   unfold dE
   have e1:(((i - 1:Nat):Int)).toNat+1=i:=by omega
   have e2:(((i+1 - 1:Nat):Int)).toNat+1=i+1:=by omega
   rw[e1,e2,List.range_succ,List.map_append]
   rfl
  ·have:i=m+1:=by omega
   subst this
   rw[fB (by omega),cond_false,hl]
   rfl
def acB:FuncId×TypeId×(List AV->Bool)×(List AV->Option D):=(107,28,jU (q2 fun _ y=>decide (0<=intD y)&&decide (intD y<=1000)),ent [3,3] (f2 fun x y=>some (.slice (dE (intD x) (intD y)) [])))
theorem ad8:FnOK Tryz.prog 107 Tryz.f107:=⟨Tryz.func107,rfl,by kernel_rfl⟩
theorem c107: ∀ args d,acB.2.2.1 args=true->acB.2.2.2 args=some d->CallOK Tryz.prog 107 args (aj Tryz.prog 28 d):=
 qG ad8 fun x y d hq h _ _=>by
  cases h
  rw[n3,n3]
  simp only[Bool.and_eq_true,decide_eq_true_eq]at hq
  obtain⟨m,hmy⟩: ∃ m:Nat,intD y=(m:Int):=⟨(intD y).toNat,by omega⟩
  refine aI hm BL ad8 ((t107 (m+3) (intD x) (intD y)).trans ?_)
  rw[mI,hmy,IQ]
  have hw:IntKind.wrap .i64 (1+(m:Int))=((m+1:Nat):Int):=by rw[aH (l_in (by omega) (by omega))];omega
  have c0:decide ((0:Int)<((m+1:Nat):Int))=true:=by rw[decide_eq_true_eq];omega
  rw[hw,c0,cond_true]
  have:=FW (N:=m+3) (x0:=intD x) (m:=m) (by omega) (m+2) 1 (dE (intD x) 0) (by omega) (by omega) (by omega) rfl
  exact this
theorem agf {n:Nat} {x:D} (hx:Ty Tryz.prog n 28 x) (hl:(ae x).length<=2147483648):CallOK Tryz.prog 66 [dat 28 x] (dat 28 x):=by
 obtain⟨es,rfl,_,_⟩:=tyI hx
 refine DZ hm BL uI (fn:=Tryz.f66) Tryz.func66 (by kernel_rfl) (.inl rfl) (hh:=Tf) (fuel:=1) (fun he=>?_) ?_
 ·rw[he];exact afc 1
 ·have h:=adA 1 (.slice es [])
  have c1:decide ((0:Nat)+(ae (.slice es []:D)).length<=2147483648)=true:=by simpa using hl
  exact(show su _ _ _ _ _ _=su _ _ _ _ _ _ from rfl).trans (h.trans (by first|(rw[c1];rfl)|(simp only[c1];rfl)))
theorem agj {n:Nat} {x:D} (hx:Ty Tryz.prog n 67 x) (hl:(ae x).length<=2147483648):CallOK Tryz.prog 65 [dat 67 x] (dat 67 x):=by
 obtain⟨es,rfl,_,_⟩:=Zg hx
 refine DZ hm BL uV (fn:=Tryz.f65) Tryz.func65 (by kernel_rfl) (.inl rfl) (hh:=TG) (fuel:=1) (fun he=>?_) ?_
 ·rw[he];exact aex 1
 ·have h:=adB 1 (.slice es [])
  have c1:decide ((0:Nat)+(ae (.slice es []:D)).length<=2147483648)=true:=by simpa using hl
  exact(show su _ _ _ _ _ _=su _ _ _ _ _ _ from rfl).trans (h.trans (by first|(rw[c1];rfl)|(simp only[c1];rfl)))
def e66:FuncId×TypeId×(List AV->Bool)×(List AV->Option D):=(66,28,jU (q1 fun x=>decide ((ae x).length<=2147483648)),ent [28] (f1 fun x=>some x))
theorem k66:FnOK Tryz.prog 66 Tryz.f66:=⟨Tryz.func66,rfl,by kernel_rfl⟩
theorem c66: ∀ args d,e66.2.2.1 args=true->e66.2.2.2 args=some d->CallOK Tryz.prog 66 args (aj Tryz.prog 28 d):=
 Oa k66 fun x d hq h ⟨_,hx⟩=>by
  cases h
  rw[nI,mI]
  exact agf hx (by simpa using hq)
def e65:FuncId×TypeId×(List AV->Bool)×(List AV->Option D):=(65,67,jU (q1 fun x=>decide ((ae x).length<=2147483648)),ent [67] (f1 fun x=>some x))
theorem k65:FnOK Tryz.prog 65 Tryz.f65:=⟨Tryz.func65,rfl,by kernel_rfl⟩
theorem c65: ∀ args d,e65.2.2.1 args=true->e65.2.2.2 args=some d->CallOK Tryz.prog 65 args (aj Tryz.prog 67 d):=
 Oa k65 fun x d hq h ⟨_,hx⟩=>by
  cases h
  rw[n28,m28]
  exact agj hx (by simpa using hq)
def B1:Tab:=e60::e61::e120::e55::e33::e73::e80::abH::acB::e66::e65::T8
theorem vk:EnvOK Tryz.prog (bT B1 []):=ah (ah (ah (ah (ah (ah (ah (aO (aO (aO (aO BL c65) c66) c107) afw) c80) c73) c33) c55) agG) c61) c60
end
/- roadbook/bag.against -/
def aer:ay:=fun _=>none
theorem t64 (N:Nat) (x0:D) (x1:D):aU Tryz.prog (ak B1 [] [] []) aer N Tryz.f64 [dat 90 x0,dat 90 x1]=
 bif (((intD (af x0 0))==(intD (af x1 0)))&&(((intD (af x0 1))==(intD (af x1 1)))&&true))then
  some (dat 3 (.lit (.int .i64 0)))
 else bif GG (lI x0) (lI x1)then
   some (dat 3 (.lit (.int .i64 (-1))))
  else some (dat 3 (.lit (.int .i64 1))):=by kernel_rfl
/- slices.Contains[[]int,int] -/
def QF:ay:=fun _=>none
theorem acv (N:Nat) (x0:D) (x1:Int):aU Tryz.prog (ak B1 [] [] []) QF N Tryz.f104 [dat 28 x0,dat 3 (.lit (.int .i64 x1))]=
 some (dat 4 (.lit (.bool (decide ((Lib.idxOf ((ae x0).map intD) x1)>=0))))):=by kernel_rfl
/- roadbook/roadbookref03.Like -/
def Ti:ay:=fun i=>if i=5 then some ([0,1,4,5,7,8,9,10,11,12,13,14,15,16,17,18,19,20,21,22,23,24,25,26,27,28,29,30,31,32,33,34,35,36,37,38,39,40,41,42,43],[2,3],[])else none
def zt (P:Program) (fn:Func) (N n:Nat) (x0:D) (x1:D) (v6:Int):Option AV:=aN (preL Ti (sub [1,1,1,0,1,0,0] (ag fn))) (az P (ak B1 [] [] []) Ti N (sub [1,1,1,0,1,0,0] (ag fn))) n ⟨[dead,dead,bxp 2 37,bxp 3 37,dead,dead,dat 3 (.lit (.int .i64 v6)),dead,dead,dead,dead,dead,dead,dead,dead,dead,dead,dead,dead,dead,dead,dead,dead,dead,dead,dead,dead,dead,dead,dead,dead,dead,dead,dead,dead,dead,dead,dead,dead,dead,dead,dead,dead,dead],aZ [(2,some ⟨37,x0,0,none⟩),(3,some ⟨37,x1,0,none⟩)]⟩ (aG 0 (cZ P (ak B1 [] [] []) Ti N (sub [1,1,1,1] (ag fn)) (dJ P fn)))
theorem zn (N n:Nat) (x0:D) (x1:D) (v6:Int):zt Tryz.prog Tryz.f20 N (n+1) x0 x1 v6=
 bif decide (v6<((ae (af x0 1)).length:Int))then
  bif (decide (0<=v6)&&decide (v6<((ae (af x0 1)).length:Int)))then
   bif (decide (0<=v6)&&decide (v6<((ae (af x1 1)).length:Int)))then
    bif (!(wC (ae ((ae (af x0 1)).getD (v6).toNat .nil)) (ae ((ae (af x1 1)).getD (v6).toNat .nil))))then
     some (dat 4 (.lit (.bool false)))
    else zt Tryz.prog Tryz.f20 N n x0 x1 (IntKind.wrap .i64 (v6+1))
   else none
  else none
 else some (dat 4 (.lit (.bool true))):=by kernel_rfl
theorem t20 (N:Nat) (x0:D) (x1:D):aU Tryz.prog (ak B1 [] [] []) Ti N Tryz.f20 [dat 37 x0,dat 37 x1]=
 bif ((!(ik (ae (af x0 0)) (ae (af x1 0))))==false)then
  bif (((ae (af x0 1)).length:Int)!=((ae (af x1 1)).length:Int))then
   some (dat 4 (.lit (.bool false)))
  else zt Tryz.prog Tryz.f20 N N x0 x1 0
 else some (dat 4 (.lit (.bool false))):=by kernel_rfl
/- roadbook/bag.May -/
def adV:ay:=fun _=>none
theorem t30 (N:Nat) (x0:D):aU Tryz.prog (ak B1 [] [] []) adV N Tryz.f30 [dat 37 x0]=
 bif ((dm (ae (af x0 0)))==true)then
  bif ((decide (((ae (af x0 1)).length:Int)<=5000))==true)then
   some (dat 4 (.lit (.bool (iQ x0))))
  else some (dat 4 (.lit (.bool false)))
 else some (dat 4 (.lit (.bool false))):=by kernel_rfl
/- roadbook/bag.alike -/
def LJ:ay:=fun i=>if i=2 then some ([2,3,4,7,8,9,10,11,12,13,14,15,16,17,18,19,20,21,22,23,24,25,26,27,28],[6],[])else none
def AC (P:Program) (fn:Func) (N n:Nat) (x0:D) (x1:Int) (v5:Int):Option AV:=aN (preL LJ (sub [1,1,0,0,0] (ag fn))) (az P (ak B1 [] [] []) LJ N (sub [1,1,0,0,0] (ag fn))) n ⟨[dat 35 x0,dat 3 (.lit (.int .i64 x1)),dead,dead,dead,dat 3 (.lit (.int .i64 v5)),bxp 6 90,dead,dead,dead,dead,dead,dead,dead,dead,dead,dead,dead,dead,dead,dead,dead,dead,dead,dead,dead,dead,dead,dead],aZ [(6,some ⟨90,fC (ae ((ae x0).getD 0 .nil)) x1,0,none⟩)]⟩ (aG 0 (cZ P (ak B1 [] [] []) LJ N (sub [1,1,1] (ag fn)) (dJ P fn)))
theorem Ie (N n:Nat) (x0:D) (x1:Int) (v5:Int):AC Tryz.prog Tryz.f105 N (n+1) x0 x1 v5=
 bif ((decide (v5<((ae x0).length:Int)))==true)then
  bif (decide (0<=v5)&&decide (v5<((ae x0).length:Int)))then
   bif (((intD (af (fC (ae ((ae x0).getD (v5).toNat .nil)) x1) 0))==(intD (af (fC (ae ((ae x0).getD 0 .nil)) x1) 0)))&&(((intD (af (fC (ae ((ae x0).getD (v5).toNat .nil)) x1) 1))==(intD (af (fC (ae ((ae x0).getD 0 .nil)) x1) 1)))&&true))then
    AC Tryz.prog Tryz.f105 N n x0 x1 (IntKind.wrap .i64 (v5+1))
   else some (dat 3 (.lit (.int .i64 v5)))
  else none
 else some (dat 3 (.lit (.int .i64 v5))):=by kernel_rfl
theorem t105 (N:Nat) (x0:D) (x1:Int):aU Tryz.prog (ak B1 [] [] []) LJ N Tryz.f105 [dat 35 x0,dat 3 (.lit (.int .i64 x1))]=
 bif (decide (0<=(0:Int))&&decide ((0:Int)<((ae x0).length:Int)))then
  AC Tryz.prog Tryz.f105 N N x0 x1 1
 else none:=by kernel_rfl
/- roadbook/bag.summedUp -/
def yx:ay:=fun i=>if i=3 then some ([0,1,2,4,5,6,8,9,10,11,12,13,14,15,16,17,18,19,20,21,25,26,27,28,29,30,31,32,33,34,35,36,37,38,39],[3,37,900000],[])else none
def Ph (P:Program) (fn:Func) (N n:Nat) (x0:D) (x1:Int) (x2:D) (v7:List D) (v24:Int):Option AV:=aN (preL yx (sub [1,1,0,1,0,0] (ag fn))) (az P (ak B1 [] [] []) yx N (sub [1,1,0,1,0,0] (ag fn))) n ⟨[dead,dead,dead,bxp 3 37,dead,dead,dead,ful 67 (.slice v7 []),dead,dead,dead,dead,dead,dead,dead,dead,dead,dead,dead,dead,dead,dead,dat 28 x2,dat 3 (.lit (.int .i64 ((ae x2).length:Int))),dat 3 (.lit (.int .i64 v24)),dead,dead,dead,dead,dead,dead,dead,dead,dead,dead,dead,dead,dead,dead,dead],aZ [(3,some ⟨37,x0,0,none⟩),(37,none),(900000,none)]⟩ (aG 0 (cZ P (ak B1 [] [] []) yx N (sub [1,1,1] (ag fn)) (dJ P fn)))
def xe (P:Program) (fn:Func) (N n:Nat) (x0:D) (x1:Int) (x2:D) (v24:Int) (b37:List D):Option AV:=aN (preL yx (sub [1,1,0,1,0,0] (ag fn))) (az P (ak B1 [] [] []) yx N (sub [1,1,0,1,0,0] (ag fn))) n ⟨[dead,dead,dead,bxp 3 37,dead,dead,dead,bxp 37 67,dead,dead,dead,dead,dead,dead,dead,dead,dead,dead,dead,dead,dead,dead,dat 28 x2,dat 3 (.lit (.int .i64 ((ae x2).length:Int))),dat 3 (.lit (.int .i64 v24)),dead,dead,dead,dead,dead,dead,dead,dead,dead,dead,dead,dead,dead,dead,dead],aZ [(3,some ⟨37,x0,0,none⟩),(37,some ⟨67,.slice b37 [],2,none⟩),(900000,none)]⟩ (aG 0 (cZ P (ak B1 [] [] []) yx N (sub [1,1,1] (ag fn)) (dJ P fn)))
theorem Hf (N n:Nat) (x0:D) (x1:Int) (x2:D) (v24:Int) (b37:List D):xe Tryz.prog Tryz.f106 N (n+1) x0 x1 x2 v24 b37=
 bif decide (v24<((ae x2).length:Int))then
  bif (decide (0<=v24)&&decide (v24<((ae x2).length:Int)))then
   bif uS (aK x0) (Lib.idxOf ((ae (af x0 0)).map intD) (intD ((ae x2).getD (v24).toNat .nil)))then
    bif decide ((b37).length+1<=2147483648)then
     xe Tryz.prog Tryz.f106 N n x0 x1 x2 (IntKind.wrap .i64 (v24+1)) (b37++[yA (kC (aK x0) (Lib.idxOf ((ae (af x0 0)).map intD) (intD ((ae x2).getD (v24).toNat .nil))))])
    else none
   else none
  else none
 else some (dat 67 (.slice b37 [])):=by kernel_rfl
theorem IU (N n:Nat) (x0:D) (x1:Int) (x2:D) (v7:List D) (v24:Int):Ph Tryz.prog Tryz.f106 N (n+1) x0 x1 x2 v7 v24=
 bif decide (v24<((ae x2).length:Int))then
  bif (decide (0<=v24)&&decide (v24<((ae x2).length:Int)))then
   bif uS (aK x0) (Lib.idxOf ((ae (af x0 0)).map intD) (intD ((ae x2).getD (v24).toNat .nil)))then
    bif decide ((v7).length+1<=2147483648)then
     xe Tryz.prog Tryz.f106 N n x0 x1 x2 (IntKind.wrap .i64 (v24+1)) (v7++[yA (kC (aK x0) (Lib.idxOf ((ae (af x0 0)).map intD) (intD ((ae x2).getD (v24).toNat .nil))))])
    else none
   else none
  else none
 else some (dat 67 (.slice v7 [])):=by kernel_rfl
theorem afp (N:Nat) (x0:D) (x1:Int) (x2:D):aU Tryz.prog (ak B1 [] [] []) yx N Tryz.f106 [dat 37 x0,dat 3 (.lit (.int .i64 x1)),dat 28 x2]=
 bif (decide (0<=(0:Int))&&decide ((0:Int)<((ae (af x0 1)).length:Int)))then
  bif (decide (0<=x1)&&decide (x1<((ae ((ae (af x0 1)).getD 0 .nil)).length:Int)))then
   Ph Tryz.prog Tryz.f106 N N x0 x1 x2 [(ae ((ae (af x0 1)).getD 0 .nil)).getD (x1).toNat .nil,.agg [.lit (.int .i64 0),.lit (.int .i64 ((ae (af x0 1)).length:Int))]] 0
  else none
 else none:=by kernel_rfl
end Go.Proofs.YtpceahbengfjeaaGreatDoor
