/- Trees of functions, and lemmas. Nothing here is trusted. -/
import Derived.Test.YtpceahbengfjeaaGreatDoorZ26
import Derived.Test.YtpceahbengfjeaaGreatDoorZ21
import Derived.Test.YtpceahbengfjeaaGreatDoorZ25
import Derived.Test.YtpceahbengfjeaaGreatDoorZ22
namespace Go.Proofs.YtpceahbengfjeaaGreatDoor
section
open Go.Ev
set_option linter.unusedVariables false
set_option maxRecDepth 10000
def UK:List AV:=[bxp OID 88,dat 3 .nil,dat 96 .nil]
def aaX (ds hs:List D):Bool:=match ds,hs with
 | [_,n,f],[e]=>isF f&&JK (ae e) (intD n)
 |_,_=>false
def aeq (ds hs:List D):uN:=match ds,hs with
 | [_,_,_],[e]=>some (gq,kW (sortK keyE (ae e)))
 |_,_=>none
def ahD:xP:=(118,0,fD UK kY aaX,iZ UK kY aeq)
def H6:uQ:=ahD::H5 xm
def a62:List AV:=[bxp OID 88,dat 96 .nil]
def q62 (ds hs:List D):Bool:=match ds,hs with
 | [_,f],[e]=>isF f&&decide ((ae e).length<=2147483648)
 |_,_=>false
def g62 (ds hs:List D):uN:=match ds,hs with
 | [_,_],[e]=>some (gq,kW (sortK keyE (ae e)))
 |_,_=>none
def h62:xP:=(62,0,fD a62 kY q62,iZ a62 kY g62)
def H7:uQ:=h62::H6
def e24:FuncId×TypeId×(List AV->Bool)×(List AV->Option D):=(24,37,jU (q2 fun x _=>iY x),ent [37,3] (f2 fun x y=>some (iO x (intD y))))
def B5:Tab:=e24::e56::B3
def e46:FuncId×TypeId×(List AV->Bool)×(List AV->Option D):=(46,43,yes,ent [37,3,28] (f3 fun x y z=>some (.agg [eF x (intD y) (ae z),.lit (.bool (dO x (intD y) (ae z)))])))
def B6:Tab:=e46::B5
abbrev B7:Tab:=B6
end
section
open Go.Ev
set_option linter.unusedVariables false
/- roadbook/bag.Group -/
def Sz:ay:=fun i=>if i=6 then some ([0,4,5,7,11,12,13,14,15,16,17,18,19,20,21,22,23,24,25,26,27,28,29,30,31,32,33,34,35,36,37,38,39,40,41,42,43,44,45,46,47,48,49,50,51,52,53,54,55,56,57,58,59,60,61,62,63,64,65,66,67,68,69],[3,6,9,60,900000],[])else none
def EG (P:Program) (fn:Func) (N n:Nat) (x0:D) (x1:Int) (x2:D) (v10:List D) (b9:List D):Option AV:=aN (preL Sz (sub [1,1,1,1,0,1,0,0] (ag fn))) (az P (ak B5 H7 R3 []) Sz N (sub [1,1,1,1,0,1,0,0] (ag fn))) n ⟨[dead,dat 3 (.lit (.int .i64 x1)),dat 28 x2,bxp 3 37,dead,dead,bxp 6 37,dead,dat 3 (.lit (.int .i64 (Lib.idxOf ((ae (af x0 0)).map intD) x1))),bxp 9 35,dat 35 (.slice v10 []),dead,dead,dead,dead,dead,dead,dead,dead,dead,dead,dead,dead,dead,dead,dead,dead,dead,dead,dead,dead,dead,dead,dead,dead,dead,dead,dead,dead,dead,dead,dead,dead,dead,dead,dead,dead,dead,dead,dead,dead,dead,dead,dead,dead,dead,dead,dead,dead,dead,dead,dead,dead,dead,dead,dead,dead,dead,dead,dead],aZ [(3,some ⟨37,x0,0,none⟩),(6,some ⟨37,.agg [.slice [] [],.slice [] []],0,none⟩),(9,some ⟨35,.slice b9 [],1,none⟩),(60,none),(900000,none)]⟩ (aG 0 (cZ P (ak B5 H7 R3 []) Sz N (sub [1,1,1,1,1] (ag fn)) (dJ P fn)))
theorem yY (N n:Nat) (x0:D) (x1:Int) (x2:D) (v10:List D) (b9:List D):EG Tryz.prog Tryz.f46 N (n+1) x0 x1 x2 v10 b9=
 bif decide ((v10.length:Int)>0)then
  bif decide (0<v10.length)then
   bif (decide (0<=(0:Int))&&decide ((0:Int)<=(eU v10 (Lib.idxOf ((ae (af x0 0)).map intD) x1):Int))&&decide ((eU v10 (Lib.idxOf ((ae (af x0 0)).map intD) x1):Int)<=(v10.length:Int)))then
    bif J7 (.agg [af x0 0,.slice ((v10.drop ((0:Int):Int).toNat).take ((eU v10 (Lib.idxOf ((ae (af x0 0)).map intD) x1):Int) - (0:Int)).toNat) []]) (Lib.idxOf ((ae (af x0 0)).map intD) x1) (ae x2)then
     bif decide ((b9).length+1<=2147483648)then
      bif (decide (0<=(eU v10 (Lib.idxOf ((ae (af x0 0)).map intD) x1):Int))&&decide ((eU v10 (Lib.idxOf ((ae (af x0 0)).map intD) x1):Int)<=(v10.length:Int))&&decide ((v10.length:Int)<=(v10.length:Int)))then
       EG Tryz.prog Tryz.f46 N n x0 x1 x2 ((v10.drop ((eU v10 (Lib.idxOf ((ae (af x0 0)).map intD) x1):Int):Int).toNat).take ((v10.length:Int) - (eU v10 (Lib.idxOf ((ae (af x0 0)).map intD) x1):Int)).toNat) (b9++[.slice (nz (.agg [af x0 0,.slice ((v10.drop ((0:Int):Int).toNat).take ((eU v10 (Lib.idxOf ((ae (af x0 0)).map intD) x1):Int) - (0:Int)).toNat) []]) (Lib.idxOf ((ae (af x0 0)).map intD) x1) (ae x2)) []])
      else none
     else none
    else none
   else none
  else none
 else bif (decide (0<=((ae x2).length:Int))&&decide (((ae x2).length:Int)<=1000))then
   some (aL [37,4] (.agg [.agg [.slice (dE x1 ((ae x2).length:Int)) [],.slice b9 []],.lit (.bool true)]))
  else none:=by kernel_rfl
theorem t46 (N:Nat) (x0:D) (x1:Int) (x2:D):aU Tryz.prog (ak B5 H7 R3 []) Sz N Tryz.f46 [dat 37 x0,dat 3 (.lit (.int .i64 x1)),dat 28 x2]=
 bif ((!(bn x0))==false)then
  bif ((!(hasB (ae (af x0 0)) x1))==false)then
   bif ((!(gG (ae (af x0 0)) (ae x2)))==false)then
    bif decide (((ae x2).length:Int)>4)then
     some (aL [37,4] (.agg [.agg [.slice [] [],.slice [] []],.lit (.bool false)]))
    else bif iY x0 then
      EG Tryz.prog Tryz.f46 N N x0 x1 x2 (ae (af (iO x0 x1) 1)) []
     else none
   else some (aL [37,4] (.agg [.agg [.slice [] [],.slice [] []],.lit (.bool false)]))
  else some (aL [37,4] (.agg [.agg [.slice [] [],.slice [] []],.lit (.bool false)]))
 else some (aL [37,4] (.agg [.agg [.slice [] [],.slice [] []],.lit (.bool false)])):=by kernel_rfl
end
section
open Go.Ev
set_option linter.unusedVariables false
/- slices.stableCmpFunc[roadbook/bag.ranked] -/
def oq:ay:=fun i=>if i=2 then some ([3,4,5,9,10,11,12,13,14,15,16,17,18,19,20,21,22,23,24,25,26,27,28,29,30,31,32,33,34,35,36,37,38,39,40,41,42,43,44,45,46,47,48,49,50,51,52,53,54,55,56,57,58,59,60,61,62],[1000000],[])else if i=7 then some ([3,4,5,7,8,9,10,11,12,13,14,15,16,17,18,19,20,21,22,23,24,25,26,27,28,29,30,31,32,33,34,35,36,37,38,39,40,41,42,43,44,45,46,47,48,49,50,51,52,53,54,55,56,57,58,59,60,61,62],[1000000],[])else if i=9 then some ([3,4,5,9,10,11,12,13,14,15,16,17,18,19,20,21,22,23,24,25,26,27,28,29,30,31,32,33,34,35,36,37,38,39,40,41,42,43,44,45,46,47,48,49,50,51,52,53,54,55,56,57,58,59,60,61,62],[1000000],[])else none
def zK (P:Program) (fn:Func) (N n:Nat) (x1:Int) (es:List D) (v7:Int) (v8:Int) (b1000000:List D):Option (AV×List (Option Ent)):=aN (preL oq (sub [1,1,0,0,0] (ag fn))) (az P (ak B3 (H5 xm) R3 []) oq N (sub [1,1,0,0,0] (ag fn))) n ⟨[bxp 1000000 88,dat 3 (.lit (.int .i64 x1)),dat 96 (.held (.func (.func 63) #[] #[])),dead,dead,dead,dat 3 (.lit (.int .i64 20)),dat 3 (.lit (.int .i64 v7)),dat 3 (.lit (.int .i64 v8)),dead,dead,dead,dead,dead,dead,dead,dead,dead,dead,dead,dead,dead,dead,dead,dead,dead,dead,dead,dead,dead,dead,dead,dead,dead,dead,dead,dead,dead,dead,dead,dead,dead,dead,dead,dead,dead,dead,dead,dead,dead,dead,dead,dead,dead,dead,dead,dead,dead,dead,dead,dead,dead,dead],aZ [(1000000,some ⟨88,.slice b1000000 [],3,none⟩)]⟩ (aG 0 (cZ P (ak B3 (H5 xm) R3 []) oq N (sub [1,1,1] (ag fn)) (qA P fn 1)))
def sG (P:Program) (fn:Func) (N n:Nat) (x1:Int) (es:List D) (v7:Int) (v8:Int) (b1000000:List D) (m0:Nat) (v6:Int) (b1000000q:List D):Option (AV×List (Option Ent)):=aN (preL oq (sub [1,1,1,1,0,0] (ag fn))) (az P (ak B3 (H5 xm) R3 []) oq N (sub [1,1,1,1,0,0] (ag fn))) n ⟨[bxp 1000000 88,dat 3 (.lit (.int .i64 x1)),dat 96 (.held (.func (.func 63) #[] #[])),dead,dead,dead,dat 3 (.lit (.int .i64 v6)),dead,dead,dead,dead,dead,dead,dead,dead,dead,dead,dead,dead,dead,dead,dead,dead,dead,dead,dead,dead,dead,dead,dead,dead,dead,dead,dead,dead,dead,dead,dead,dead,dead,dead,dead,dead,dead,dead,dead,dead,dead,dead,dead,dead,dead,dead,dead,dead,dead,dead,dead,dead,dead,dead,dead,dead],aZ [(1000000,some ⟨88,.slice b1000000q [],3,none⟩)]⟩ (aG 2 (qA P fn 1))
def zC (P:Program) (fn:Func) (N n:Nat) (x1:Int) (es:List D) (v7:Int) (v8:Int) (b1000000:List D) (m0:Nat) (v6:Int) (b1000000q:List D) (m1:Nat) (v7q:Int) (v8q:Int) (b1000000qq:List D):Option (AV×List (Option Ent)):=aN (preL oq (sub [1,1,1,1,0,0,1,0,1,0,0,0] (ag fn))) (az P (ak B3 (H5 xm) R3 []) oq N (sub [1,1,1,1,0,0,1,0,1,0,0,0] (ag fn))) n ⟨[bxp 1000000 88,dat 3 (.lit (.int .i64 x1)),dat 96 (.held (.func (.func 63) #[] #[])),dead,dead,dead,dat 3 (.lit (.int .i64 v6)),dat 3 (.lit (.int .i64 v7q)),dat 3 (.lit (.int .i64 v8q)),dead,dead,dead,dead,dead,dead,dead,dead,dead,dead,dead,dead,dead,dead,dead,dead,dead,dead,dead,dead,dead,dead,dead,dead,dead,dead,dead,dead,dead,dead,dead,dead,dead,dead,dead,dead,dead,dead,dead,dead,dead,dead,dead,dead,dead,dead,dead,dead,dead,dead,dead,dead,dead,dead],aZ [(1000000,some ⟨88,.slice b1000000qq [],3,none⟩)]⟩ (aG 4 (cZ P (ak B3 (H5 xm) R3 []) oq N (sub [1,1,1,1,0,0,1,0,1,1] (ag fn)) (aG 3 (Nb (fun s=>aN (preL oq (sub [1,1,1,1,0,0] (ag fn))) (az P (ak B3 (H5 xm) R3 []) oq N (sub [1,1,1,1,0,0] (ag fn))) m1 ((preL oq (sub [1,1,1,1,0,0] (ag fn))) s) (aG 2 (qA P fn 1))) (aG 2 (qA P fn 1))))))
theorem Ic (N n:Nat) (x1:Int) (es:List D) (v7:Int) (v8:Int) (b1000000:List D) (m0:Nat) (v6:Int) (b1000000q:List D) (m1:Nat) (v7q:Int) (v8q:Int) (b1000000qq:List D):zC Tryz.prog Tryz.f118 N (n+1) x1 es v7 v8 b1000000 m0 v6 b1000000q m1 v7q v8q b1000000qq=
 bif decide (v8q<=x1)then
  bif iF xm b1000000qq v7q (IntKind.wrap .i64 (v7q+v6)) v8q then
   zC Tryz.prog Tryz.f118 N n x1 es v7 v8 b1000000 m0 v6 b1000000q m1 v8q (IntKind.wrap .i64 (v8q+(IntKind.wrap .i64 (2*v6)))) (insL b1000000qq v7q v8q)
  else none
 else bif decide ((IntKind.wrap .i64 (v7q+v6))<x1)then
   bif iF xm b1000000qq v7q (IntKind.wrap .i64 (v7q+v6)) x1 then
    sG Tryz.prog Tryz.f118 N m1 x1 es v7 v8 b1000000 m0 (IntKind.wrap .i64 (v6*2)) (insL b1000000qq v7q x1)
   else none
  else sG Tryz.prog Tryz.f118 N m1 x1 es v7 v8 b1000000 m0 (IntKind.wrap .i64 (v6*2)) b1000000qq:=by kernel_rfl
theorem Ia (N n:Nat) (x1:Int) (es:List D) (v7:Int) (v8:Int) (b1000000:List D) (m0:Nat) (v6:Int) (b1000000q:List D):sG Tryz.prog Tryz.f118 N (n+1) x1 es v7 v8 b1000000 m0 v6 b1000000q=
 bif decide (v6<x1)then
  zC Tryz.prog Tryz.f118 N N x1 es v7 v8 b1000000 m0 v6 b1000000q n 0 (IntKind.wrap .i64 (2*v6)) b1000000q
 else some (aL [] (.agg []),[some ⟨88,.slice b1000000q [],3,none⟩]):=by kernel_rfl
theorem Ib (N n:Nat) (x1:Int) (es:List D) (v7:Int) (v8:Int) (b1000000:List D):zK Tryz.prog Tryz.f118 N (n+1) x1 es v7 v8 b1000000=
 bif decide (v8<=x1)then
  bif F7 b1000000 v7 v8 then
   zK Tryz.prog Tryz.f118 N n x1 es v8 (IntKind.wrap .i64 (v8+20)) (insL b1000000 v7 v8)
  else none
 else bif F7 b1000000 v7 x1 then
   sG Tryz.prog Tryz.f118 N N x1 es v7 v8 b1000000 n 20 (insL b1000000 v7 x1)
  else none:=by kernel_rfl
theorem agX (N:Nat) (x1:Int) (es:List D):jP Tryz.prog (ak B3 (H5 xm) R3 []) oq N Tryz.f118 [bxp 1000000 88,dat 3 (.lit (.int .i64 x1)),dat 96 (.held (.func (.func 63) #[] #[]))] [⟨88,.slice es [],3,none⟩]=
 zK Tryz.prog Tryz.f118 N N x1 es 0 20 es:=by kernel_rfl
/- slices.SortStableFunc[[]roadbook/bag.ranked,roadbook/bag.ranked] -/
def adC:ay:=fun _=>none
theorem t62 (N:Nat) (es:List D):jP Tryz.prog (ak B3 H6 R3 []) adC N Tryz.f62 [bxp 1000000 88,dat 96 (.held (.func (.func 63) #[] #[]))] [⟨88,.slice es [],3,none⟩]=
 bif JK es (es.length:Int)then
  some (aL [] (.agg []),[some ⟨88,.slice (sortK keyE es) [],3,none⟩])
 else none:=by kernel_rfl
/- roadbook/bag.Sort -/
def Gx:ay:=fun i=>if i=4 then some ([0,1,3,7,8,9,10,11,12,13,14,15,16,17,18,19,20,24,25,26,27,28,29,30,31,32,33,34,35,36,37,38,39,40,41,42,43,44,45,46,47,48,49,50,51,52,53,54,55,56,57,58,59,60],[2,4,19],[])else if i=11 then some ([0,1,3,5,6,7,8,10,11,12,13,14,15,16,17,18,19,20,21,22,23,24,25,26,27,28,29,30,31,32,33,34,35,36,37,38,39,40,41,45,46,47,48,49,50,51,52,53,54,55,56,57,58,59,60],[2,4,19,41],[])else none
def EH (P:Program) (fn:Func) (N n:Nat) (x0:D) (x1:Int) (v23:Int) (b19:List D):Option AV:=aN (preL Gx (sub [1,1,1,0,1,0,0] (ag fn))) (az P (ak B3 H7 R3 []) Gx N (sub [1,1,1,0,1,0,0] (ag fn))) n ⟨[dead,dead,bxp 2 37,dead,bxp 4 37,dat 3 (.lit (.int .i64 (Lib.idxOf ((ae (af x0 0)).map intD) x1))),bxp 19 88,dead,dead,dead,dead,dead,dead,dead,dead,dead,dead,dead,dead,dead,dead,dat 35 (af x0 1),dat 3 (.lit (.int .i64 ((ae (af x0 1)).length:Int))),dat 3 (.lit (.int .i64 v23)),dead,dead,dead,dead,dead,dead,dead,dead,dead,dead,dead,dead,dead,dead,dead,dead,dead,dead,dead,dead,dead,dead,dead,dead,dead,dead,dead,dead,dead,dead,dead,dead,dead,dead,dead,dead,dead],aZ [(2,some ⟨37,x0,0,none⟩),(4,some ⟨37,.agg [.slice [] [],.slice [] []],0,none⟩),(19,some ⟨88,.slice b19 [],2,none⟩)]⟩ (aG 0 (cZ P (ak B3 H7 R3 []) Gx N (sub [1,1,1,1] (ag fn)) (dJ P fn)))
def Ak (P:Program) (fn:Func) (N n:Nat) (x0:D) (x1:Int) (v23:Int) (b19:List D) (m0:Nat) (v44:Int) (b41:List D):Option AV:=aN (preL Gx (sub [1,1,1,1,1,1,0,1,0,0] (ag fn))) (az P (ak B3 H7 R3 []) Gx N (sub [1,1,1,1,1,1,0,1,0,0] (ag fn))) n ⟨[dead,dead,bxp 2 37,dead,bxp 4 37,dead,dead,dead,dead,bxp 41 35,dead,dead,dead,dead,dead,dead,dead,dead,dead,dead,dead,dead,dead,dead,dead,dead,dead,dead,dead,dead,dead,dead,dead,dead,dead,dead,dead,dead,dead,dead,dead,dead,bxp 19 88,dat 3 (.lit (.int .i64 ((sortK keyE b19).length:Int))),dat 3 (.lit (.int .i64 v44)),dead,dead,dead,dead,dead,dead,dead,dead,dead,dead,dead,dead,dead,dead,dead,dead],aZ [(2,some ⟨37,x0,0,none⟩),(4,some ⟨37,.agg [.slice [] [],.slice [] []],0,none⟩),(19,some ⟨88,.slice (sortK keyE b19) [],2,none⟩),(41,some ⟨35,.slice b41 [],2,none⟩)]⟩ (aG 2 (cZ P (ak B3 H7 R3 []) Gx N (sub [1,1,1,1,1,1,1] (ag fn)) (dJ P fn)))
theorem Ij (N n:Nat) (x0:D) (x1:Int) (v23:Int) (b19:List D) (m0:Nat) (v44:Int) (b41:List D):Ak Tryz.prog Tryz.f24 N (n+1) x0 x1 v23 b19 m0 v44 b41=
 bif decide (v44<((sortK keyE b19).length:Int))then
  bif (decide (0<=v44)&&decide (v44<((sortK keyE b19).length:Int)))then
   bif decide ((ae (af ((sortK keyE b19).getD (v44).toNat .nil) 1)).length<=2147483648)then
    bif (decide (0<=v44)&&decide (v44<(b41.length:Int)))then
     Ak Tryz.prog Tryz.f24 N n x0 x1 v23 b19 m0 (IntKind.wrap .i64 (v44+1)) (b41.set (v44).toNat (af ((sortK keyE b19).getD (v44).toNat .nil) 1))
    else none
   else none
  else none
 else bif decide ((ae (af x0 0)).length<=2147483648)then
   some (dat 37 (.agg [af x0 0,.slice b41 []]))
  else none:=by kernel_rfl
theorem KT (N n:Nat) (x0:D) (x1:Int) (v23:Int) (b19:List D):EH Tryz.prog Tryz.f24 N (n+1) x0 x1 v23 b19=
 bif decide (v23<((ae (af x0 1)).length:Int))then
  bif (decide (0<=v23)&&decide (v23<((ae (af x0 1)).length:Int)))then
   bif (decide (0<=v23)&&decide (v23<(b19.length:Int)))then
    EH Tryz.prog Tryz.f24 N n x0 x1 (IntKind.wrap .i64 (v23+1)) (b19.set (v23).toNat (.agg [fC (ae ((ae (af x0 1)).getD (v23).toNat .nil)) (Lib.idxOf ((ae (af x0 0)).map intD) x1),(ae (af x0 1)).getD (v23).toNat .nil]))
   else none
  else none
 else bif decide (b19.length<=2147483648)then
   bif (decide (0<=((sortK keyE b19).length:Int))&&decide (((sortK keyE b19).length:Int)<=2147483648))then
    Ak Tryz.prog Tryz.f24 N N x0 x1 v23 b19 n 0 (List.replicate (((sortK keyE b19).length:Int)).toNat (.slice [] []:D))
   else none
  else none:=by kernel_rfl
theorem t24 (N:Nat) (x0:D) (x1:Int):aU Tryz.prog (ak B3 H7 R3 []) Gx N Tryz.f24 [dat 37 x0,dat 3 (.lit (.int .i64 x1))]=
 bif (decide (0<=((ae (af x0 1)).length:Int))&&decide (((ae (af x0 1)).length:Int)<=2147483648))then
  EH Tryz.prog Tryz.f24 N N x0 x1 0 (List.replicate (((ae (af x0 1)).length:Int)).toNat (.agg [.agg [.lit (.int .i64 0),.lit (.int .i64 0)],.slice [] []]:D))
 else none:=by kernel_rfl
end
section
open Go.Ev
set_option linter.unusedVariables false
set_option maxRecDepth 10000
set_option linter.unusedSimpArgs false
section
variable {L:Nat} {es es0:List D} (hL:L<=2147483648)
include hL
theorem XK {N:Nat} {a7 a8:Int} {b1 bq:List D} {m0 m1 s:Nat} (hs:20<=s) (hsL:s<L)
  (next: ∀ l:List D,l.length=L->SEq keyE l es0->Blk (2*s) l->sG Tryz.prog Tryz.f118 N m1 (L:Int) es a7 a8 b1 m0 ((2*s:Nat):Int) l=some (gq,kW (sortK keyE es0))):
  ∀ (n j:Nat) (l:List D),j*(2*s)<=L->L - j*(2*s)<n->l.length=L->SEq keyE l es0->(∀ k,k<j->Srt keyE (seg (k*(2*s)) ((k+1)*(2*s)) l))->(∀ k,2*j<=k->Srt keyE (seg (k*s) ((k+1)*s) l))->
   zC Tryz.prog Tryz.f118 N n (L:Int) es a7 a8 b1 m0 (s:Int) bq m1 ((j*(2*s):Nat):Int) (((j+1)*(2*s):Nat):Int) l=some (gq,kW (sortK keyE es0))
 |0,j,l,_,h,_,_,_,_=>by omega
 |n+1,j,l,hj,h,hl,hq,h1,h2=>by
  have e1:(j+1)*(2*s)=j*(2*s)+2*s:=Nat.succ_mul _ _
  have e1':(j+1+1)*(2*s)=(j+1)*(2*s)+2*s:=Nat.succ_mul _ _
  have e2:(2*j+1)*s=2*j*s+s:=Nat.succ_mul _ _
  have e3:(2*j+1+1)*s=(2*j+1)*s+s:=Nat.succ_mul _ _
  have e4:=Qv j s
  have w1:IntKind.wrap .i64 (((j*(2*s):Nat):Int)+(s:Int))=(((2*j+1)*s:Nat):Int):=by rw[aH (l_in (by omega) (by omega))];omega
  have w2:IntKind.wrap .i64 (2*(s:Int))=((2*s:Nat):Int):=by rw[aH (l_in (by omega) (by omega))];omega
  have w3:IntKind.wrap .i64 ((s:Int)*2)=((2*s:Nat):Int):=by rw[aH (l_in (by omega) (by omega))];omega
  have w4:IntKind.wrap .i64 ((((j+1)*(2*s):Nat):Int)+((2*s:Nat):Int))=(((j+1+1)*(2*s):Nat):Int):=by rw[aH (l_in (by omega) (by omega))];omega
  have s1:Srt keyE (seg (j*(2*s)) ((2*j+1)*s) l):=by have:=h2 (2*j) (Nat.le_refl _);rw[<-e4]at this;exact this
  have s2:=h2 (2*j+1) (by omega)
  rw[Ic,w1,w2,w3,w4]
  by_cases hb:(j+1)*(2*s)<=L
  ·have g1:decide ((((j+1)*(2*s):Nat):Int)<=(L:Int))=true:=by rw[decide_eq_true_eq];omega
   have g2:iF xm l ((j*(2*s):Nat):Int) (((2*j+1)*s:Nat):Int) (((j+1)*(2*s):Nat):Int)=true:=
    J3 (by omega) (by omega) (by omega) (by omega) (by unfold xm;omega) s1 (by rw[show(j+1)*(2*s)=(2*j+1+1)*s by omega];exact s2)
   rw[g1,g2,cond_true,cond_true]
   exact XK hs hsL next n (j+1) _ (by omega) (by omega) (by rw[zQ (by omega) (by omega)];exact hl) ((EX (by omega) (by omega)).trans hq) (Po h1 (by omega)) (VC h2 (by omega))
  ·have g1:decide ((((j+1)*(2*s):Nat):Int)<=(L:Int))=false:=by rw[decide_eq_false_iff_not];omega
   rw[g1,cond_false]
   by_cases hm:(2*j+1)*s<L
   ·have g2:decide ((((2*j+1)*s:Nat):Int)<(L:Int))=true:=by rw[decide_eq_true_eq];omega
    have g3:iF xm l ((j*(2*s):Nat):Int) (((2*j+1)*s:Nat):Int) (L:Int)=true:=
     J3 (by omega) (by omega) (by omega) (by omega) (by unfold xm;omega) s1 (by rw[sO (by omega)]at s2⊢;exact s2)
    rw[g2,g3,cond_true,cond_true]
    have hlast:=MX (s:=2*s) (j:=j) h1 (by omega) (by omega)
    rw[hl]at hlast
    exact next _ (by rw[zQ (by omega) (by omega)];exact hl) ((EX (by omega) (by omega)).trans hq) hlast
   ·have g2:decide ((((2*j+1)*s:Nat):Int)<(L:Int))=false:=by rw[decide_eq_false_iff_not];omega
    rw[g2,cond_false]
    exact next l hl hq (Wy h1 h2 (by omega))
theorem Sl {N:Nat} {a7 a8:Int} {b1:List D} {m0:Nat} (hN:L<N): ∀ (n s:Nat) (l:List D),20<=s->L - s<n->l.length=L->SEq keyE l es0->Blk s l->
  sG Tryz.prog Tryz.f118 N n (L:Int) es a7 a8 b1 m0 (s:Int) l=some (gq,kW (sortK keyE es0))
 |0,s,l,_,h,_,_,_=>by omega
 |n+1,s,l,hs,h,hl,hq,hb=>by
  rw[Ia]
  by_cases hlt:s<L
  ·have w2:IntKind.wrap .i64 (2*(s:Int))=(((0+1)*(2*s):Nat):Int):=by rw[aH (l_in (by omega) (by omega))];omega
   rw[eY hlt,cond_true,w2]
   have:=XK hL (N:=N) (es:=es) (es0:=es0) (a7:=a7) (a8:=a8) (b1:=b1) (bq:=l) (m0:=m0) (m1:=n) (s:=s) hs hlt (fun l' a b c=>Sl hN n (2*s) l' (by omega) (by omega) a b c) N 0 l (by omega) (by omega) hl hq (by omega) (fun k _=>hb k)
   rw[Nat.zero_mul]at this
   exact this
  ·rw[fB hlt,cond_false,XE hb (by omega) hq]
   rfl
theorem RY {N:Nat} (hN:L<N): ∀ (n j:Nat) (l:List D),j*20<=L->L - j*20<n->l.length=L->SEq keyE l es0->(∀ k,k<j->Srt keyE (seg (k*20) ((k+1)*20) l))->
  zK Tryz.prog Tryz.f118 N n (L:Int) es ((j*20:Nat):Int) (((j+1)*20:Nat):Int) l=some (gq,kW (sortK keyE es0))
 |0,j,l,_,h,_,_,_=>by omega
 |n+1,j,l,hj,h,hl,hq,h1=>by
  have w1:IntKind.wrap .i64 ((((j+1)*20:Nat):Int)+20)=(((j+1+1)*20:Nat):Int):=by rw[aH (l_in (by omega) (by omega))];omega
  rw[Ib,w1]
  by_cases hb:(j+1)*20<=L
  ·have g1:decide ((((j+1)*20:Nat):Int)<=(L:Int))=true:=by rw[decide_eq_true_eq];omega
   rw[g1,Jq (by omega) (by omega) (by omega),cond_true,cond_true]
   exact RY hN n (j+1) _ (by omega) (by omega) (by rw[zQ (by omega) (by omega)];exact hl) ((EX (by omega) (by omega)).trans hq) (Po h1 (by omega))
  ·have g1:decide ((((j+1)*20:Nat):Int)<=(L:Int))=false:=by rw[decide_eq_false_iff_not];omega
   rw[g1,cond_false,Jq (A:=j*20) (B:=L) (by omega) (by omega) (by omega),cond_true]
   have hlast:=MX (s:=20) (j:=j) h1 (by omega) (by omega)
   rw[hl]at hlast
   exact Sl hL (es:=es) (es0:=es0) hN N 20 _ (by omega) (by omega) (by rw[zQ (by omega) (by omega)];exact hl) ((EX (by omega) (by omega)).trans hq) hlast
end
theorem aeJ:FnOK Tryz.prog 118 Tryz.f118:=⟨Tryz.func118,rfl,by kernel_rfl⟩
theorem ahi: ∀ args hh r h',fD UK kY aaX args hh=true->iZ UK kY aeq args hh=some (r,h')->HCallOK Tryz.prog 118 args hh r h':=by
 refine fV rfl rfl fun ds es r h' hq hd=>?_
 unfold aaX at hq
 split at hq
 ·rename_i z a f e
  cases hd
  rw[Bool.and_eq_true]at hq
  refine HCallOK.typedR aeJ.ex fun ht _ hr=>?_
  obtain⟨_,t1⟩:=ht (dat 3 a) (by simp[fA,UK,dat,bxp]) rfl
  obtain⟨_,t3⟩:=ht (dat 96 f) (by simp[fA,UK,dat,bxp]) rfl
  obtain⟨el,l,_,hl,_⟩:=hr ⟨88,e,3,none⟩ (by simp[kQ,kY]) (by simp)
  have hl:e=.slice l []:=hl
  subst hl
  obtain⟨i1,rfl,_⟩:=iC t1
  rw[Bz (show Ty Tryz.prog _ 96 f from t3) hq.1]
  have hq:JK l i1=true:=hq.2
  simp only[JK,Bool.and_eq_true,decide_eq_true_eq,beq_iff_eq]at hq
  obtain⟨rfl,g⟩:=hq
  refine gZ hm Nh aeJ ((agX (l.length+1) (l.length:Int) l).trans ?_)
  have:=RY g (es:=l) (es0:=l) (N:=l.length+1) (by omega) (l.length+1) 0 l (by omega) (by omega) rfl (SEq.refl l) (by omega)
  exact this
 ·cases hq
theorem Z4:EnvOK Tryz.prog (ak B3 H6 R3 []):=bJ Nh ahi
theorem k62:FnOK Tryz.prog 62 Tryz.f62:=⟨Tryz.func62,rfl,by kernel_rfl⟩
theorem c62: ∀ args hh r h',fD a62 kY q62 args hh=true->iZ a62 kY g62 args hh=some (r,h')->HCallOK Tryz.prog 62 args hh r h':=by
 refine fV rfl rfl fun ds es r h' hq hd=>?_
 unfold q62 at hq
 split at hq
 ·rename_i z f e
  cases hd
  rw[Bool.and_eq_true]at hq
  refine HCallOK.typedR k62.ex fun ht _ hr=>?_
  obtain⟨_,t3⟩:=ht (dat 96 f) (by simp[fA,a62,dat,bxp]) rfl
  obtain⟨el,l,_,hl,_⟩:=hr ⟨88,e,3,none⟩ (by simp[kQ,kY]) (by simp)
  have hl:e=.slice l []:=hl
  subst hl
  rw[Bz (show Ty Tryz.prog _ 96 f from t3) hq.1]
  have g:decide (l.length<=2147483648)=true:=hq.2
  refine gZ hm Z4 k62 ((t62 1 l).trans ?_)
  have:JK l (l.length:Int)=true:=by
   unfold JK
   rw[g]
   simp
  rw[this]
  rfl
 ·cases hq
theorem aat:EnvOK Tryz.prog (ak B3 H7 R3 []):=bJ Z4 c62
def rkF (p:Int) (r:D):D:=.agg [fC (ae r) p,r]
theorem SN (p:Int) (rows:List D):sortK keyE (rows.map (rkF p))=(dH p rows).map (rkF p):=IW keyE (rkF p) rows
theorem NK {N:Nat} {x0:D} {x1 v23:Int} {m0:Nat} {rows:List D} {p:Int} (hc:(ae (af x0 0)).length<=2147483648) (hb:rows.length<=2147483648) (hr: ∀ r∈rows,(ae r).length<=2147483648): ∀ (n i:Nat) (tl:List D),i<=rows.length->rows.length - i<n->tl.length=rows.length - i->
  Ak Tryz.prog Tryz.f24 N n x0 x1 v23 (rows.map (rkF p)) m0 (i:Int) (((dH p rows).take i).map id++tl)=some (dat 37 (.agg [af x0 0,.slice (dH p rows) []]))
 |0,i,tl,_,h,_=>by omega
 |n+1,i,tl,hi,h,ht=>by
  have hlen:(dH p rows).length=rows.length:=eP rows
  rw[Ij,SN,List.length_map,hlen]
  by_cases hlt:i<rows.length
  ·have h2:i<(dH p rows).length:=by omega
   have hl2:(((dH p rows).take i).map id++tl).length=rows.length:=by simp;omega
   have e1:af (((dH p rows).map (rkF p)).getD i .nil) 1=id (dH p rows)[i]:=by
    rw[dA (by simp;omega),List.getElem_map]
    rfl
   have g:decide ((ae (id (dH p rows)[i])).length<=2147483648)=true:=by
    rw[decide_eq_true_eq]
    exact hr _ (wL.1 (List.getElem_mem h2))
   rw[bG hlt,eY hlt,cond_true,cond_true,Int.toNat_natCast,e1,g,cond_true,hl2,bG hlt,cond_true,Gw id h2 (by omega)]
   have w1:IntKind.wrap .i64 ((i:Int)+1)=((i+1:Nat):Int):=by rw[aH (l_in (by omega) (by omega))];omega
   rw[w1]
   exact NK hc hb hr n (i+1) (tl.drop 1) (by omega) (by omega) (by simp;omega)
  ·have htl:tl=[]:=List.length_eq_zero_iff.1 (by omega)
   have g:decide ((ae (af x0 0)).length<=2147483648)=true:=by rw[decide_eq_true_eq];exact hc
   rw[fB hlt,cond_false,g,cond_true,htl,List.append_nil,List.map_id,List.take_of_length_le (by omega)]
theorem Q9 {N:Nat} {cs rows:List D} {x1:Int} (hN:rows.length<N) (hc:cs.length<=2147483648) (hb:rows.length<=2147483648) (hr: ∀ r∈rows,(ae r).length<=2147483648): ∀ (n i:Nat) (tl:List D),i<=rows.length->rows.length - i<n->tl.length=rows.length - i->
  EH Tryz.prog Tryz.f24 N n (aX cs rows) x1 (i:Int) ((rows.take i).map (rkF (bC cs x1))++tl)=some (dat 37 (iO (aX cs rows) x1))
 |0,i,tl,_,h,_=>by omega
 |n+1,i,tl,hi,h,ht=>by
  rw[KT]
  have z1:ae (af (aX cs rows) 1)=rows:=rfl
  have z2:Lib.idxOf ((ae (af (aX cs rows) 0)).map intD) x1=bC cs x1:=rfl
  rw[z1,z2]
  by_cases hlt:i<rows.length
  ·have hl2:((rows.take i).map (rkF (bC cs x1))++tl).length=rows.length:=by simp;omega
   have e1:(DataW.agg [fC (ae (rows.getD i .nil)) (bC cs x1),rows.getD i .nil]:D)=rkF (bC cs x1) rows[i]:=by rw[dA hlt];rfl
   have w1:IntKind.wrap .i64 ((i:Int)+1)=((i+1:Nat):Int):=by rw[aH (l_in (by omega) (by omega))];omega
   rw[bG hlt,eY hlt,cond_true,cond_true,hl2,bG hlt,cond_true,w1,Int.toNat_natCast,e1,Gw (rkF (bC cs x1)) hlt ht]
   exact Q9 hN hc hb hr n (i+1) (tl.drop 1) (by omega) (by omega) (by simp;omega)
  ·have htl:tl=[]:=List.length_eq_zero_iff.1 (by omega)
   have hlm:(rows.map (rkF (bC cs x1))).length=rows.length:=by simp
   have hlen:(dH (bC cs x1) rows).length=rows.length:=eP rows
   have hi2:i=rows.length:=by omega
   rw[fB hlt,cond_false,htl,List.append_nil,hi2,List.take_length,hlm,SN,List.length_map,hlen]
   have g1:decide (rows.length<=2147483648)=true:=by rw[decide_eq_true_eq];exact hb
   have g2:(decide (0<=(rows.length:Int))&&decide ((rows.length:Int)<=2147483648))=true:=by simp only[Bool.and_eq_true,decide_eq_true_eq];omega
   rw[g1,g2,cond_true,cond_true,Int.toNat_natCast]
   exact NK (x0:=aX cs rows) (rows:=rows) (p:=bC cs x1) hc hb hr N 0 _ (Nat.zero_le _) (by omega) (by simp)
theorem k24:FnOK Tryz.prog 24 Tryz.f24:=⟨Tryz.func24,rfl,by kernel_rfl⟩
theorem c24: ∀ args d,e24.2.2.1 args=true->e24.2.2.2 args=some d->CallOK Tryz.prog 24 args (aj Tryz.prog 37 d):=
 qG k24 fun x y d hq h ⟨_,hx⟩ _=>by
  cases h
  rw[nB,n3]
  obtain⟨cs,rs,rfl,h1,h2,h3,h4⟩:=tyB hx
  simp only[iY,Bool.and_eq_true,decide_eq_true_eq,List.all_eq_true]at hq
  obtain⟨⟨g1,g2⟩,g3⟩:=hq
  have g1:rs.length<=2147483648:=g1
  refine aI hm aat k24 ((t24 (rs.length+1) (aX cs rs) (intD y)).trans ?_)
  rw[mB]
  have c1:(decide (0<=((ae (af (aX cs rs) 1)).length:Int))&&decide (((ae (af (aX cs rs) 1)).length:Int)<=2147483648))=true:=by
   show(decide (0<=(rs.length:Int))&&decide ((rs.length:Int)<=2147483648))=true
   simp only[Bool.and_eq_true,decide_eq_true_eq];omega
  rw[c1,cond_true,Int.toNat_natCast]
  exact Q9 (N:=rs.length+1) (cs:=cs) (rows:=rs) (x1:=intD y) (by omega) g2 g1 g3 (rs.length+1) 0 _ (Nat.zero_le _) (by omega) (by rw[List.length_replicate];rfl)
theorem aax:EnvOK Tryz.prog (ak B5 H7 R3 []):=aO (ah aat c56) c24
end
section
open Go.Ev
set_option linter.unusedVariables false
set_option maxRecDepth 10000
set_option linter.unusedSimpArgs false
theorem MQ {N:Nat} {cs rs:List D} {x1:Int} {x2:D} (hb:hasB cs x1=true) (hs:gG cs (ae x2)=true) (h4:(ae x2).length<=4): ∀ (n:Nat) (rows acc:List D),rows.length<n->vI cs rows->acc.length+rows.length<=5000->
  EG Tryz.prog Tryz.f46 N n (aX cs rs) x1 x2 rows acc=some (aL [37,4] (.agg [aX (dE x1 ((ae x2).length:Int)) (acc++uP cs (bC cs x1) (ae x2) rows.length rows),.lit (.bool true)]))
 |0,rows,acc,h,_,_=>by omega
 |n+1,[],acc,h,hm,hl=>by
  rw[yY]
  have g1:decide ((([]:List D).length:Int)>0)=false:=rfl
  have g2:(decide (0<=((ae x2).length:Int))&&decide (((ae x2).length:Int)<=1000))=true:=by simp only[Bool.and_eq_true,decide_eq_true_eq];omega
  rw[g1,g2,cond_false,cond_true]
  show _=some (aL [37,4] (.agg [aX (dE x1 ((ae x2).length:Int)) (acc++[]),.lit (.bool true)]))
  rw[List.append_nil]
  rfl
 |n+1,r::rows,acc,h,hm,hl=>by
  rw[yY]
  have hz:Lib.idxOf ((ae (af (aX cs rs) 0)).map intD) x1=bC cs x1:=rfl
  rw[hz]
  obtain⟨a,ha⟩: ∃ a,a=eU (r::rows) (bC cs x1):=⟨_,rfl⟩
  have a1:0<a:=by rw[ha];exact Jh _ _
  have a2:a<=(r::rows).length:=by rw[ha];exact VU _ (by simp)
  rw[<-ha]
  have g0:decide (((r::rows).length:Int)>0)=true:=by rw[decide_eq_true_eq];omega
  have g1:decide (0<(r::rows).length)=true:=by simp
  have g2:(decide (0<=(0:Int))&&decide ((0:Int)<=(a:Int))&&decide ((a:Int)<=((r::rows).length:Int)))=true:=by simp only[Bool.and_eq_true,decide_eq_true_eq];omega
  have g3:(decide (0<=(a:Int))&&decide ((a:Int)<=((r::rows).length:Int))&&decide (((r::rows).length:Int)<=((r::rows).length:Int)))=true:=by simp only[Bool.and_eq_true,decide_eq_true_eq];omega
  have e1:(List.drop ((0:Int):Int).toNat (r::rows)).take ((a:Int) - (0:Int)).toNat=(r::rows).take a:=by
   have:((a:Int) - (0:Int)).toNat=a:=by omega
   rw[this];rfl
  have e2:(List.drop ((a:Int):Int).toNat (r::rows)).take (((r::rows).length:Int) - (a:Int)).toNat=(r::rows).drop a:=by
   have:(((r::rows).length:Int) - (a:Int)).toNat=(r::rows).length - a:=by omega
   rw[this,Int.toNat_natCast]
   exact List.take_of_length_le (by rw[List.length_drop];omega)
  have hmt:vI cs ((r::rows).take a):=⟨hm.c,by have:=hm.n;rw[List.length_take];omega,fun x hx=>hm.l x (List.mem_of_mem_take hx),fun x hx=>hm.m x (List.mem_of_mem_take hx)⟩
  have hmd:vI cs ((r::rows).drop a):=⟨hm.c,by have:=hm.n;rw[List.length_drop];omega,fun x hx=>hm.l x (List.mem_of_mem_drop hx),fun x hx=>hm.m x (List.mem_of_mem_drop hx)⟩
  have g4:J7 (.agg [af (aX cs rs) 0,.slice ((r::rows).take a) []]) (bC cs x1) (ae x2)=true:=abo hb hs h4 (by rw[List.length_take];omega) hmt
  have g5:decide (acc.length+1<=2147483648)=true:=by rw[decide_eq_true_eq];omega
  simp only[e1,e2]
  rw[g0,g1,g2,g3,g4,g5]
  simp only[cond_true]
  have key:=MQ (N:=N) (rs:=rs) hb hs h4 n ((r::rows).drop a) (acc++[.slice (nz (aX cs ((r::rows).take a)) (bC cs x1) (ae x2)) []]) (by rw[List.length_drop];simp only[List.length_cons]at*;omega) hmd (by rw[List.length_drop];simp only[List.length_append,List.length_cons,List.length_nil]at*;omega)
  refine Eq.trans ?_ (key.trans ?_)
  ·rfl
  ·have f1:uP cs (bC cs x1) (ae x2) (r::rows).length (r::rows)=.slice (nz (aX cs ((r::rows).take a)) (bC cs x1) (ae x2)) []::uP cs (bC cs x1) (ae x2) ((r::rows).drop a).length ((r::rows).drop a):=by
    rw[List.length_cons,uP,<-ha,Oi cs (bC cs x1) (ae x2) rows.length ((r::rows).drop a).length ((r::rows).drop a) (by rw[List.length_drop];simp only[List.length_cons];omega) (Nat.le_refl _)]
    simp
   rw[f1]
   simp only[List.append_assoc,List.cons_append,List.nil_append]
theorem k46:FnOK Tryz.prog 46 Tryz.f46:=⟨Tryz.func46,rfl,by kernel_rfl⟩
theorem c46: ∀ args d,e46.2.2.2 args=some d->CallOK Tryz.prog 46 args (aj Tryz.prog 43 d):=
 O7 k46 fun x y z d h ⟨_,hx⟩ _ _=>by
  cases h
  rw[nB,n3,nI]
  obtain⟨cs,rs,rfl,h1,h2,h3,h4⟩:=tyB hx
  refine aI hm aax k46 ((t46 (rs.length+1) (aX cs rs) (intD y) z).trans ?_)
  rw[Ua]
  cases q1:bn (aX cs rs)with
  |false=>
   have:dO (aX cs rs) (intD y) (ae z)=false:=by unfold dO;rw[q1];rfl
   rw[eF,this];rfl
  |true=>
   cases q2:hasB cs (intD y)with
   |false=>
    have:dO (aX cs rs) (intD y) (ae z)=false:=by unfold dO;rw[q1,show aQ (aX cs rs)=cs from rfl,q2];rfl
    rw[eF,this,show ae (af (aX cs rs) 0)=cs from rfl,q2];rfl
   |true=>
    cases q3:gG cs (ae z)with
    |false=>
     have:dO (aX cs rs) (intD y) (ae z)=false:=by unfold dO;rw[q1,show aQ (aX cs rs)=cs from rfl,q2,q3];rfl
     rw[eF,this,show ae (af (aX cs rs) 0)=cs from rfl,q2,q3];rfl
    |true=>
     by_cases q4:(ae z).length<=4
     ·have hok:dO (aX cs rs) (intD y) (ae z)=true:=by
       unfold dO
       rw[q1,show aQ (aX cs rs)=cs from rfl,q2,q3]
       simpa using q4
      have g1:decide (((ae z).length:Int)>4)=false:=by rw[decide_eq_false_iff_not];omega
      have hmb:=AZ q1
      have hms:vI cs (dH (bC cs (intD y)) rs):=by
       have:=WW (bC cs (intD y)) cs rs
       rw[q1]at this
       exact AZ this
      have hlen:(dH (bC cs (intD y)) rs).length=rs.length:=eP rs
      rw[show ae (af (aX cs rs) 0)=cs from rfl,q2,q3,g1,Yq hmb]
      have key:=MQ (N:=rs.length+1) (rs:=rs) q2 q3 q4 (rs.length+1) (dH (bC cs (intD y)) rs) [] (by omega) hms (by have:=hmb.n;simp;omega)
      rw[hlen]at key
      rw[eF,hok]
      exact key
     ·have hok:dO (aX cs rs) (intD y) (ae z)=false:=by
       unfold dO
       rw[q1,show aQ (aX cs rs)=cs from rfl,q2,q3]
       simpa using q4
      have g1:decide (((ae z).length:Int)>4)=true:=by rw[decide_eq_true_eq];omega
      rw[eF,hok,show ae (af (aX cs rs) 0)=cs from rfl,q2,q3,g1]
      rfl
theorem ae7:EnvOK Tryz.prog (ak B6 H7 R3 []):=ah aax c46
theorem ZP:EnvOK Tryz.prog (ak B7 H7 R3 []):=ae7
end
section
open Go.Ev
set_option linter.unusedVariables false
/- slices.Equal[[]int,int] -/
def Tu:ay:=fun i=>if i=4 then some ([2,3,4,5,6,7,8,9,10,11,14,15,16,17,18,19,20,21,22,23,24,25],[],[])else none
def Ez (P:Program) (fn:Func) (N n:Nat) (x0:D) (x1:D) (v13:Int):Option AV:=aN (preL Tu (sub [1,1,0,1,0,0] (ag fn))) (az P (ak B7 H7 R3 []) Tu N (sub [1,1,0,1,0,0] (ag fn))) n ⟨[dat 28 x0,dat 28 x1,dead,dead,dead,dead,dead,dead,dead,dead,dead,dead,dat 3 (.lit (.int .i64 ((ae x0).length:Int))),dat 3 (.lit (.int .i64 v13)),dead,dead,dead,dead,dead,dead,dead,dead,dead,dead,dead,dead],aZ []⟩ (aG 0 (cZ P (ak B7 H7 R3 []) Tu N (sub [1,1,1] (ag fn)) (dJ P fn)))
theorem yX (N n:Nat) (x0:D) (x1:D) (v13:Int):Ez Tryz.prog Tryz.f67 N (n+1) x0 x1 v13=
 bif decide (v13<((ae x0).length:Int))then
  bif (decide (0<=v13)&&decide (v13<((ae x0).length:Int)))then
   bif (decide (0<=v13)&&decide (v13<((ae x1).length:Int)))then
    bif ((intD ((ae x0).getD (v13).toNat .nil))!=(intD ((ae x1).getD (v13).toNat .nil)))then
     some (dat 4 (.lit (.bool false)))
    else Ez Tryz.prog Tryz.f67 N n x0 x1 (IntKind.wrap .i64 (v13+1))
   else none
  else none
 else some (dat 4 (.lit (.bool true))):=by kernel_rfl
theorem t67 (N:Nat) (x0:D) (x1:D):aU Tryz.prog (ak B7 H7 R3 []) Tu N Tryz.f67 [dat 28 x0,dat 28 x1]=
 bif (((ae x0).length:Int)!=((ae x1).length:Int))then
  some (dat 4 (.lit (.bool false)))
 else Ez Tryz.prog Tryz.f67 N N x0 x1 0:=by kernel_rfl
end
section
open Go.Ev
set_option linter.unusedVariables false
/- roadbook/bag.meet$1 -/
def abl:ay:=fun _=>none
theorem afB (N:Nat) (x0:Int) (q:D):jP Tryz.prog (ak B2 [] [] []) abl N Tryz.f170 [dat 3 (.lit (.int .i64 x0)),bxp 1000000 28] [⟨28,q,0,none⟩]=
 some (dat 4 (.lit (.bool (hasB (ae q) x0))),[some ⟨28,q,0,none⟩]):=by kernel_rfl
end
section
open Go.Ev
set_option linter.unusedVariables false
set_option maxRecDepth 10000
def XZ:List AV:=[dat 3 .nil,bxp OID 28]
def En:List Ent:=[⟨28,.nil,0,none⟩]
def abz (ds hs:List D):Option D:=match ds,hs with
 | [x,_],[q]=>some (.lit (.bool (hasB (ae q) (intD x))))
 |_,_=>none
def ag5:FuncId×TypeId×(List AV->List Ent->Bool)×(List AV->List Ent->Option D):=(170,4,fD XZ En (fun _ _=>true),TV XZ En abz)
theorem ae3:FnOK Tryz.prog 170 Tryz.f170:=⟨Tryz.func170,rfl,by kernel_rfl⟩
theorem Yx: ∀ args hp d,fD XZ En (fun _ _=>true) args hp=true->TV XZ En abz args hp=some d->HCallOK Tryz.prog 170 args hp (aj Tryz.prog 4 d) (hp.map some):=by
 refine Rz rfl rfl fun ds es d _ hd=>?_
 unfold abz at hd
 split at hd
 ·rename_i x z q
  cases hd
  refine HCallOK.typed ae3.ex fun ht _=>?_
  obtain⟨n,hn⟩:=ht (dat 3 x) (by simp[fA,XZ,dat,bxp]) rfl
  obtain⟨w,rfl,_⟩:=iC hn
  rw[m4]
  exact gZ hm qX ae3 (afB 1 w q)
 ·cases hd
def RM:RTab:=[ag5]
theorem XC:EnvOK Tryz.prog (ak B2 [] RM []):=Dv qX Yx
end
section
open Go.Ev
set_option linter.unusedVariables false
/- slices.IndexFunc[[]int,int] -/
def La:ay:=fun i=>if i=2 then some ([2,3,4,5,6,9,10,11,12,13,14,15,16,17,18],[1000000],[])else none
def Aq (P:Program) (fn:Func) (N n:Nat) (x0:D) (q:D) (v8:Int):Option (AV×List (Option Ent)):=aN (preL La (sub [1,0,1,0,0] (ag fn))) (az P (ak B2 [] RM []) La N (sub [1,0,1,0,0] (ag fn))) n ⟨[dat 28 x0,clo 132 170 [1000000],dead,dead,dead,dead,dead,dat 3 (.lit (.int .i64 ((ae x0).length:Int))),dat 3 (.lit (.int .i64 v8)),dead,dead,dead,dead,dead,dead,dead,dead,dead,dead],aZ [(1000000,some ⟨28,q,0,none⟩)]⟩ (aG 0 (cZ P (ak B2 [] RM []) La N (sub [1,1] (ag fn)) (qA P fn 1)))
theorem Io (N n:Nat) (x0:D) (q:D) (v8:Int):Aq Tryz.prog Tryz.f194 N (n+1) x0 q v8=
 bif decide (v8<((ae x0).length:Int))then
  bif (decide (0<=v8)&&decide (v8<((ae x0).length:Int)))then
   bif hasB (ae q) (intD ((ae x0).getD (v8).toNat .nil))then
    some (dat 3 (.lit (.int .i64 v8)),[some ⟨28,q,0,none⟩])
   else Aq Tryz.prog Tryz.f194 N n x0 q (IntKind.wrap .i64 (v8+1))
  else none
 else some (dat 3 (.lit (.int .i64 (-1))),[some ⟨28,q,0,none⟩]):=by kernel_rfl
theorem t194 (N:Nat) (x0:D) (q:D):jP Tryz.prog (ak B2 [] RM []) La N Tryz.f194 [dat 28 x0,clo 132 170 [1000000]] [⟨28,q,0,none⟩]=
 Aq Tryz.prog Tryz.f194 N N x0 q 0:=by kernel_rfl
end
section
open Go.Ev
set_option linter.unusedVariables false
set_option maxRecDepth 10000
theorem OW {N:Nat} {x0 q:D} (hl:(ae x0).length<=maxLen): ∀ (n i:Nat),i<=(ae x0).length->(ae x0).length - i<n->
  Aq Tryz.prog Tryz.f194 N n x0 q (i:Int)=some (dat 3 (.lit (.int .i64 (wF (ae q) ((ae x0).drop i) i))),[some ⟨28,q,0,none⟩])
 |0,i,_,h=>by omega
 |n+1,i,hi,h=>by
  rw[Io]
  by_cases hlt:i<(ae x0).length
  ·rw[bG hlt,eY hlt,cond_true,cond_true,Int.toNat_natCast,dA hlt,fE hl hlt,OW hl n (i+1) (by omega) (by omega),List.drop_eq_getElem_cons hlt]
   have e1:wF (ae q) ((ae x0)[i]::(ae x0).drop (i+1)) i=bif hasB (ae q) (intD (ae x0)[i])then(i:Int)else wF (ae q) ((ae x0).drop (i+1)) (i+1):=rfl
   rw[e1]
   cases hasB (ae q) (intD (ae x0)[i])<;>rfl
  ·rw[fB hlt,cond_false,List.drop_of_length_le (by omega)]
   rfl
def a194:List AV:=[dat 28 .nil,clo 132 170 [OID]]
def aa6 (ds hs:List D):Option (AV×List (Option Ent)):=match ds,hs with
 | [x,_],[q]=>some (dat 3 (.lit (.int .i64 (wF (ae q) (ae x) 0))),[some ⟨28,q,0,none⟩])
 |_,_=>none
def ac9:FuncId×TypeId×(List AV->List Ent->Bool)×(List AV->List Ent->Option (AV×List (Option Ent))):=(194,3,fD a194 En (fun _ _=>true),iZ a194 En aa6)
theorem adU:FnOK Tryz.prog 194 Tryz.f194:=⟨Tryz.func194,rfl,by kernel_rfl⟩
theorem c194: ∀ args hh r h',fD a194 En (fun _ _=>true) args hh=true->iZ a194 En aa6 args hh=some (r,h')->HCallOK Tryz.prog 194 args hh r h':=by
 refine fV rfl rfl fun ds es r h' _ hd=>?_
 unfold aa6 at hd
 split at hd
 ·rename_i x z q
  cases hd
  refine HCallOK.typedR adU.ex fun ht hb _=>?_
  obtain⟨_,t1⟩:=ht (dat 28 x) (by simp[fA,a194,dat,clo]) rfl
  have hl:(ae x).length<=maxLen:=UZ t1
  exact gZ hm XC adU ((t194 ((ae x).length+1) x q).trans (OW hl ((ae x).length+1) 0 (Nat.zero_le _) (by omega)))
 ·cases hd
def HM1:uQ:=[ac9]
theorem abq:EnvOK Tryz.prog (ak B2 HM1 RM []):=bJ XC c194
end
section
open Go.Ev
set_option linter.unusedVariables false
/- slices.ContainsFunc[[]int,int] -/
def abG:ay:=fun _=>none
theorem afQ (N:Nat) (x0:D) (q:D):jP Tryz.prog (ak B2 HM1 RM []) abG N Tryz.f169 [dat 28 x0,clo 132 170 [1000000]] [⟨28,q,0,none⟩]=
 some (dat 4 (.lit (.bool (decide ((wF (ae q) (ae x0) 0)>=0)))),[some ⟨28,q,0,none⟩]):=by kernel_rfl
end
section
open Go.Ev
set_option linter.unusedVariables false
set_option maxRecDepth 10000
def acl (ds hs:List D):Option (AV×List (Option Ent)):=match ds,hs with
 | [x,_],[q]=>some (dat 4 (.lit (.bool (qj (ae q) (ae x)))),[some ⟨28,q,0,none⟩])
 |_,_=>none
def ahp:FuncId×TypeId×(List AV->List Ent->Bool)×(List AV->List Ent->Option (AV×List (Option Ent))):=(169,4,fD a194 En (fun _ _=>true),iZ a194 En acl)
theorem agZ:FnOK Tryz.prog 169 Tryz.f169:=⟨Tryz.func169,rfl,by kernel_rfl⟩
theorem aht: ∀ args hh r h',fD a194 En (fun _ _=>true) args hh=true->iZ a194 En acl args hh=some (r,h')->HCallOK Tryz.prog 169 args hh r h':=by
 refine fV rfl rfl fun ds es r h' _ hd=>?_
 unfold acl at hd
 split at hd
 ·rename_i x z q
  cases hd
  have:=afQ 1 x q
  rw[Ro]at this
  exact gZ hm abq agZ this
 ·cases hd
def HM2:uQ:=[ac9,ahp]
theorem acF:EnvOK Tryz.prog (ak B2 HM2 RM []):=bJ (bJ XC aht) c194
end
section
open Go.Ev
set_option linter.unusedVariables false
/- roadbook/bag.meet -/
def ab5:ay:=fun _=>none
theorem ag4 (N:Nat) (x0:D) (x1:D):aU Tryz.prog (ak B2 HM2 RM []) ab5 N Tryz.f136 [dat 28 x0,dat 28 x1]=
 some (dat 4 (.lit (.bool (qj (ae x0) (ae x1))))):=by kernel_rfl
end
section
namespace Dn
open Go.Ev
set_option linter.unusedVariables false
/- roadbook/data.below -/
def Qx:ay:=fun _=>none
theorem t124 (N:Nat) (x0:Int) (x1:Int):aU Tryz.prog (ak B2 [] [] []) Qx N Tryz.f124 [dat 3 (.lit (.int .i64 x0)),dat 3 (.lit (.int .i64 x1))]=
 bif ((decide (x0>=0))==true)then
  some (dat 4 (.lit (.bool (decide (x0<x1)))))
 else some (dat 4 (.lit (.bool false))):=by kernel_rfl
/- roadbook/data.orZero -/
def PL:ay:=fun _=>none
theorem t127 (N:Nat) (x0:D):aU Tryz.prog (ak B2 [] [] []) PL N Tryz.f127 [dat 111 x0]=
 bif ((decide ((intD (af x0 0))<1))==false)then
  bif ((decide ((intD (af x0 0))>4))==false)then
   bif ((decide ((intD (af x0 1))<1))==false)then
    bif decide ((intD (af x0 1))>1000000)then
     some (dat 111 (.agg [.lit (.int .i64 0),.lit (.int .i64 0)]))
    else some (dat 111 x0)
   else some (dat 111 (.agg [.lit (.int .i64 0),.lit (.int .i64 0)]))
  else some (dat 111 (.agg [.lit (.int .i64 0),.lit (.int .i64 0)]))
 else some (dat 111 (.agg [.lit (.int .i64 0),.lit (.int .i64 0)])):=by kernel_rfl
/- roadbook/roadbooklaw04.Two -/
def VN:ay:=fun _=>none
theorem t34 (N:Nat):aU Tryz.prog (ak B2 [] [] []) VN N Tryz.f34 []=
 some (aL [24,27] (.agg [.agg [.slice [.agg [.lit (.int .i64 2),.lit (.int .i64 100)],.agg [.lit (.int .i64 1),.lit (.int .i64 10)]] []],.agg [.slice [.slice [.slice [.agg [.lit (.int .i64 0),.lit (.int .i64 1)],.agg [.lit (.int .i64 0),.lit (.int .i64 2)]] [],.slice [.agg [.lit (.int .i64 0),.lit (.int .i64 3)],.agg [.lit (.int .i64 0),.lit (.int .i64 4)]] []] [],.slice [.slice [.agg [.lit (.int .i64 0),.lit (.int .i64 4)]] []] []] []]])):=by kernel_rfl
/- roadbook/roadbooklaw04.few -/
def aip:ay:=fun i=>if i=3 then some ([0,2,5,6,7,8,9,10,11,12,13,14,15,16,17,18,19,20,21,22,23,24,25,26,27,28,29,30,31,32,33,34,35,36,37,38,39,40,41,42,43,44,45,46,47,48,49,50],[1],[])else if i=7 then some ([0,2,6,7,8,9,10,11,12,13,14,15,16,17,18,19,20,21,22,23,24,25,26,27,28,29,30,31,32,33,34,35,36,37,38,39,40,41,42,43,44,45,46,47,48,49,50],[1],[])else none
def aiw (P:Program) (fn:Func) (N n:Nat) (x0:D) (v3:Bool) (v4:Int):Option AV:=aN (preL aip (sub [1,1,0,1,0,0] (ag fn))) (az P (ak B2 [] [] []) aip N (sub [1,1,0,1,0,0] (ag fn))) n ⟨[dead,bxp 1 27,dead,dat 4 (.lit (.bool v3)),dat 3 (.lit (.int .i64 v4)),dead,dead,dead,dead,dead,dead,dead,dead,dead,dead,dead,dead,dead,dead,dead,dead,dead,dead,dead,dead,dead,dead,dead,dead,dead,dead,dead,dead,dead,dead,dead,dead,dead,dead,dead,dead,dead,dead,dead,dead,dead,dead,dead,dead,dead,dead],aZ [(1,some ⟨27,x0,0,none⟩)]⟩ (aG 0 (cZ P (ak B2 [] [] []) aip N (sub [1,1,1] (ag fn)) (dJ P fn)))
def aiX (P:Program) (fn:Func) (N n:Nat) (x0:D) (v3:Bool) (v4:Int) (m0:Nat) (v3q:Bool) (v5:Int):Option AV:=aN (preL aip (sub [1,1,0,1,0,0,1,0,0,1,1,0,0] (ag fn))) (az P (ak B2 [] [] []) aip N (sub [1,1,0,1,0,0,1,0,0,1,1,0,0] (ag fn))) n ⟨[dead,bxp 1 27,dead,dat 4 (.lit (.bool v3q)),dat 3 (.lit (.int .i64 v4)),dat 3 (.lit (.int .i64 v5)),dead,dead,dead,dead,dead,dead,dead,dead,dead,dead,dead,dead,dead,dead,dead,dead,dead,dead,dead,dead,dead,dead,dead,dead,dead,dead,dead,dead,dead,dead,dead,dead,dead,dead,dead,dead,dead,dead,dead,dead,dead,dead,dead,dead,dead],aZ [(1,some ⟨27,x0,0,none⟩)]⟩ (aG 2 (aG 1 (cZ P (ak B2 [] [] []) aip N (sub [1,1,0,1,0,0,1,1] (ag fn)) (Nb (fun s=>aN (preL aip (sub [1,1,0,1,0,0] (ag fn))) (az P (ak B2 [] [] []) aip N (sub [1,1,0,1,0,0] (ag fn))) m0 ((preL aip (sub [1,1,0,1,0,0] (ag fn))) s) (aG 0 (cZ P (ak B2 [] [] []) aip N (sub [1,1,1] (ag fn)) (dJ P fn)))) (aG 0 (cZ P (ak B2 [] [] []) aip N (sub [1,1,1] (ag fn)) (dJ P fn)))))))
theorem ajH (N n:Nat) (x0:D) (v3:Bool) (v4:Int) (m0:Nat) (v3q:Bool) (v5:Int):aiX Tryz.prog Tryz.f87 N (n+1) x0 v3 v4 m0 v3q v5=
 bif (decide (0<=v4)&&decide (v4<((ae (af x0 0)).length:Int)))then
  bif ((decide (v5<((ae ((ae (af x0 0)).getD (v4).toNat .nil)).length:Int)))==true)then
   bif v3q then
    bif (decide (0<=v4)&&decide (v4<((ae (af x0 0)).length:Int)))then
     bif (decide (0<=v5)&&decide (v5<((ae ((ae (af x0 0)).getD (v4).toNat .nil)).length:Int)))then
      aiX Tryz.prog Tryz.f87 N n x0 v3 v4 m0 (decide (((ae ((ae ((ae (af x0 0)).getD (v4).toNat .nil)).getD (v5).toNat .nil)).length:Int)<=20)) (IntKind.wrap .i64 (v5+1))
     else none
    else none
   else aiw Tryz.prog Tryz.f87 N m0 x0 v3q (IntKind.wrap .i64 (v4+1))
  else aiw Tryz.prog Tryz.f87 N m0 x0 v3q (IntKind.wrap .i64 (v4+1))
 else none:=by kernel_rfl
theorem ajE (N n:Nat) (x0:D) (v3:Bool) (v4:Int):aiw Tryz.prog Tryz.f87 N (n+1) x0 v3 v4=
 bif ((decide (v4<((ae (af x0 0)).length:Int)))==true)then
  bif v3 then
   bif (decide (0<=v4)&&decide (v4<((ae (af x0 0)).length:Int)))then
    aiX Tryz.prog Tryz.f87 N N x0 v3 v4 n (decide (((ae ((ae (af x0 0)).getD (v4).toNat .nil)).length:Int)<=20)) 0
   else none
  else some (dat 4 (.lit (.bool v3)))
 else some (dat 4 (.lit (.bool v3))):=by kernel_rfl
theorem t87 (N:Nat) (x0:D):aU Tryz.prog (ak B2 [] [] []) aip N Tryz.f87 [dat 27 x0]=
 aiw Tryz.prog Tryz.f87 N N x0 (decide (((ae (af x0 0)).length:Int)<=10)) 0:=by kernel_rfl
/- roadbook/roadbookref04.May -/
theorem t81 (x1 x2:D):aU Tryz.prog (ak B2 [] [] []) (fun _=>none) 2 Tryz.f81 [dat 29 (.slice [] []),dat 28 x1,dat 67 x2]=some (dat 4 (.lit (.bool true))):=by kernel_rfl
end Dn
end
end Go.Proofs.YtpceahbengfjeaaGreatDoor
