/- Trees of functions, and lemmas. Nothing here is trusted. -/
import Derived.Test.YtpceahbengfjeaaGreatDoorZ25
import Derived.Test.YtpceahbengfjeaaGreatDoorZ21
namespace Go.Proofs.YtpceahbengfjeaaGreatDoor
open Go.Ev
set_option linter.unusedVariables false
/- slices.symMergeCmpFunc[roadbook/bag.ranked] -/
def ig:ay:=fun i=>if i=3 then some ([2,3,5,6,7,8,9,12,13,14,15,16,17,18,19,20,21,22,23,24,25,26,27,28,29,30,31,32,33,34,35,36,37,38,39,40,41,42,43,44,45,46,47,48,49,50,51,52,53,54,55,56,57,58,59,60,61,62,63,64,65,66,67,68,69,70,71,72,73,74,75,76,77,78,79,80,81,82,83,84,85,86,87,88,89,90,91,92,93,94,95,96,97,98,99,100,101,102,103,104,105,106,107,108,109,110,111,112,113,114,115,116,117,118,119,120,121,122,123,124,125,126,127,128,129,130,131,132,133,134,135,136,137,138,139,140,141,142,143,144,145,146,147,148,149,150,151,152,153,154,155,156,157,158,159,160,161,162,163,164,165,166,167,168,169,170,171,172,173,174,175,176,177,178,179,180,181,182,183,184,185,186,187,188,189,190,191,192,193,194,195,196,197,198,199,200,201,202,203,204,205,206,207,208,209,210,211,212,213,214,215,216,217,218,219],[1000000],[])else if i=9 then some ([1,2,3,4,5,6,7,8,9,11,12,14,15,16,17,18,19,20,21,22,23,24,25,26,27,28,29,30,31,32,33,34,35,36,37,38,39,40,41,42,43,44,45,46,47,48,49,50,51,52,53,54,55,56,57,58,59,60,61,62,63,64,65,66,67,68,69,70,71,72,73,74,75,76,77,78,79,80,81,82,83,84,85,86,87,88,89,90,91,92,93,94,95,96,97,98,99,100,101,102,103,104,105,106,107,108,109,110,111,112,113,114,115,116,117,118,119,120,121,122,123,124,125,126,127,128,129,130,131,132,133,134,135,136,137,138,139,140,141,142,143,144,145,146,147,148,149,150,151,152,153,154,155,156,157,158,159,160,161,162,163,164,165,166,167,168,169,170,171,172,173,174,175,176,177,178,179,180,181,182,183,184,185,186,187,188,189,190,191,192,193,194,195,196,197,198,199,200,201,202,203,204,205,206,207,208,209,210,211,212,213,214,215,216,217,218,219],[1000000],[])else if i=15 then some ([1,3,5,6,7,8,9,10,11,12,13,16,17,18,19,20,21,22,23,24,25,26,27,28,29,30,31,32,33,34,35,36,37,38,39,40,41,42,43,44,45,46,47,48,49,50,51,52,53,54,55,56,57,58,59,60,61,62,63,64,65,66,67,68,69,70,71,72,73,74,75,76,77,78,79,80,81,82,83,84,85,86,87,88,89,90,91,92,93,94,95,96,97,98,99,100,101,102,103,104,105,106,107,108,109,110,111,112,113,114,115,116,117,118,119,120,121,122,123,124,125,126,127,128,129,130,131,132,133,134,135,136,137,138,139,140,141,142,143,144,145,146,147,148,149,150,151,152,153,154,155,156,157,158,159,160,161,162,163,164,165,166,167,168,169,170,171,172,173,174,175,176,177,178,179,180,181,182,183,184,185,186,187,188,189,190,191,192,193,194,195,196,197,198,199,200,201,202,203,204,205,206,207,208,209,210,211,212,213,214,215,216,217,218,219],[1000000],[])else if i=21 then some ([1,2,3,4,5,6,7,8,9,10,11,12,13,15,16,18,19,20,21,22,23,24,25,26,27,28,29,30,31,32,33,34,35,36,37,38,39,40,41,42,43,44,45,46,47,48,49,50,51,52,53,54,55,56,57,58,59,60,61,62,63,64,65,66,67,68,69,70,71,72,73,74,75,76,77,78,79,80,81,82,83,84,85,86,87,88,89,90,91,92,93,94,95,96,97,98,99,100,101,102,103,104,105,106,107,108,109,110,111,112,113,114,115,116,117,118,119,120,121,122,123,124,125,126,127,128,129,130,131,132,133,134,135,136,137,138,139,140,141,142,143,144,145,146,147,148,149,150,151,152,153,154,155,156,157,158,159,160,161,162,163,164,165,166,167,168,169,170,171,172,173,174,175,176,177,178,179,180,181,182,183,184,185,186,187,188,189,190,191,192,193,194,195,196,197,198,199,200,201,202,203,204,205,206,207,208,209,210,211,212,213,214,215,216,217,218,219],[1000000],[])else if i=33 then some ([5,6,7,8,9,10,11,12,13,14,15,16,17,23,24,25,26,27,28,29,30,31,32,33,34,35,36,37,38,39,40,41,42,43,44,45,46,47,48,49,50,51,52,53,54,55,56,57,58,59,60,61,62,63,64,65,66,67,68,69,70,71,72,73,74,75,76,77,78,79,80,81,82,83,84,85,86,87,88,89,90,91,92,93,94,95,96,97,98,99,100,101,102,103,104,105,106,107,108,109,110,111,112,113,114,115,116,117,118,119,120,121,122,123,124,125,126,127,128,129,130,131,132,133,134,135,136,137,138,139,140,141,142,143,144,145,146,147,148,149,150,151,152,153,154,155,156,157,158,159,160,161,162,163,164,165,166,167,168,169,170,171,172,173,174,175,176,177,178,179,180,181,182,183,184,185,186,187,188,189,190,191,192,193,194,195,196,197,198,199,200,201,202,203,204,205,206,207,208,209,210,211,212,213,214,215,216,217,218,219],[1000000],[])else none
def lu (P:Program) (fn:Func) (K:Nat) (N n:Nat) (x1:Int) (x2:Int) (x3:Int) (es:List D) (v10:Int) (v11:Int):Option (AV×List (Option Ent)):=aN (preL ig (sub [0,1,0,1,1,0,0,0] (ag fn))) (az P (ak B3 (H5 K) R3 []) ig N (sub [0,1,0,1,1,0,0,0] (ag fn))) n ⟨[bxp 1000000 88,dat 3 (.lit (.int .i64 x1)),dead,dead,dat 96 (.held (.func (.func 63) #[] #[])),dead,dead,dead,dead,dead,dat 3 (.lit (.int .i64 v10)),dat 3 (.lit (.int .i64 v11)),dead,dead,dead,dead,dead,dead,dead,dead,dead,dead,dead,dead,dead,dead,dead,dead,dead,dead,dead,dead,dead,dead,dead,dead,dead,dead,dead,dead,dead,dead,dead,dead,dead,dead,dead,dead,dead,dead,dead,dead,dead,dead,dead,dead,dead,dead,dead,dead,dead,dead,dead,dead,dead,dead,dead,dead,dead,dead,dead,dead,dead,dead,dead,dead,dead,dead,dead,dead,dead,dead,dead,dead,dead,dead,dead,dead,dead,dead,dead,dead,dead,dead,dead,dead,dead,dead,dead,dead,dead,dead,dead,dead,dead,dead,dead,dead,dead,dead,dead,dead,dead,dead,dead,dead,dead,dead,dead,dead,dead,dead,dead,dead,dead,dead,dead,dead,dead,dead,dead,dead,dead,dead,dead,dead,dead,dead,dead,dead,dead,dead,dead,dead,dead,dead,dead,dead,dead,dead,dead,dead,dead,dead,dead,dead,dead,dead,dead,dead,dead,dead,dead,dead,dead,dead,dead,dead,dead,dead,dead,dead,dead,dead,dead,dead,dead,dead,dead,dead,dead,dead,dead,dead,dead,dead,dead,dead,dead,dead,dead,dead,dead,dead,dead,dead,dead,dead,dead,dead,dead,dead,dead,dead,dead,dead,dead,dead,dead,dead,dead,dead,dead,dead,dead,dead,dead,dead,dead,dead],aZ [(1000000,some ⟨88,.slice es [],3,none⟩)]⟩ (aG 0 (cZ P (ak B3 (H5 K) R3 []) ig N (sub [0,1,0,1,1,1] (ag fn)) (cZ P (ak B3 (H5 K) R3 []) ig N (sub [1] (ag fn)) (qA P fn 1))))
def rZ (P:Program) (fn:Func) (K:Nat) (N n:Nat) (x1:Int) (x2:Int) (x3:Int) (es:List D) (v10:Int) (v11:Int) (m0:Nat) (v13:Int) (b1000000:List D):Option (AV×List (Option Ent)):=aN (preL ig (sub [0,1,0,1,1,1,0,1,0,0] (ag fn))) (az P (ak B3 (H5 K) R3 []) ig N (sub [0,1,0,1,1,1,0,1,0,0] (ag fn))) n ⟨[bxp 1000000 88,dead,dead,dead,dead,dead,dead,dead,dead,dead,dat 3 (.lit (.int .i64 v10)),dead,dead,dat 3 (.lit (.int .i64 v13)),dead,dead,dead,dead,dead,dead,dead,dead,dead,dead,dead,dead,dead,dead,dead,dead,dead,dead,dead,dead,dead,dead,dead,dead,dead,dead,dead,dead,dead,dead,dead,dead,dead,dead,dead,dead,dead,dead,dead,dead,dead,dead,dead,dead,dead,dead,dead,dead,dead,dead,dead,dead,dead,dead,dead,dead,dead,dead,dead,dead,dead,dead,dead,dead,dead,dead,dead,dead,dead,dead,dead,dead,dead,dead,dead,dead,dead,dead,dead,dead,dead,dead,dead,dead,dead,dead,dead,dead,dead,dead,dead,dead,dead,dead,dead,dead,dead,dead,dead,dead,dead,dead,dead,dead,dead,dead,dead,dead,dead,dead,dead,dead,dead,dead,dead,dead,dead,dead,dead,dead,dead,dead,dead,dead,dead,dead,dead,dead,dead,dead,dead,dead,dead,dead,dead,dead,dead,dead,dead,dead,dead,dead,dead,dead,dead,dead,dead,dead,dead,dead,dead,dead,dead,dead,dead,dead,dead,dead,dead,dead,dead,dead,dead,dead,dead,dead,dead,dead,dead,dead,dead,dead,dead,dead,dead,dead,dead,dead,dead,dead,dead,dead,dead,dead,dead,dead,dead,dead,dead,dead,dead,dead,dead,dead,dead,dead,dead,dead,dead,dead,dead,dead,dead,dead,dead,dead],aZ [(1000000,some ⟨88,.slice b1000000 [],3,none⟩)]⟩ (aG 2 (cZ P (ak B3 (H5 K) R3 []) ig N (sub [0,1,0,1,1,1,1] (ag fn)) (cZ P (ak B3 (H5 K) R3 []) ig N (sub [1] (ag fn)) (qA P fn 1))))
theorem IC (K:Nat) (N n:Nat) (x1:Int) (x2:Int) (x3:Int) (es:List D) (v10:Int) (v11:Int) (m0:Nat) (v13:Int) (b1000000:List D):rZ Tryz.prog Tryz.f155 K N (n+1) x1 x2 x3 es v10 v11 m0 v13 b1000000=
 bif decide (v13<(IntKind.wrap .i64 (v10 - 1)))then
  bif (decide (0<=(IntKind.wrap .i64 (v13+1)))&&decide ((IntKind.wrap .i64 (v13+1))<(b1000000.length:Int)))then
   bif (decide (0<=v13)&&decide (v13<(b1000000.length:Int)))then
    bif (decide (0<=v13)&&decide (v13<(b1000000.length:Int)))then
     bif (decide (0<=(IntKind.wrap .i64 (v13+1)))&&decide ((IntKind.wrap .i64 (v13+1))<((b1000000.set (v13).toNat (b1000000.getD (IntKind.wrap .i64 (v13+1)).toNat .nil)).length:Int)))then
      rZ Tryz.prog Tryz.f155 K N n x1 x2 x3 es v10 v11 m0 (IntKind.wrap .i64 (v13+1)) ((b1000000.set (v13).toNat (b1000000.getD (IntKind.wrap .i64 (v13+1)).toNat .nil)).set (IntKind.wrap .i64 (v13+1)).toNat (b1000000.getD (v13).toNat .nil))
     else none
    else none
   else none
  else none
 else some (aL [] (.agg []),[some ⟨88,.slice b1000000 [],3,none⟩]):=by kernel_rfl
theorem xB (K:Nat) (N n:Nat) (x1:Int) (x2:Int) (x3:Int) (es:List D) (v10:Int) (v11:Int):lu Tryz.prog Tryz.f155 K N (n+1) x1 x2 x3 es v10 v11=
 bif decide (v10<v11)then
  bif (decide (0<=(IntKind.wrap .i64 (Int.fdiv (IntKind.wrap .u64 (IntKind.wrap .i64 (v10+v11))) (2 ^ min (1:Int).toNat (IntKind.bits .u64)))))&&decide ((IntKind.wrap .i64 (Int.fdiv (IntKind.wrap .u64 (IntKind.wrap .i64 (v10+v11))) (2 ^ min (1:Int).toNat (IntKind.bits .u64))))<(es.length:Int)))then
   bif (decide (0<=x1)&&decide (x1<(es.length:Int)))then
    bif decide ((fH (af (es.getD (IntKind.wrap .i64 (Int.fdiv (IntKind.wrap .u64 (IntKind.wrap .i64 (v10+v11))) (2 ^ min (1:Int).toNat (IntKind.bits .u64)))).toNat .nil) 0) (af (es.getD (x1).toNat .nil) 0))<0)then
     lu Tryz.prog Tryz.f155 K N n x1 x2 x3 es (IntKind.wrap .i64 ((IntKind.wrap .i64 (Int.fdiv (IntKind.wrap .u64 (IntKind.wrap .i64 (v10+v11))) (2 ^ min (1:Int).toNat (IntKind.bits .u64))))+1)) v11
    else lu Tryz.prog Tryz.f155 K N n x1 x2 x3 es v10 (IntKind.wrap .i64 (Int.fdiv (IntKind.wrap .u64 (IntKind.wrap .i64 (v10+v11))) (2 ^ min (1:Int).toNat (IntKind.bits .u64))))
   else none
  else none
 else rZ Tryz.prog Tryz.f155 K N N x1 x2 x3 es v10 v11 n x1 es:=by kernel_rfl
def jI (P:Program) (fn:Func) (K:Nat) (N n:Nat) (x1:Int) (x2:Int) (x3:Int) (es:List D) (v14:Int) (v15:Int):Option (AV×List (Option Ent)):=aN (preL ig (sub [1,0,1,0,1,1,0,0,0] (ag fn))) (az P (ak B3 (H5 K) R3 []) ig N (sub [1,0,1,0,1,1,0,0,0] (ag fn))) n ⟨[bxp 1000000 88,dead,dat 3 (.lit (.int .i64 x2)),dead,dat 96 (.held (.func (.func 63) #[] #[])),dead,dead,dead,dead,dead,dead,dead,dead,dead,dat 3 (.lit (.int .i64 v14)),dat 3 (.lit (.int .i64 v15)),dead,dead,dead,dead,dead,dead,dead,dead,dead,dead,dead,dead,dead,dead,dead,dead,dead,dead,dead,dead,dead,dead,dead,dead,dead,dead,dead,dead,dead,dead,dead,dead,dead,dead,dead,dead,dead,dead,dead,dead,dead,dead,dead,dead,dead,dead,dead,dead,dead,dead,dead,dead,dead,dead,dead,dead,dead,dead,dead,dead,dead,dead,dead,dead,dead,dead,dead,dead,dead,dead,dead,dead,dead,dead,dead,dead,dead,dead,dead,dead,dead,dead,dead,dead,dead,dead,dead,dead,dead,dead,dead,dead,dead,dead,dead,dead,dead,dead,dead,dead,dead,dead,dead,dead,dead,dead,dead,dead,dead,dead,dead,dead,dead,dead,dead,dead,dead,dead,dead,dead,dead,dead,dead,dead,dead,dead,dead,dead,dead,dead,dead,dead,dead,dead,dead,dead,dead,dead,dead,dead,dead,dead,dead,dead,dead,dead,dead,dead,dead,dead,dead,dead,dead,dead,dead,dead,dead,dead,dead,dead,dead,dead,dead,dead,dead,dead,dead,dead,dead,dead,dead,dead,dead,dead,dead,dead,dead,dead,dead,dead,dead,dead,dead,dead,dead,dead,dead,dead,dead,dead,dead,dead,dead,dead,dead,dead,dead,dead,dead,dead,dead,dead,dead,dead],aZ [(1000000,some ⟨88,.slice es [],3,none⟩)]⟩ (aG 4 (cZ P (ak B3 (H5 K) R3 []) ig N (sub [1,0,1,0,1,1,1] (ag fn)) (cZ P (ak B3 (H5 K) R3 []) ig N (sub [1,1] (ag fn)) (qA P fn 1))))
def o9 (P:Program) (fn:Func) (K:Nat) (N n:Nat) (x1:Int) (x2:Int) (x3:Int) (es:List D) (v14:Int) (v15:Int) (m0:Nat) (v17:Int) (b1000000:List D):Option (AV×List (Option Ent)):=aN (preL ig (sub [1,0,1,0,1,1,1,0,1,0,0] (ag fn))) (az P (ak B3 (H5 K) R3 []) ig N (sub [1,0,1,0,1,1,1,0,1,0,0] (ag fn))) n ⟨[bxp 1000000 88,dead,dead,dead,dead,dead,dead,dead,dead,dead,dead,dead,dead,dead,dat 3 (.lit (.int .i64 v14)),dead,dead,dat 3 (.lit (.int .i64 v17)),dead,dead,dead,dead,dead,dead,dead,dead,dead,dead,dead,dead,dead,dead,dead,dead,dead,dead,dead,dead,dead,dead,dead,dead,dead,dead,dead,dead,dead,dead,dead,dead,dead,dead,dead,dead,dead,dead,dead,dead,dead,dead,dead,dead,dead,dead,dead,dead,dead,dead,dead,dead,dead,dead,dead,dead,dead,dead,dead,dead,dead,dead,dead,dead,dead,dead,dead,dead,dead,dead,dead,dead,dead,dead,dead,dead,dead,dead,dead,dead,dead,dead,dead,dead,dead,dead,dead,dead,dead,dead,dead,dead,dead,dead,dead,dead,dead,dead,dead,dead,dead,dead,dead,dead,dead,dead,dead,dead,dead,dead,dead,dead,dead,dead,dead,dead,dead,dead,dead,dead,dead,dead,dead,dead,dead,dead,dead,dead,dead,dead,dead,dead,dead,dead,dead,dead,dead,dead,dead,dead,dead,dead,dead,dead,dead,dead,dead,dead,dead,dead,dead,dead,dead,dead,dead,dead,dead,dead,dead,dead,dead,dead,dead,dead,dead,dead,dead,dead,dead,dead,dead,dead,dead,dead,dead,dead,dead,dead,dead,dead,dead,dead,dead,dead,dead,dead,dead,dead,dead,dead,dead,dead,dead,dead,dead,dead,dead,dead,dead,dead,dead,dead],aZ [(1000000,some ⟨88,.slice b1000000 [],3,none⟩)]⟩ (aG 6 (cZ P (ak B3 (H5 K) R3 []) ig N (sub [1,0,1,0,1,1,1,1] (ag fn)) (cZ P (ak B3 (H5 K) R3 []) ig N (sub [1,1] (ag fn)) (qA P fn 1))))
theorem Gy (K:Nat) (N n:Nat) (x1:Int) (x2:Int) (x3:Int) (es:List D) (v14:Int) (v15:Int) (m0:Nat) (v17:Int) (b1000000:List D):o9 Tryz.prog Tryz.f155 K N (n+1) x1 x2 x3 es v14 v15 m0 v17 b1000000=
 bif decide (v17>v14)then
  bif (decide (0<=(IntKind.wrap .i64 (v17 - 1)))&&decide ((IntKind.wrap .i64 (v17 - 1))<(b1000000.length:Int)))then
   bif (decide (0<=v17)&&decide (v17<(b1000000.length:Int)))then
    bif (decide (0<=v17)&&decide (v17<(b1000000.length:Int)))then
     bif (decide (0<=(IntKind.wrap .i64 (v17 - 1)))&&decide ((IntKind.wrap .i64 (v17 - 1))<((b1000000.set (v17).toNat (b1000000.getD (IntKind.wrap .i64 (v17 - 1)).toNat .nil)).length:Int)))then
      o9 Tryz.prog Tryz.f155 K N n x1 x2 x3 es v14 v15 m0 (IntKind.wrap .i64 (v17 - 1)) ((b1000000.set (v17).toNat (b1000000.getD (IntKind.wrap .i64 (v17 - 1)).toNat .nil)).set (IntKind.wrap .i64 (v17 - 1)).toNat (b1000000.getD (v17).toNat .nil))
     else none
    else none
   else none
  else none
 else some (aL [] (.agg []),[some ⟨88,.slice b1000000 [],3,none⟩]):=by kernel_rfl
theorem vJ (K:Nat) (N n:Nat) (x1:Int) (x2:Int) (x3:Int) (es:List D) (v14:Int) (v15:Int):jI Tryz.prog Tryz.f155 K N (n+1) x1 x2 x3 es v14 v15=
 bif decide (v14<v15)then
  bif (decide (0<=x2)&&decide (x2<(es.length:Int)))then
   bif (decide (0<=(IntKind.wrap .i64 (Int.fdiv (IntKind.wrap .u64 (IntKind.wrap .i64 (v14+v15))) (2 ^ min (1:Int).toNat (IntKind.bits .u64)))))&&decide ((IntKind.wrap .i64 (Int.fdiv (IntKind.wrap .u64 (IntKind.wrap .i64 (v14+v15))) (2 ^ min (1:Int).toNat (IntKind.bits .u64))))<(es.length:Int)))then
    bif (!(decide ((fH (af (es.getD (x2).toNat .nil) 0) (af (es.getD (IntKind.wrap .i64 (Int.fdiv (IntKind.wrap .u64 (IntKind.wrap .i64 (v14+v15))) (2 ^ min (1:Int).toNat (IntKind.bits .u64)))).toNat .nil) 0))<0)))then
     jI Tryz.prog Tryz.f155 K N n x1 x2 x3 es (IntKind.wrap .i64 ((IntKind.wrap .i64 (Int.fdiv (IntKind.wrap .u64 (IntKind.wrap .i64 (v14+v15))) (2 ^ min (1:Int).toNat (IntKind.bits .u64))))+1)) v15
    else jI Tryz.prog Tryz.f155 K N n x1 x2 x3 es v14 (IntKind.wrap .i64 (Int.fdiv (IntKind.wrap .u64 (IntKind.wrap .i64 (v14+v15))) (2 ^ min (1:Int).toNat (IntKind.bits .u64))))
   else none
  else none
 else o9 Tryz.prog Tryz.f155 K N N x1 x2 x3 es v14 v15 n x2 es:=by kernel_rfl
def iT (P:Program) (fn:Func) (K:Nat) (N n:Nat) (x1:Int) (x2:Int) (x3:Int) (es:List D) (v20:Int) (v21:Int):Option (AV×List (Option Ent)):=aN (preL ig (sub [1,1,1,1,1,1,1,0,0,0] (ag fn))) (az P (ak B3 (H5 K) R3 []) ig N (sub [1,1,1,1,1,1,1,0,0,0] (ag fn))) n ⟨[bxp 1000000 88,dat 3 (.lit (.int .i64 x1)),dat 3 (.lit (.int .i64 x2)),dat 3 (.lit (.int .i64 x3)),dat 96 (.held (.func (.func 63) #[] #[])),dead,dead,dead,dead,dead,dead,dead,dead,dead,dead,dead,dead,dead,dat 3 (.lit (.int .i64 (IntKind.wrap .i64 (Int.fdiv (IntKind.wrap .u64 (IntKind.wrap .i64 (x1+x3))) (2 ^ min (1:Int).toNat (IntKind.bits .u64)))))),dat 3 (.lit (.int .i64 (IntKind.wrap .i64 ((IntKind.wrap .i64 (Int.fdiv (IntKind.wrap .u64 (IntKind.wrap .i64 (x1+x3))) (2 ^ min (1:Int).toNat (IntKind.bits .u64))))+x2)))),dat 3 (.lit (.int .i64 v20)),dat 3 (.lit (.int .i64 v21)),dat 3 (.lit (.int .i64 (IntKind.wrap .i64 ((IntKind.wrap .i64 ((IntKind.wrap .i64 (Int.fdiv (IntKind.wrap .u64 (IntKind.wrap .i64 (x1+x3))) (2 ^ min (1:Int).toNat (IntKind.bits .u64))))+x2)) - 1)))),dead,dead,dead,dead,dead,dead,dead,dead,dead,dead,dead,dead,dead,dead,dead,dead,dead,dead,dead,dead,dead,dead,dead,dead,dead,dead,dead,dead,dead,dead,dead,dead,dead,dead,dead,dead,dead,dead,dead,dead,dead,dead,dead,dead,dead,dead,dead,dead,dead,dead,dead,dead,dead,dead,dead,dead,dead,dead,dead,dead,dead,dead,dead,dead,dead,dead,dead,dead,dead,dead,dead,dead,dead,dead,dead,dead,dead,dead,dead,dead,dead,dead,dead,dead,dead,dead,dead,dead,dead,dead,dead,dead,dead,dead,dead,dead,dead,dead,dead,dead,dead,dead,dead,dead,dead,dead,dead,dead,dead,dead,dead,dead,dead,dead,dead,dead,dead,dead,dead,dead,dead,dead,dead,dead,dead,dead,dead,dead,dead,dead,dead,dead,dead,dead,dead,dead,dead,dead,dead,dead,dead,dead,dead,dead,dead,dead,dead,dead,dead,dead,dead,dead,dead,dead,dead,dead,dead,dead,dead,dead,dead,dead,dead,dead,dead,dead,dead,dead,dead,dead,dead,dead,dead,dead,dead,dead,dead,dead,dead,dead,dead,dead,dead,dead,dead,dead,dead,dead,dead,dead,dead,dead,dead,dead,dead,dead,dead],aZ [(1000000,some ⟨88,.slice es [],3,none⟩)]⟩ (aG 8 (cZ P (ak B3 (H5 K) R3 []) ig N (sub [1,1,1,1,1,1,1,1] (ag fn)) (qA P fn 1)))
theorem wB (K:Nat) (N n:Nat) (x1:Int) (x2:Int) (x3:Int) (es:List D) (v20:Int) (v21:Int):iT Tryz.prog Tryz.f155 K N (n+1) x1 x2 x3 es v20 v21=
 bif decide (v20<v21)then
  bif (decide (0<=(IntKind.wrap .i64 ((IntKind.wrap .i64 ((IntKind.wrap .i64 ((IntKind.wrap .i64 (Int.fdiv (IntKind.wrap .u64 (IntKind.wrap .i64 (x1+x3))) (2 ^ min (1:Int).toNat (IntKind.bits .u64))))+x2)) - 1)) - (IntKind.wrap .i64 (Int.fdiv (IntKind.wrap .u64 (IntKind.wrap .i64 (v20+v21))) (2 ^ min (1:Int).toNat (IntKind.bits .u64)))))))&&decide ((IntKind.wrap .i64 ((IntKind.wrap .i64 ((IntKind.wrap .i64 ((IntKind.wrap .i64 (Int.fdiv (IntKind.wrap .u64 (IntKind.wrap .i64 (x1+x3))) (2 ^ min (1:Int).toNat (IntKind.bits .u64))))+x2)) - 1)) - (IntKind.wrap .i64 (Int.fdiv (IntKind.wrap .u64 (IntKind.wrap .i64 (v20+v21))) (2 ^ min (1:Int).toNat (IntKind.bits .u64))))))<(es.length:Int)))then
   bif (decide (0<=(IntKind.wrap .i64 (Int.fdiv (IntKind.wrap .u64 (IntKind.wrap .i64 (v20+v21))) (2 ^ min (1:Int).toNat (IntKind.bits .u64)))))&&decide ((IntKind.wrap .i64 (Int.fdiv (IntKind.wrap .u64 (IntKind.wrap .i64 (v20+v21))) (2 ^ min (1:Int).toNat (IntKind.bits .u64))))<(es.length:Int)))then
    bif (!(decide ((fH (af (es.getD (IntKind.wrap .i64 ((IntKind.wrap .i64 ((IntKind.wrap .i64 ((IntKind.wrap .i64 (Int.fdiv (IntKind.wrap .u64 (IntKind.wrap .i64 (x1+x3))) (2 ^ min (1:Int).toNat (IntKind.bits .u64))))+x2)) - 1)) - (IntKind.wrap .i64 (Int.fdiv (IntKind.wrap .u64 (IntKind.wrap .i64 (v20+v21))) (2 ^ min (1:Int).toNat (IntKind.bits .u64)))))).toNat .nil) 0) (af (es.getD (IntKind.wrap .i64 (Int.fdiv (IntKind.wrap .u64 (IntKind.wrap .i64 (v20+v21))) (2 ^ min (1:Int).toNat (IntKind.bits .u64)))).toNat .nil) 0))<0)))then
     iT Tryz.prog Tryz.f155 K N n x1 x2 x3 es (IntKind.wrap .i64 ((IntKind.wrap .i64 (Int.fdiv (IntKind.wrap .u64 (IntKind.wrap .i64 (v20+v21))) (2 ^ min (1:Int).toNat (IntKind.bits .u64))))+1)) v21
    else iT Tryz.prog Tryz.f155 K N n x1 x2 x3 es v20 (IntKind.wrap .i64 (Int.fdiv (IntKind.wrap .u64 (IntKind.wrap .i64 (v20+v21))) (2 ^ min (1:Int).toNat (IntKind.bits .u64))))
   else none
  else none
 else bif ((decide (v20<x2))==true)then
   bif decide (x2<(IntKind.wrap .i64 ((IntKind.wrap .i64 ((IntKind.wrap .i64 (Int.fdiv (IntKind.wrap .u64 (IntKind.wrap .i64 (x1+x3))) (2 ^ min (1:Int).toNat (IntKind.bits .u64))))+x2)) - v20)))then
    bif EY es v20 x2 (IntKind.wrap .i64 ((IntKind.wrap .i64 ((IntKind.wrap .i64 (Int.fdiv (IntKind.wrap .u64 (IntKind.wrap .i64 (x1+x3))) (2 ^ min (1:Int).toNat (IntKind.bits .u64))))+x2)) - v20))then
     bif ((decide (x1<v20))==true)then
      bif decide (v20<(IntKind.wrap .i64 (Int.fdiv (IntKind.wrap .u64 (IntKind.wrap .i64 (x1+x3))) (2 ^ min (1:Int).toNat (IntKind.bits .u64)))))then
       bif iF K (uK es v20 x2 (IntKind.wrap .i64 ((IntKind.wrap .i64 ((IntKind.wrap .i64 (Int.fdiv (IntKind.wrap .u64 (IntKind.wrap .i64 (x1+x3))) (2 ^ min (1:Int).toNat (IntKind.bits .u64))))+x2)) - v20))) x1 v20 (IntKind.wrap .i64 (Int.fdiv (IntKind.wrap .u64 (IntKind.wrap .i64 (x1+x3))) (2 ^ min (1:Int).toNat (IntKind.bits .u64))))then
        bif ((decide ((IntKind.wrap .i64 (Int.fdiv (IntKind.wrap .u64 (IntKind.wrap .i64 (x1+x3))) (2 ^ min (1:Int).toNat (IntKind.bits .u64))))<(IntKind.wrap .i64 ((IntKind.wrap .i64 ((IntKind.wrap .i64 (Int.fdiv (IntKind.wrap .u64 (IntKind.wrap .i64 (x1+x3))) (2 ^ min (1:Int).toNat (IntKind.bits .u64))))+x2)) - v20))))==true)then
         bif decide ((IntKind.wrap .i64 ((IntKind.wrap .i64 ((IntKind.wrap .i64 (Int.fdiv (IntKind.wrap .u64 (IntKind.wrap .i64 (x1+x3))) (2 ^ min (1:Int).toNat (IntKind.bits .u64))))+x2)) - v20))<x3)then
          bif iF K (insL (uK es v20 x2 (IntKind.wrap .i64 ((IntKind.wrap .i64 ((IntKind.wrap .i64 (Int.fdiv (IntKind.wrap .u64 (IntKind.wrap .i64 (x1+x3))) (2 ^ min (1:Int).toNat (IntKind.bits .u64))))+x2)) - v20))) x1 (IntKind.wrap .i64 (Int.fdiv (IntKind.wrap .u64 (IntKind.wrap .i64 (x1+x3))) (2 ^ min (1:Int).toNat (IntKind.bits .u64))))) (IntKind.wrap .i64 (Int.fdiv (IntKind.wrap .u64 (IntKind.wrap .i64 (x1+x3))) (2 ^ min (1:Int).toNat (IntKind.bits .u64)))) (IntKind.wrap .i64 ((IntKind.wrap .i64 ((IntKind.wrap .i64 (Int.fdiv (IntKind.wrap .u64 (IntKind.wrap .i64 (x1+x3))) (2 ^ min (1:Int).toNat (IntKind.bits .u64))))+x2)) - v20)) x3 then
           some (aL [] (.agg []),[some ⟨88,.slice (insL (insL (uK es v20 x2 (IntKind.wrap .i64 ((IntKind.wrap .i64 ((IntKind.wrap .i64 (Int.fdiv (IntKind.wrap .u64 (IntKind.wrap .i64 (x1+x3))) (2 ^ min (1:Int).toNat (IntKind.bits .u64))))+x2)) - v20))) x1 (IntKind.wrap .i64 (Int.fdiv (IntKind.wrap .u64 (IntKind.wrap .i64 (x1+x3))) (2 ^ min (1:Int).toNat (IntKind.bits .u64))))) (IntKind.wrap .i64 (Int.fdiv (IntKind.wrap .u64 (IntKind.wrap .i64 (x1+x3))) (2 ^ min (1:Int).toNat (IntKind.bits .u64)))) x3) [],3,none⟩])
          else none
         else some (aL [] (.agg []),[some ⟨88,.slice (insL (uK es v20 x2 (IntKind.wrap .i64 ((IntKind.wrap .i64 ((IntKind.wrap .i64 (Int.fdiv (IntKind.wrap .u64 (IntKind.wrap .i64 (x1+x3))) (2 ^ min (1:Int).toNat (IntKind.bits .u64))))+x2)) - v20))) x1 (IntKind.wrap .i64 (Int.fdiv (IntKind.wrap .u64 (IntKind.wrap .i64 (x1+x3))) (2 ^ min (1:Int).toNat (IntKind.bits .u64))))) [],3,none⟩])
        else some (aL [] (.agg []),[some ⟨88,.slice (insL (uK es v20 x2 (IntKind.wrap .i64 ((IntKind.wrap .i64 ((IntKind.wrap .i64 (Int.fdiv (IntKind.wrap .u64 (IntKind.wrap .i64 (x1+x3))) (2 ^ min (1:Int).toNat (IntKind.bits .u64))))+x2)) - v20))) x1 (IntKind.wrap .i64 (Int.fdiv (IntKind.wrap .u64 (IntKind.wrap .i64 (x1+x3))) (2 ^ min (1:Int).toNat (IntKind.bits .u64))))) [],3,none⟩])
       else none
      else bif ((decide ((IntKind.wrap .i64 (Int.fdiv (IntKind.wrap .u64 (IntKind.wrap .i64 (x1+x3))) (2 ^ min (1:Int).toNat (IntKind.bits .u64))))<(IntKind.wrap .i64 ((IntKind.wrap .i64 ((IntKind.wrap .i64 (Int.fdiv (IntKind.wrap .u64 (IntKind.wrap .i64 (x1+x3))) (2 ^ min (1:Int).toNat (IntKind.bits .u64))))+x2)) - v20))))==true)then
        bif decide ((IntKind.wrap .i64 ((IntKind.wrap .i64 ((IntKind.wrap .i64 (Int.fdiv (IntKind.wrap .u64 (IntKind.wrap .i64 (x1+x3))) (2 ^ min (1:Int).toNat (IntKind.bits .u64))))+x2)) - v20))<x3)then
         bif iF K (uK es v20 x2 (IntKind.wrap .i64 ((IntKind.wrap .i64 ((IntKind.wrap .i64 (Int.fdiv (IntKind.wrap .u64 (IntKind.wrap .i64 (x1+x3))) (2 ^ min (1:Int).toNat (IntKind.bits .u64))))+x2)) - v20))) (IntKind.wrap .i64 (Int.fdiv (IntKind.wrap .u64 (IntKind.wrap .i64 (x1+x3))) (2 ^ min (1:Int).toNat (IntKind.bits .u64)))) (IntKind.wrap .i64 ((IntKind.wrap .i64 ((IntKind.wrap .i64 (Int.fdiv (IntKind.wrap .u64 (IntKind.wrap .i64 (x1+x3))) (2 ^ min (1:Int).toNat (IntKind.bits .u64))))+x2)) - v20)) x3 then
          some (aL [] (.agg []),[some ⟨88,.slice (insL (uK es v20 x2 (IntKind.wrap .i64 ((IntKind.wrap .i64 ((IntKind.wrap .i64 (Int.fdiv (IntKind.wrap .u64 (IntKind.wrap .i64 (x1+x3))) (2 ^ min (1:Int).toNat (IntKind.bits .u64))))+x2)) - v20))) (IntKind.wrap .i64 (Int.fdiv (IntKind.wrap .u64 (IntKind.wrap .i64 (x1+x3))) (2 ^ min (1:Int).toNat (IntKind.bits .u64)))) x3) [],3,none⟩])
         else none
        else some (aL [] (.agg []),[some ⟨88,.slice (uK es v20 x2 (IntKind.wrap .i64 ((IntKind.wrap .i64 ((IntKind.wrap .i64 (Int.fdiv (IntKind.wrap .u64 (IntKind.wrap .i64 (x1+x3))) (2 ^ min (1:Int).toNat (IntKind.bits .u64))))+x2)) - v20))) [],3,none⟩])
       else some (aL [] (.agg []),[some ⟨88,.slice (uK es v20 x2 (IntKind.wrap .i64 ((IntKind.wrap .i64 ((IntKind.wrap .i64 (Int.fdiv (IntKind.wrap .u64 (IntKind.wrap .i64 (x1+x3))) (2 ^ min (1:Int).toNat (IntKind.bits .u64))))+x2)) - v20))) [],3,none⟩])
     else bif ((decide ((IntKind.wrap .i64 (Int.fdiv (IntKind.wrap .u64 (IntKind.wrap .i64 (x1+x3))) (2 ^ min (1:Int).toNat (IntKind.bits .u64))))<(IntKind.wrap .i64 ((IntKind.wrap .i64 ((IntKind.wrap .i64 (Int.fdiv (IntKind.wrap .u64 (IntKind.wrap .i64 (x1+x3))) (2 ^ min (1:Int).toNat (IntKind.bits .u64))))+x2)) - v20))))==true)then
       bif decide ((IntKind.wrap .i64 ((IntKind.wrap .i64 ((IntKind.wrap .i64 (Int.fdiv (IntKind.wrap .u64 (IntKind.wrap .i64 (x1+x3))) (2 ^ min (1:Int).toNat (IntKind.bits .u64))))+x2)) - v20))<x3)then
        bif iF K (uK es v20 x2 (IntKind.wrap .i64 ((IntKind.wrap .i64 ((IntKind.wrap .i64 (Int.fdiv (IntKind.wrap .u64 (IntKind.wrap .i64 (x1+x3))) (2 ^ min (1:Int).toNat (IntKind.bits .u64))))+x2)) - v20))) (IntKind.wrap .i64 (Int.fdiv (IntKind.wrap .u64 (IntKind.wrap .i64 (x1+x3))) (2 ^ min (1:Int).toNat (IntKind.bits .u64)))) (IntKind.wrap .i64 ((IntKind.wrap .i64 ((IntKind.wrap .i64 (Int.fdiv (IntKind.wrap .u64 (IntKind.wrap .i64 (x1+x3))) (2 ^ min (1:Int).toNat (IntKind.bits .u64))))+x2)) - v20)) x3 then
         some (aL [] (.agg []),[some ⟨88,.slice (insL (uK es v20 x2 (IntKind.wrap .i64 ((IntKind.wrap .i64 ((IntKind.wrap .i64 (Int.fdiv (IntKind.wrap .u64 (IntKind.wrap .i64 (x1+x3))) (2 ^ min (1:Int).toNat (IntKind.bits .u64))))+x2)) - v20))) (IntKind.wrap .i64 (Int.fdiv (IntKind.wrap .u64 (IntKind.wrap .i64 (x1+x3))) (2 ^ min (1:Int).toNat (IntKind.bits .u64)))) x3) [],3,none⟩])
        else none
       else some (aL [] (.agg []),[some ⟨88,.slice (uK es v20 x2 (IntKind.wrap .i64 ((IntKind.wrap .i64 ((IntKind.wrap .i64 (Int.fdiv (IntKind.wrap .u64 (IntKind.wrap .i64 (x1+x3))) (2 ^ min (1:Int).toNat (IntKind.bits .u64))))+x2)) - v20))) [],3,none⟩])
      else some (aL [] (.agg []),[some ⟨88,.slice (uK es v20 x2 (IntKind.wrap .i64 ((IntKind.wrap .i64 ((IntKind.wrap .i64 (Int.fdiv (IntKind.wrap .u64 (IntKind.wrap .i64 (x1+x3))) (2 ^ min (1:Int).toNat (IntKind.bits .u64))))+x2)) - v20))) [],3,none⟩])
    else none
   else bif ((decide (x1<v20))==true)then
     bif decide (v20<(IntKind.wrap .i64 (Int.fdiv (IntKind.wrap .u64 (IntKind.wrap .i64 (x1+x3))) (2 ^ min (1:Int).toNat (IntKind.bits .u64)))))then
      bif iF K es x1 v20 (IntKind.wrap .i64 (Int.fdiv (IntKind.wrap .u64 (IntKind.wrap .i64 (x1+x3))) (2 ^ min (1:Int).toNat (IntKind.bits .u64))))then
       bif ((decide ((IntKind.wrap .i64 (Int.fdiv (IntKind.wrap .u64 (IntKind.wrap .i64 (x1+x3))) (2 ^ min (1:Int).toNat (IntKind.bits .u64))))<(IntKind.wrap .i64 ((IntKind.wrap .i64 ((IntKind.wrap .i64 (Int.fdiv (IntKind.wrap .u64 (IntKind.wrap .i64 (x1+x3))) (2 ^ min (1:Int).toNat (IntKind.bits .u64))))+x2)) - v20))))==true)then
        bif decide ((IntKind.wrap .i64 ((IntKind.wrap .i64 ((IntKind.wrap .i64 (Int.fdiv (IntKind.wrap .u64 (IntKind.wrap .i64 (x1+x3))) (2 ^ min (1:Int).toNat (IntKind.bits .u64))))+x2)) - v20))<x3)then
         bif iF K (insL es x1 (IntKind.wrap .i64 (Int.fdiv (IntKind.wrap .u64 (IntKind.wrap .i64 (x1+x3))) (2 ^ min (1:Int).toNat (IntKind.bits .u64))))) (IntKind.wrap .i64 (Int.fdiv (IntKind.wrap .u64 (IntKind.wrap .i64 (x1+x3))) (2 ^ min (1:Int).toNat (IntKind.bits .u64)))) (IntKind.wrap .i64 ((IntKind.wrap .i64 ((IntKind.wrap .i64 (Int.fdiv (IntKind.wrap .u64 (IntKind.wrap .i64 (x1+x3))) (2 ^ min (1:Int).toNat (IntKind.bits .u64))))+x2)) - v20)) x3 then
          some (aL [] (.agg []),[some ⟨88,.slice (insL (insL es x1 (IntKind.wrap .i64 (Int.fdiv (IntKind.wrap .u64 (IntKind.wrap .i64 (x1+x3))) (2 ^ min (1:Int).toNat (IntKind.bits .u64))))) (IntKind.wrap .i64 (Int.fdiv (IntKind.wrap .u64 (IntKind.wrap .i64 (x1+x3))) (2 ^ min (1:Int).toNat (IntKind.bits .u64)))) x3) [],3,none⟩])
         else none
        else some (aL [] (.agg []),[some ⟨88,.slice (insL es x1 (IntKind.wrap .i64 (Int.fdiv (IntKind.wrap .u64 (IntKind.wrap .i64 (x1+x3))) (2 ^ min (1:Int).toNat (IntKind.bits .u64))))) [],3,none⟩])
       else some (aL [] (.agg []),[some ⟨88,.slice (insL es x1 (IntKind.wrap .i64 (Int.fdiv (IntKind.wrap .u64 (IntKind.wrap .i64 (x1+x3))) (2 ^ min (1:Int).toNat (IntKind.bits .u64))))) [],3,none⟩])
      else none
     else bif ((decide ((IntKind.wrap .i64 (Int.fdiv (IntKind.wrap .u64 (IntKind.wrap .i64 (x1+x3))) (2 ^ min (1:Int).toNat (IntKind.bits .u64))))<(IntKind.wrap .i64 ((IntKind.wrap .i64 ((IntKind.wrap .i64 (Int.fdiv (IntKind.wrap .u64 (IntKind.wrap .i64 (x1+x3))) (2 ^ min (1:Int).toNat (IntKind.bits .u64))))+x2)) - v20))))==true)then
       bif decide ((IntKind.wrap .i64 ((IntKind.wrap .i64 ((IntKind.wrap .i64 (Int.fdiv (IntKind.wrap .u64 (IntKind.wrap .i64 (x1+x3))) (2 ^ min (1:Int).toNat (IntKind.bits .u64))))+x2)) - v20))<x3)then
        bif iF K es (IntKind.wrap .i64 (Int.fdiv (IntKind.wrap .u64 (IntKind.wrap .i64 (x1+x3))) (2 ^ min (1:Int).toNat (IntKind.bits .u64)))) (IntKind.wrap .i64 ((IntKind.wrap .i64 ((IntKind.wrap .i64 (Int.fdiv (IntKind.wrap .u64 (IntKind.wrap .i64 (x1+x3))) (2 ^ min (1:Int).toNat (IntKind.bits .u64))))+x2)) - v20)) x3 then
         some (aL [] (.agg []),[some ⟨88,.slice (insL es (IntKind.wrap .i64 (Int.fdiv (IntKind.wrap .u64 (IntKind.wrap .i64 (x1+x3))) (2 ^ min (1:Int).toNat (IntKind.bits .u64)))) x3) [],3,none⟩])
        else none
       else some (aL [] (.agg []),[some ⟨88,.slice es [],3,none⟩])
      else some (aL [] (.agg []),[some ⟨88,.slice es [],3,none⟩])
    else bif ((decide ((IntKind.wrap .i64 (Int.fdiv (IntKind.wrap .u64 (IntKind.wrap .i64 (x1+x3))) (2 ^ min (1:Int).toNat (IntKind.bits .u64))))<(IntKind.wrap .i64 ((IntKind.wrap .i64 ((IntKind.wrap .i64 (Int.fdiv (IntKind.wrap .u64 (IntKind.wrap .i64 (x1+x3))) (2 ^ min (1:Int).toNat (IntKind.bits .u64))))+x2)) - v20))))==true)then
      bif decide ((IntKind.wrap .i64 ((IntKind.wrap .i64 ((IntKind.wrap .i64 (Int.fdiv (IntKind.wrap .u64 (IntKind.wrap .i64 (x1+x3))) (2 ^ min (1:Int).toNat (IntKind.bits .u64))))+x2)) - v20))<x3)then
       bif iF K es (IntKind.wrap .i64 (Int.fdiv (IntKind.wrap .u64 (IntKind.wrap .i64 (x1+x3))) (2 ^ min (1:Int).toNat (IntKind.bits .u64)))) (IntKind.wrap .i64 ((IntKind.wrap .i64 ((IntKind.wrap .i64 (Int.fdiv (IntKind.wrap .u64 (IntKind.wrap .i64 (x1+x3))) (2 ^ min (1:Int).toNat (IntKind.bits .u64))))+x2)) - v20)) x3 then
        some (aL [] (.agg []),[some ⟨88,.slice (insL es (IntKind.wrap .i64 (Int.fdiv (IntKind.wrap .u64 (IntKind.wrap .i64 (x1+x3))) (2 ^ min (1:Int).toNat (IntKind.bits .u64)))) x3) [],3,none⟩])
       else none
      else some (aL [] (.agg []),[some ⟨88,.slice es [],3,none⟩])
     else some (aL [] (.agg []),[some ⟨88,.slice es [],3,none⟩])
  else bif ((decide (x1<v20))==true)then
    bif decide (v20<(IntKind.wrap .i64 (Int.fdiv (IntKind.wrap .u64 (IntKind.wrap .i64 (x1+x3))) (2 ^ min (1:Int).toNat (IntKind.bits .u64)))))then
     bif iF K es x1 v20 (IntKind.wrap .i64 (Int.fdiv (IntKind.wrap .u64 (IntKind.wrap .i64 (x1+x3))) (2 ^ min (1:Int).toNat (IntKind.bits .u64))))then
      bif ((decide ((IntKind.wrap .i64 (Int.fdiv (IntKind.wrap .u64 (IntKind.wrap .i64 (x1+x3))) (2 ^ min (1:Int).toNat (IntKind.bits .u64))))<(IntKind.wrap .i64 ((IntKind.wrap .i64 ((IntKind.wrap .i64 (Int.fdiv (IntKind.wrap .u64 (IntKind.wrap .i64 (x1+x3))) (2 ^ min (1:Int).toNat (IntKind.bits .u64))))+x2)) - v20))))==true)then
       bif decide ((IntKind.wrap .i64 ((IntKind.wrap .i64 ((IntKind.wrap .i64 (Int.fdiv (IntKind.wrap .u64 (IntKind.wrap .i64 (x1+x3))) (2 ^ min (1:Int).toNat (IntKind.bits .u64))))+x2)) - v20))<x3)then
        bif iF K (insL es x1 (IntKind.wrap .i64 (Int.fdiv (IntKind.wrap .u64 (IntKind.wrap .i64 (x1+x3))) (2 ^ min (1:Int).toNat (IntKind.bits .u64))))) (IntKind.wrap .i64 (Int.fdiv (IntKind.wrap .u64 (IntKind.wrap .i64 (x1+x3))) (2 ^ min (1:Int).toNat (IntKind.bits .u64)))) (IntKind.wrap .i64 ((IntKind.wrap .i64 ((IntKind.wrap .i64 (Int.fdiv (IntKind.wrap .u64 (IntKind.wrap .i64 (x1+x3))) (2 ^ min (1:Int).toNat (IntKind.bits .u64))))+x2)) - v20)) x3 then
         some (aL [] (.agg []),[some ⟨88,.slice (insL (insL es x1 (IntKind.wrap .i64 (Int.fdiv (IntKind.wrap .u64 (IntKind.wrap .i64 (x1+x3))) (2 ^ min (1:Int).toNat (IntKind.bits .u64))))) (IntKind.wrap .i64 (Int.fdiv (IntKind.wrap .u64 (IntKind.wrap .i64 (x1+x3))) (2 ^ min (1:Int).toNat (IntKind.bits .u64)))) x3) [],3,none⟩])
        else none
       else some (aL [] (.agg []),[some ⟨88,.slice (insL es x1 (IntKind.wrap .i64 (Int.fdiv (IntKind.wrap .u64 (IntKind.wrap .i64 (x1+x3))) (2 ^ min (1:Int).toNat (IntKind.bits .u64))))) [],3,none⟩])
      else some (aL [] (.agg []),[some ⟨88,.slice (insL es x1 (IntKind.wrap .i64 (Int.fdiv (IntKind.wrap .u64 (IntKind.wrap .i64 (x1+x3))) (2 ^ min (1:Int).toNat (IntKind.bits .u64))))) [],3,none⟩])
     else none
    else bif ((decide ((IntKind.wrap .i64 (Int.fdiv (IntKind.wrap .u64 (IntKind.wrap .i64 (x1+x3))) (2 ^ min (1:Int).toNat (IntKind.bits .u64))))<(IntKind.wrap .i64 ((IntKind.wrap .i64 ((IntKind.wrap .i64 (Int.fdiv (IntKind.wrap .u64 (IntKind.wrap .i64 (x1+x3))) (2 ^ min (1:Int).toNat (IntKind.bits .u64))))+x2)) - v20))))==true)then
      bif decide ((IntKind.wrap .i64 ((IntKind.wrap .i64 ((IntKind.wrap .i64 (Int.fdiv (IntKind.wrap .u64 (IntKind.wrap .i64 (x1+x3))) (2 ^ min (1:Int).toNat (IntKind.bits .u64))))+x2)) - v20))<x3)then
       bif iF K es (IntKind.wrap .i64 (Int.fdiv (IntKind.wrap .u64 (IntKind.wrap .i64 (x1+x3))) (2 ^ min (1:Int).toNat (IntKind.bits .u64)))) (IntKind.wrap .i64 ((IntKind.wrap .i64 ((IntKind.wrap .i64 (Int.fdiv (IntKind.wrap .u64 (IntKind.wrap .i64 (x1+x3))) (2 ^ min (1:Int).toNat (IntKind.bits .u64))))+x2)) - v20)) x3 then
        some (aL [] (.agg []),[some ⟨88,.slice (insL es (IntKind.wrap .i64 (Int.fdiv (IntKind.wrap .u64 (IntKind.wrap .i64 (x1+x3))) (2 ^ min (1:Int).toNat (IntKind.bits .u64)))) x3) [],3,none⟩])
       else none
      else some (aL [] (.agg []),[some ⟨88,.slice es [],3,none⟩])
     else some (aL [] (.agg []),[some ⟨88,.slice es [],3,none⟩])
   else bif ((decide ((IntKind.wrap .i64 (Int.fdiv (IntKind.wrap .u64 (IntKind.wrap .i64 (x1+x3))) (2 ^ min (1:Int).toNat (IntKind.bits .u64))))<(IntKind.wrap .i64 ((IntKind.wrap .i64 ((IntKind.wrap .i64 (Int.fdiv (IntKind.wrap .u64 (IntKind.wrap .i64 (x1+x3))) (2 ^ min (1:Int).toNat (IntKind.bits .u64))))+x2)) - v20))))==true)then
     bif decide ((IntKind.wrap .i64 ((IntKind.wrap .i64 ((IntKind.wrap .i64 (Int.fdiv (IntKind.wrap .u64 (IntKind.wrap .i64 (x1+x3))) (2 ^ min (1:Int).toNat (IntKind.bits .u64))))+x2)) - v20))<x3)then
      bif iF K es (IntKind.wrap .i64 (Int.fdiv (IntKind.wrap .u64 (IntKind.wrap .i64 (x1+x3))) (2 ^ min (1:Int).toNat (IntKind.bits .u64)))) (IntKind.wrap .i64 ((IntKind.wrap .i64 ((IntKind.wrap .i64 (Int.fdiv (IntKind.wrap .u64 (IntKind.wrap .i64 (x1+x3))) (2 ^ min (1:Int).toNat (IntKind.bits .u64))))+x2)) - v20)) x3 then
       some (aL [] (.agg []),[some ⟨88,.slice (insL es (IntKind.wrap .i64 (Int.fdiv (IntKind.wrap .u64 (IntKind.wrap .i64 (x1+x3))) (2 ^ min (1:Int).toNat (IntKind.bits .u64)))) x3) [],3,none⟩])
      else none
     else some (aL [] (.agg []),[some ⟨88,.slice es [],3,none⟩])
    else some (aL [] (.agg []),[some ⟨88,.slice es [],3,none⟩]):=by kernel_rfl
theorem agi (K:Nat) (N:Nat) (x1:Int) (x2:Int) (x3:Int) (es:List D):jP Tryz.prog (ak B3 (H5 K) R3 []) ig N Tryz.f155 [bxp 1000000 88,dat 3 (.lit (.int .i64 x1)),dat 3 (.lit (.int .i64 x2)),dat 3 (.lit (.int .i64 x3)),dat 96 (.held (.func (.func 63) #[] #[]))] [⟨88,.slice es [],3,none⟩]=
 bif ((IntKind.wrap .i64 (x2 - x1))==1)then
  lu Tryz.prog Tryz.f155 K N N x1 x2 x3 es x2 x3
 else bif ((IntKind.wrap .i64 (x3 - x2))==1)then
   jI Tryz.prog Tryz.f155 K N N x1 x2 x3 es x1 x2
  else bif decide (x2>(IntKind.wrap .i64 (Int.fdiv (IntKind.wrap .u64 (IntKind.wrap .i64 (x1+x3))) (2 ^ min (1:Int).toNat (IntKind.bits .u64)))))then
    iT Tryz.prog Tryz.f155 K N N x1 x2 x3 es (IntKind.wrap .i64 ((IntKind.wrap .i64 ((IntKind.wrap .i64 (Int.fdiv (IntKind.wrap .u64 (IntKind.wrap .i64 (x1+x3))) (2 ^ min (1:Int).toNat (IntKind.bits .u64))))+x2)) - x3)) (IntKind.wrap .i64 (Int.fdiv (IntKind.wrap .u64 (IntKind.wrap .i64 (x1+x3))) (2 ^ min (1:Int).toNat (IntKind.bits .u64))))
   else iT Tryz.prog Tryz.f155 K N N x1 x2 x3 es x1 x2:=by kernel_rfl
section
set_option maxRecDepth 10000
set_option linter.unusedSimpArgs false
theorem WC {K N:Nat} {x1 x2 x3 v11:Int} {es:List D} {m0 b:Nat} {R:List D} {x:D} : ∀ (n:Nat) (P S:List D),b=P.length+1+S.length->S.length<n->b+R.length<=2147483648->
  rZ Tryz.prog Tryz.f155 K N n x1 x2 x3 es (b:Int) v11 m0 (P.length:Int) (P++x::(S++R))=some (gq,kW (P++S++x::R))
 |0,P,S,_,h,_=>by omega
 |n+1,P,S,hb,h,hbig=>by
  have w0:IntKind.wrap .i64 ((b:Int) - 1)=((P.length+S.length:Nat):Int):=by rw[aH (l_in (by omega) (by omega))];omega
  rw[IC,w0]
  cases S with
  |nil=>
   have g1:decide ((P.length:Int)<((P.length+([]:List D).length:Nat):Int))=false:=fB (by simp)
   rw[g1,cond_false]
   simp[gq,kW]
  |cons y S=>
   simp only[List.length_cons]at hb h
   have hlen:(P++x::(y::S++R)).length=P.length+2+S.length+R.length:=by simp;omega
   have g1:decide ((P.length:Int)<((P.length+(y::S).length:Nat):Int))=true:=eY (by simp)
   have w1:IntKind.wrap .i64 ((P.length:Int)+1)=((P.length+1:Nat):Int):=by rw[aH (l_in (by omega) (by omega))];omega
   have i1:(decide (0<=(P.length:Int))&&decide ((P.length:Int)<((P++x::(y::S++R)).length:Int)))=true:=bG (by rw[hlen];omega)
   have i2:(decide (0<=((P.length+1:Nat):Int))&&decide (((P.length+1:Nat):Int)<((P++x::(y::S++R)).length:Int)))=true:=bG (by rw[hlen];omega)
   rw[g1,w1,i1,i2,List.length_set,i2]
   simp only[cond_true,Int.toNat_natCast]
   have sw:=QX P [] (S++R) x y (i:=P.length) (j:=P.length+1) rfl (by simp)
   have f1:P++x::(y::S++R)=P++x::([]++y::(S++R)):=by simp
   rw[f1,sw]
   have key:=WC (K:=K) (N:=N) (x1:=x1) (x2:=x2) (x3:=x3) (v11:=v11) (es:=es) (m0:=m0) (b:=b) (R:=R) (x:=x) n (P++[y]) S (by simp;omega) (by omega) hbig
   have e1:(P++[y]).length=P.length+1:=by simp
   rw[e1]at key
   rw[show P++y::([]++x::(S++R))=P++[y]++x::(S++R) by simp,key]
   simp
theorem OL {K N:Nat} {x1 x2 x3 v15:Int} {es:List D} {m0 a:Nat} {P:List D} {x:D} (ha:a=P.length): ∀ (n:Nat) (S R:List D),S.length<n->P.length+S.length+1+R.length<=2147483648->
  o9 Tryz.prog Tryz.f155 K N n x1 x2 x3 es (a:Int) v15 m0 ((P.length+S.length:Nat):Int) (P++S++x::R)=some (gq,kW (P++x::(S++R)))
 |0,S,R,h,_=>by omega
 |n+1,S,R,h,hbig=>by
  rw[Gy]
  rcases List.eq_nil_or_concat S with rfl|⟨S0,y,rfl⟩
  ·have g1:decide (((P.length+([]:List D).length:Nat):Int)>(a:Int))=false:=by simp;omega
   rw[g1,cond_false]
   simp[gq,kW]
  ·simp only[List.concat_eq_append]at*
   have hS:(S0++[y]).length=S0.length+1:=by simp
   rw[hS]at h hbig⊢
   have hlen:(P++(S0++[y])++x::R).length=P.length+S0.length+2+R.length:=by simp;omega
   have g1:decide (((P.length+(S0.length+1):Nat):Int)>(a:Int))=true:=by simp;omega
   have w1:IntKind.wrap .i64 (((P.length+(S0.length+1):Nat):Int) - 1)=((P.length+S0.length:Nat):Int):=by rw[aH (l_in (by omega) (by omega))];omega
   have i1:(decide (0<=((P.length+(S0.length+1):Nat):Int))&&decide (((P.length+(S0.length+1):Nat):Int)<((P++(S0++[y])++x::R).length:Int)))=true:=bG (by rw[hlen];omega)
   have i2:(decide (0<=((P.length+S0.length:Nat):Int))&&decide (((P.length+S0.length:Nat):Int)<((P++(S0++[y])++x::R).length:Int)))=true:=bG (by rw[hlen];omega)
   rw[g1,w1,i1,i2,List.length_set,i2]
   simp only[cond_true,Int.toNat_natCast]
   have sw:=Rx (P++S0) [] R y x (i:=P.length+S0.length) (j:=P.length+(S0.length+1)) (by simp) (by simp;omega)
   have f1:P++(S0++[y])++x::R=(P++S0)++y::([]++x::R):=by simp
   rw[f1,sw]
   have key:=OL (K:=K) (N:=N) (x1:=x1) (x2:=x2) (x3:=x3) (v15:=v15) (es:=es) (m0:=m0) (a:=a) (P:=P) (x:=x) ha n S0 (y::R) (by omega) (by simp;omega)
   rw[show P++S0++x::([]++y::R)=P++S0++x::(y::R) by simp,key]
   simp
section
variable {K:Nat} {l:List D} {A M B:Nat} (hAM:A<M) (hMB:M<B) (hB:B<=l.length) (hbig:l.length<=2147483648) (hX:Srt keyE (seg A M l)) (hY:Srt keyE (seg M B l))
include hAM hMB hB hbig hX hY
theorem agq (h1:M=A+1):lu Tryz.prog Tryz.f155 K (l.length+1) (l.length+1) (A:Int) (M:Int) (B:Int) l (M:Int) (B:Int)=some (gq,kW (insL l (A:Int) (B:Int))):=by
 obtain⟨s,n',s1,s2,p1,p2,hs⟩:=Pj (fun n i j=>lu Tryz.prog Tryz.f155 K (l.length+1) n (A:Int) (M:Int) (B:Int) l i j)
  (fun n i j=>rZ Tryz.prog Tryz.f155 K (l.length+1) (l.length+1) (A:Int) (M:Int) (B:Int) l i j n (A:Int) l) (fun h=>klt (kx l h) (kx l A)) M B
  (fun n i j q1 q2 q3=>by
   show lu _ _ _ _ _ _ _ _ _ _ _=_
   have w1:IntKind.wrap .i64 ((((i+j) / 2:Nat):Int)+1)=(((i+j) / 2+1:Nat):Int):=by rw[aH (l_in (by omega) (by omega))];omega
   rw[xB,eY q2,Jm (by omega),bG (by omega),bG (by omega),w1]
   simp only[cond_true,Int.toNat_natCast,xG])
  (fun n i q1 q2=>by
   show lu _ _ _ _ _ _ _ _ _ _ _=_
   rw[xB,fB (Nat.lt_irrefl i),cond_false])
  (l.length+1) M B (Nat.le_refl _) (by omega) (Nat.le_refl _) (by omega) (.inl rfl) (.inl rfl)
 have hs:lu Tryz.prog Tryz.f155 K (l.length+1) (l.length+1) (A:Int) (M:Int) (B:Int) l (M:Int) (B:Int)=rZ Tryz.prog Tryz.f155 K (l.length+1) (l.length+1) (A:Int) (M:Int) (B:Int) l (s:Int) (s:Int) n' (A:Int) l:=hs
 rw[hs]
 subst h1
 rw[abI hMB hB hY s1 s2 p1 p2]
 have hl:l=l.take A++l.getD A .nil::(seg (A+1) s l++(seg s B l++l.drop B)):=by
  conv=>lhs;rw[sN l (a:=A) (b:=B) (by omega) hB,fZ l (a:=A) (b:=A+1) (c:=B) (by omega) (by omega),fZ l (a:=A+1) (b:=s) (c:=B) (by omega) (by omega)]
  have:seg A (A+1) l=[l.getD A .nil]:=by
   rw[dA (by omega)]
   unfold seg
   rw[List.drop_eq_getElem_cons (by omega)]
   have:A+1 - A=1:=by omega
   rw[this];rfl
  rw[this]
  simp only[List.append_assoc,List.cons_append,List.nil_append]
 have lA:(l.take A).length=A:=by simp;omega
 have lS:=jF l (a:=A+1) (b:=s) s1 (by omega)
 have lR:=jF l (a:=s) (b:=B) s2 hB
 have key:=WC (K:=K) (N:=l.length+1) (x1:=(A:Int)) (x2:=((A+1:Nat):Int)) (x3:=(B:Int)) (v11:=(s:Int)) (es:=l) (m0:=n') (b:=s) (R:=seg s B l++l.drop B) (x:=l.getD A .nil) (l.length+1) (l.take A) (seg (A+1) s l) (by omega) (by omega) (by simp[lR];omega)
 rw[<-hl,lA]at key
 exact key
theorem afX (h1:B=M+1):jI Tryz.prog Tryz.f155 K (l.length+1) (l.length+1) (A:Int) (M:Int) (B:Int) l (A:Int) (M:Int)=some (gq,kW (insL l (A:Int) (B:Int))):=by
 obtain⟨s,n',s1,s2,p1,p2,hs⟩:=Pj (fun n i j=>jI Tryz.prog Tryz.f155 K (l.length+1) n (A:Int) (M:Int) (B:Int) l i j)
  (fun n i j=>o9 Tryz.prog Tryz.f155 K (l.length+1) (l.length+1) (A:Int) (M:Int) (B:Int) l i j n (M:Int) l) (fun h=>!klt (kx l M) (kx l h)) A M
  (fun n i j q1 q2 q3=>by
   show jI _ _ _ _ _ _ _ _ _ _ _=_
   have w1:IntKind.wrap .i64 ((((i+j) / 2:Nat):Int)+1)=(((i+j) / 2+1:Nat):Int):=by rw[aH (l_in (by omega) (by omega))];omega
   rw[vJ,eY q2,Jm (by omega),bG (by omega),bG (by omega),w1]
   simp only[cond_true,Int.toNat_natCast,xG])
  (fun n i q1 q2=>by
   show jI _ _ _ _ _ _ _ _ _ _ _=_
   rw[vJ,fB (Nat.lt_irrefl i),cond_false])
  (l.length+1) A M (Nat.le_refl _) (by omega) (Nat.le_refl _) (by omega) (.inl rfl) (.inl rfl)
 have hs:jI Tryz.prog Tryz.f155 K (l.length+1) (l.length+1) (A:Int) (M:Int) (B:Int) l (A:Int) (M:Int)=o9 Tryz.prog Tryz.f155 K (l.length+1) (l.length+1) (A:Int) (M:Int) (B:Int) l (s:Int) (s:Int) n' (M:Int) l:=hs
 rw[hs]
 subst h1
 rw[Wj hAM hB hX s1 s2 (p1.imp id fun h=>by simpa using h) (p2.imp id fun h=>by simpa using h)]
 have hl:l=l.take A++seg A s l++seg s M l++l.getD M .nil::l.drop (M+1):=by
  conv=>lhs;rw[sN l (a:=A) (b:=M+1) (by omega) hB,fZ l (a:=A) (b:=M) (c:=M+1) (by omega) (by omega),fZ l (a:=A) (b:=s) (c:=M) (by omega) (by omega)]
  have:seg M (M+1) l=[l.getD M .nil]:=by
   rw[dA (by omega)]
   unfold seg
   rw[List.drop_eq_getElem_cons (by omega)]
   have:M+1 - M=1:=by omega
   rw[this];rfl
  rw[this]
  simp only[List.append_assoc,List.cons_append,List.nil_append]
 have lA:(l.take A).length=A:=by simp;omega
 have lS:=jF l (a:=A) (b:=s) s1 (by omega)
 have lR:=jF l (a:=s) (b:=M) s2 (by omega)
 have lP:(l.take A++seg A s l).length=s:=by simp only[List.length_append];omega
 have key:=OL (K:=K) (N:=l.length+1) (x1:=(A:Int)) (x2:=(M:Int)) (x3:=((M+1:Nat):Int)) (v15:=(s:Int)) (es:=l) (m0:=n') (a:=s) (P:=l.take A++seg A s l) (x:=l.getD M .nil) lP.symm (l.length+1) (seg s M l) (l.drop (M+1)) (by omega) (by rw[lP,lR];simp;omega)
 rw[<-hl,lP,lR]at key
 have e1:s+(M - s)=M:=by omega
 rw[e1]at key
 exact key
theorem adL (hK:B - A<=K) {lo hi:Nat} (hlo:A<=lo) (hhi:hi<=M) (hhi':hi<=(A+B) / 2) (hlh:lo<=hi) (hend:(A+B) / 2+M<=B+lo) (e1:lo=A\/(A+B) / 2+M=B+lo) (e2:hi=M\/hi=(A+B) / 2):
  iT Tryz.prog Tryz.f155 K (l.length+1) (l.length+1) (A:Int) (M:Int) (B:Int) l (lo:Int) (hi:Int)=some (gq,kW (insL l (A:Int) (B:Int))):=by
 have wm:IntKind.wrap .i64 ((((A+B) / 2:Nat):Int)+(M:Int))=(((A+B) / 2+M:Nat):Int):=by rw[aH (l_in (by omega) (by omega))];omega
 have wn:IntKind.wrap .i64 ((((A+B) / 2+M:Nat):Int) - 1)=(((A+B) / 2+M - 1:Nat):Int):=by rw[aH (l_in (by omega) (by omega))];omega
 obtain⟨s,n',s1,s2,p1,p2,hs⟩:=Pj (fun n i j=>iT Tryz.prog Tryz.f155 K (l.length+1) n (A:Int) (M:Int) (B:Int) l i j)
  (fun n i j=>tl1 (fun m=>some (gq,kW m)) K (A:Int) i (M:Int) (IntKind.wrap .i64 ((((A+B) / 2+M:Nat):Int) - i)) (((A+B) / 2:Nat):Int) (B:Int) l) (fun h=>!klt (kx l ((A+B) / 2+M - 1 - h)) (kx l h)) lo hi
  (fun n i j q1 q2 q3=>by
   show iT _ _ _ _ _ _ _ _ _ _ _=_
   have w1:IntKind.wrap .i64 ((((i+j) / 2:Nat):Int)+1)=(((i+j) / 2+1:Nat):Int):=by rw[aH (l_in (by omega) (by omega))];omega
   have w2:IntKind.wrap .i64 ((((A+B) / 2+M - 1:Nat):Int) - (((i+j) / 2:Nat):Int))=(((A+B) / 2+M - 1 - (i+j) / 2:Nat):Int):=by rw[aH (l_in (by omega) (by omega))];omega
   rw[wB,eY q2,cond_true,Jm (i:=A) (j:=B) (by omega),Jm (i:=i) (j:=j) (by omega),wm,wn,w2,bG (by omega),bG (by omega),w1]
   simp only[cond_true,Int.toNat_natCast,xG])
  (fun n i q1 q2=>by
   show iT _ _ _ _ _ _ _ _ _ _ _=_
   rw[wB,fB (Nat.lt_irrefl i),cond_false,Jm (i:=A) (j:=B) (by omega),wm]
   rfl)
  (l.length+1) lo hi (Nat.le_refl _) hlh (Nat.le_refl _) (by omega) (.inl rfl) (.inl rfl)
 have hs:iT Tryz.prog Tryz.f155 K (l.length+1) (l.length+1) (A:Int) (M:Int) (B:Int) l (lo:Int) (hi:Int)=tl1 (fun m=>some (gq,kW m)) K (A:Int) (s:Int) (M:Int) (IntKind.wrap .i64 ((((A+B) / 2+M:Nat):Int) - (s:Int))) (((A+B) / 2:Nat):Int) (B:Int) l:=hs
 have we:IntKind.wrap .i64 ((((A+B) / 2+M:Nat):Int) - (s:Int))=(((A+B) / 2+M - s:Nat):Int):=by rw[aH (l_in (by omega) (by omega))];omega
 rw[hs,we]
 refine YG (fun m=>some (gq,kW m)) K hAM hMB hB hbig hX hY hK (by omega) (by omega) (by omega) (by omega) ?_ ?_
 ·rcases p1 with p1|p1
  ·rcases e1 with e1|e1
   ·exact .inl (by omega)
   ·exact .inr (.inl (by omega))
  ·by_cases h0:s=A
   ·exact .inl h0
   ·refine .inr (.inr ?_)
    have:(A+B) / 2+M - 1 - (s - 1)=(A+B) / 2+M - s:=by omega
    simpa [this]using p1
 ·rcases p2 with p2|p2
  ·rcases e2 with e2|e2
   ·exact .inl (by omega)
   ·exact .inr (.inl (by omega))
  ·exact .inr (.inr (by simpa using p2))
end
theorem adY:FnOK Tryz.prog 155 Tryz.f155:=⟨Tryz.func155,rfl,by kernel_rfl⟩
theorem aes: ∀ (K:Nat) args hh r h',fD a206 kY (Yu K) args hh=true->iZ a206 kY adT args hh=some (r,h')->HCallOK Tryz.prog 155 args hh r h'
 |0=>by
  refine fV rfl rfl fun ds es r h' hq hd=>?_
  unfold Yu at hq
  split at hq
  ·rename_i z a b m f e
   rw[Bool.and_eq_true]at hq
   have hq:=hq.2
   simp only[iF,Bool.and_eq_true,decide_eq_true_eq]at hq
   omega
  ·cases hq
 |K+1=>by
  refine fV rfl rfl fun ds es r h' hq hd=>?_
  unfold Yu at hq
  split at hq
  ·rename_i z a b m f e
   cases hd
   rw[Bool.and_eq_true]at hq
   refine HCallOK.typedR adY.ex fun ht _ hr=>?_
   obtain⟨_,t1⟩:=ht (dat 3 a) (by simp[fA,a206,dat,bxp]) rfl
   obtain⟨_,t2⟩:=ht (dat 3 b) (by simp[fA,a206,dat,bxp]) rfl
   obtain⟨_,t4⟩:=ht (dat 3 m) (by simp[fA,a206,dat,bxp]) rfl
   obtain⟨_,t3⟩:=ht (dat 96 f) (by simp[fA,a206,dat,bxp]) rfl
   obtain⟨el,l,_,hl,_⟩:=hr ⟨88,e,3,none⟩ (by simp[kQ,kY]) (by simp)
   have hl:e=.slice l []:=hl
   subst hl
   obtain⟨i1,rfl,_⟩:=iC t1
   obtain⟨i2,rfl,_⟩:=iC t2
   obtain⟨i3,rfl,_⟩:=iC t4
   rw[Bz (show Ty Tryz.prog _ 96 f from t3) hq.1]
   have hq:iF (K+1) l i1 i2 i3=true:=hq.2
   simp only[iF,Bool.and_eq_true,decide_eq_true_eq,rW]at hq
   obtain⟨⟨⟨⟨⟨⟨⟨g1,g2⟩,g3⟩,g4⟩,g5⟩,g6⟩,hX⟩,hY⟩:=hq
   obtain⟨A,hA⟩: ∃ A:Nat,i1=(A:Int):=⟨i1.toNat,by omega⟩
   obtain⟨M,hM⟩: ∃ M:Nat,i2=(M:Int):=⟨i2.toNat,by omega⟩
   obtain⟨B,hB⟩: ∃ B:Nat,i3=(B:Int):=⟨i3.toNat,by omega⟩
   subst hA hM hB
   rw[Int.toNat_natCast,Int.toNat_natCast]at hX hY
   refine gZ hm (bJ Xm (aes K)) adY ((agi K (l.length+1) (A:Int) (M:Int) (B:Int) l).trans ?_)
   show _=some (gq,kW (insL l (A:Int) (B:Int)))
   have w1:IntKind.wrap .i64 ((M:Int) - (A:Int))=((M - A:Nat):Int):=by rw[aH (l_in (by omega) (by omega))];omega
   have w2:IntKind.wrap .i64 ((B:Int) - (M:Int))=((B - M:Nat):Int):=by rw[aH (l_in (by omega) (by omega))];omega
   rw[w1,w2,Jm (i:=A) (j:=B) (by omega)]
   by_cases c1:M=A+1
   ·have:(((M - A:Nat):Int)==1)=true:=by rw[beq_iff_eq];omega
    rw[this,cond_true]
    exact agq (by omega) (by omega) (by omega) g5 hX hY c1
   ·have:(((M - A:Nat):Int)==1)=false:=by rw[beq_eq_false_iff_ne];omega
    rw[this,cond_false]
    by_cases c2:B=M+1
    ·have:(((B - M:Nat):Int)==1)=true:=by rw[beq_iff_eq];omega
     rw[this,cond_true]
     exact afX (by omega) (by omega) (by omega) g5 hX hY c2
    ·have:(((B - M:Nat):Int)==1)=false:=by rw[beq_eq_false_iff_ne];omega
     rw[this,cond_false]
     by_cases c3:M>(A+B) / 2
     ·have:decide ((M:Int)>(((A+B) / 2:Nat):Int))=true:=by rw[decide_eq_true_eq];omega
      have w3:IntKind.wrap .i64 ((((A+B) / 2:Nat):Int)+(M:Int))=(((A+B) / 2+M:Nat):Int):=by rw[aH (l_in (by omega) (by omega))];omega
      have w4:IntKind.wrap .i64 ((((A+B) / 2+M:Nat):Int) - (B:Int))=(((A+B) / 2+M - B:Nat):Int):=by rw[aH (l_in (by omega) (by omega))];omega
      rw[this,cond_true,w3,w4]
      exact adL (by omega) (by omega) (by omega) g5 hX hY (by omega) (by omega) (by omega) (by omega) (by omega) (by omega) (.inr (by omega)) (.inr rfl)
     ·have:decide ((M:Int)>(((A+B) / 2:Nat):Int))=false:=by rw[decide_eq_false_iff_not];omega
      rw[this,cond_false]
      exact adL (by omega) (by omega) (by omega) g5 hX hY (by omega) (by omega) (by omega) (by omega) (by omega) (by omega) (.inl rfl) (.inl rfl)
  ·cases hq
def xm:Nat:=2147483649
theorem Nh:EnvOK Tryz.prog (ak B3 (H5 xm) R3 []):=bJ Xm (aes xm)
end
end Go.Proofs.YtpceahbengfjeaaGreatDoor
