/- Trees of functions, and lemmas. Nothing here is trusted. -/
import Derived.Test.YtpceahbengfjeaaGreatDoorZ27
import Derived.Test.YtpceahbengfjeaaGreatDoorZ18
namespace Go.Proofs.YtpceahbengfjeaaGreatDoor
open Go.Ev
set_option linter.unusedVariables false
section
set_option maxRecDepth 10000
def ae1:FuncId×TypeId×(List AV->Bool)×(List AV->Option D):=(136,4,yes,ent [28,28] (f2 fun x y=>some (.lit (.bool (qj (ae x) (ae y))))))
theorem ada:FnOK Tryz.prog 136 Tryz.f136:=⟨Tryz.func136,rfl,by kernel_rfl⟩
theorem agc: ∀ args d,ae1.2.2.2 args=some d->CallOK Tryz.prog 136 args (aj Tryz.prog 4 d):=
 gD ada fun x y d h _ _=>by
  cases h
  rw[nI,nI]
  refine aI hm acF ada ((ag4 1 x y).trans ?_)
  rw[m4]
  rfl
def afs:Go.Shelf.Ren:=⟨fun|4=>171|n=>n,fun|22=>67|25=>59|n=>n,fun|n=>n⟩
def agH:Go.Shelf.Ren:=⟨fun|4=>172|n=>n,fun|22=>28|25=>3|n=>n,fun|n=>n⟩
theorem ZV:Go.Proofs.Lays8.n4 Tryz.prog afs:= {
 mixed:=hm
 f4:=⟨Tryz.f171.name,by kernel_rfl,Tryz.func171.trans (congrArg some (by kernel_rfl))⟩
 t0:=Tryz.underlying0
 a0:=Tryz.isAgg0
 z0:=Tryz.sizeOf0
 v0:=Tryz.zeroValue0
 t3:=Tryz.underlying3
 a3:=Tryz.isAgg3
 z3:=Tryz.sizeOf3
 v3:=Tryz.zeroValue3
 t4:=Tryz.underlying4
 a4:=Tryz.isAgg4
 z4:=Tryz.sizeOf4
 v4:=Tryz.zeroValue4
 t9:=Tryz.underlying9
 a9:=Tryz.isAgg9
 z9:=Tryz.sizeOf9
 v9:=Tryz.zeroValue9
 t20:=Tryz.underlying20
 a20:=Tryz.isAgg20
 z20:=Tryz.sizeOf20
 v20:=Tryz.zeroValue20
 t22:=Tryz.underlying67
 a22:=Tryz.isAgg67
 z22:=Tryz.sizeOf67
 v22:=Tryz.zeroValue67 }
theorem aaf:Go.Proofs.Lays8.n4 Tryz.prog agH:= {
 mixed:=hm
 f4:=⟨Tryz.f172.name,by kernel_rfl,Tryz.func172.trans (congrArg some (by kernel_rfl))⟩
 t0:=Tryz.underlying0
 a0:=Tryz.isAgg0
 z0:=Tryz.sizeOf0
 v0:=Tryz.zeroValue0
 t3:=Tryz.underlying3
 a3:=Tryz.isAgg3
 z3:=Tryz.sizeOf3
 v3:=Tryz.zeroValue3
 t4:=Tryz.underlying4
 a4:=Tryz.isAgg4
 z4:=Tryz.sizeOf4
 v4:=Tryz.zeroValue4
 t9:=Tryz.underlying9
 a9:=Tryz.isAgg9
 z9:=Tryz.sizeOf9
 v9:=Tryz.zeroValue9
 t20:=Tryz.underlying20
 a20:=Tryz.isAgg20
 z20:=Tryz.sizeOf20
 v20:=Tryz.zeroValue20
 t22:=Tryz.underlying28
 a22:=Tryz.isAgg28
 z22:=Tryz.sizeOf28
 v22:=Tryz.zeroValue28 }
theorem Ye:sliceOf Tryz.prog 67=some 59:=by kernel_rfl
theorem V3:sliceOf Tryz.prog 28=some 3:=by kernel_rfl
theorem Az {t:TypeId} {q:Int->Bool} {ys:List AV} (h:Il t q ys=true): ∃ x y,ys=[x,y]/\x.ix=2/\y.ty=t/\q (intD y.d)=true:=by
 match ys,h with
 | [x,y],h=>
  unfold Il at h
  rw[Bool.and_eq_true,Bool.and_eq_true,beq_iff_eq,beq_iff_eq]at h
  exact⟨x,y,rfl,h.1,h.2.1,h.2.2⟩
theorem Ze: ∀ args k d,Il 3 qZ args=true->(some (2,(.slice [] []:D)):Option (Nat×D))=some (k,d)->qR Tryz.prog 171 args 67 k d:=by
 intro args k d hp hd
 cases hd
 obtain⟨x,y,rfl,h1,h2,h3⟩:=Az hp
 unfold qZ at h3
 rw[Bool.and_eq_true,decide_eq_true_eq,decide_eq_true_eq]at h3
 exact OM ZV Ye h1 (by rw[h2];exact u3) h3.1 h3.2
theorem YE: ∀ args k d,Il 3 qZ args=true->(some (2,(.slice [] []:D)):Option (Nat×D))=some (k,d)->qR Tryz.prog 172 args 28 k d:=by
 intro args k d hp hd
 cases hd
 obtain⟨x,y,rfl,h1,h2,h3⟩:=Az hp
 unfold qZ at h3
 rw[Bool.and_eq_true,decide_eq_true_eq,decide_eq_true_eq]at h3
 exact OM aaf V3 h1 (by rw[h2];exact u3) h3.1 h3.2
theorem YD: ∀ args k d,Il 3 xx args=true->(some (1,(.slice [] []:D)):Option (Nat×D))=some (k,d)->qR Tryz.prog 171 args 67 k d:=by
 intro args k d hp hd
 cases hd
 obtain⟨x,y,rfl,h1,h2,h3⟩:=Az hp
 unfold xx at h3
 rw[beq_iff_eq]at h3
 exact NV ZV Ye h1 (by rw[h2];exact u3) h3
theorem YI: ∀ args k d,Il 3 xx args=true->(some (1,(.slice [] []:D)):Option (Nat×D))=some (k,d)->qR Tryz.prog 172 args 28 k d:=by
 intro args k d hp hd
 cases hd
 obtain⟨x,y,rfl,h1,h2,h3⟩:=Az hp
 unfold xx at h3
 rw[beq_iff_eq]at h3
 exact NV aaf V3 h1 (by rw[h2];exact u3) h3
def FGP:Ol:=[(171,67,Il 3 qZ,fun _=>some (2,.slice [] [])),(172,28,Il 3 qZ,fun _=>some (2,.slice [] []))]
def FGZ:Ol:=[(171,67,Il 3 xx,fun _=>some (1,.slice [] [])),(172,28,Il 3 xx,fun _=>some (1,.slice [] []))]
theorem ZT:EnvOK Tryz.prog (ak B2 [] [] FGP):=qI (qI qX YE) Ze
theorem ZO:EnvOK Tryz.prog (ak B2 [] [] FGZ):=qI (qI qX YI) YD
end
/- slices.Concat[[]roadbook/api.Val,roadbook/api.Val] -/
def qm:ay:=fun i=>if i=3 then some ([1,2,4,5,6,7,8,12,13,14,15,16,17,18,19,20,21,22,23,24,25,26,27,28,29,30,31,32,33,34,35],[],[])else if i=11 then some ([0,1,2,3,4,5,7,8,9,10,11,12,13,14,15,16,17,18,19,20,21,22,23,24,28,29,30,31,32,33,34,35],[24],[])else none
def tJ (P:Program) (fn:Func) (N n:Nat) (x0:D) (v3:Int) (v11:Int):Option AV:=aN (preL qm (sub [1,1,0,1,0,0] (ag fn))) (az P (ak B2 [] [] FGP) qm N (sub [1,1,0,1,0,0] (ag fn))) n ⟨[dat 35 x0,dead,dead,dat 3 (.lit (.int .i64 v3)),dead,dead,dead,dead,dead,dat 35 x0,dat 3 (.lit (.int .i64 ((ae x0).length:Int))),dat 3 (.lit (.int .i64 v11)),dead,dead,dead,dead,dead,dead,dead,dead,dead,dead,dead,dead,dead,dead,dead,dead,dead,dead,dead,dead,dead,dead,dead,dead],aZ []⟩ (aG 0 (cZ P (ak B2 [] [] FGP) qm N (sub [1,1,1] (ag fn)) (dJ P fn)))
def qK (P:Program) (fn:Func) (N n:Nat) (x0:D) (v3:Int) (v11:Int) (m0:Nat) (v27:Int) (b24:List D):Option AV:=aN (preL qm (sub [1,1,1,1,0,1,0,0] (ag fn))) (az P (ak B2 [] [] FGP) qm N (sub [1,1,1,1,0,1,0,0] (ag fn))) n ⟨[dead,dead,dead,dead,dead,dead,bxp 24 67,dead,dead,dead,dead,dead,dead,dead,dead,dead,dead,dead,dead,dead,dead,dead,dead,dead,dead,dat 35 x0,dat 3 (.lit (.int .i64 ((ae x0).length:Int))),dat 3 (.lit (.int .i64 v27)),dead,dead,dead,dead,dead,dead,dead,dead],aZ [(24,some ⟨67,.slice b24 [],2,none⟩)]⟩ (aG 2 (cZ P (ak B2 [] [] FGP) qm N (sub [1,1,1,1,1] (ag fn)) (dJ P fn)))
theorem Cm (N n:Nat) (x0:D) (v3:Int) (v11:Int) (m0:Nat) (v27:Int) (b24:List D):qK Tryz.prog Tryz.f137 N (n+1) x0 v3 v11 m0 v27 b24=
 bif decide (v27<((ae x0).length:Int))then
  bif (decide (0<=v27)&&decide (v27<((ae x0).length:Int)))then
   bif decide ((b24).length+(ae ((ae x0).getD (v27).toNat .nil)).length<=2147483648)then
    qK Tryz.prog Tryz.f137 N n x0 v3 v11 m0 (IntKind.wrap .i64 (v27+1)) (b24++(ae ((ae x0).getD (v27).toNat .nil)))
   else none
  else none
 else some (dat 67 (.slice b24 [])):=by kernel_rfl
theorem Em (N n:Nat) (x0:D) (v3:Int) (v11:Int):tJ Tryz.prog Tryz.f137 N (n+1) x0 v3 v11=
 bif decide (v11<((ae x0).length:Int))then
  bif (decide (0<=v11)&&decide (v11<((ae x0).length:Int)))then
   bif decide ((IntKind.wrap .i64 (v3+((ae ((ae x0).getD (v11).toNat .nil)).length:Int)))<0)then
    none
   else tJ Tryz.prog Tryz.f137 N n x0 (IntKind.wrap .i64 (v3+((ae ((ae x0).getD (v11).toNat .nil)).length:Int))) (IntKind.wrap .i64 (v11+1))
  else none
 else bif qZ v3 then
   qK Tryz.prog Tryz.f137 N N x0 v3 v11 n 0 []
  else none:=by kernel_rfl
theorem aaz (N:Nat) (x0:D):aU Tryz.prog (ak B2 [] [] FGP) qm N Tryz.f137 [dat 35 x0]=
 tJ Tryz.prog Tryz.f137 N N x0 0 0:=by kernel_rfl
/- slices.Concat[[]roadbook/api.Val,roadbook/api.Val] -/
def qh:ay:=fun i=>if i=3 then some ([1,2,4,5,6,7,8,12,13,14,15,16,17,18,19,20,21,22,23,24,25,26,27,28,29,30,31,32,33,34,35],[],[])else if i=11 then some ([0,1,2,3,4,5,7,8,9,10,11,12,13,14,15,16,17,18,19,20,21,22,23,24,28,29,30,31,32,33,34,35],[24],[])else none
def uk (P:Program) (fn:Func) (N n:Nat) (x0:D) (v3:Int) (v11:Int):Option AV:=aN (preL qh (sub [1,1,0,1,0,0] (ag fn))) (az P (ak B2 [] [] FGZ) qh N (sub [1,1,0,1,0,0] (ag fn))) n ⟨[dat 35 x0,dead,dead,dat 3 (.lit (.int .i64 v3)),dead,dead,dead,dead,dead,dat 35 x0,dat 3 (.lit (.int .i64 ((ae x0).length:Int))),dat 3 (.lit (.int .i64 v11)),dead,dead,dead,dead,dead,dead,dead,dead,dead,dead,dead,dead,dead,dead,dead,dead,dead,dead,dead,dead,dead,dead,dead,dead],aZ []⟩ (aG 0 (cZ P (ak B2 [] [] FGZ) qh N (sub [1,1,1] (ag fn)) (dJ P fn)))
def qE (P:Program) (fn:Func) (N n:Nat) (x0:D) (v3:Int) (v11:Int) (m0:Nat) (v27:Int) (b24:List D):Option AV:=aN (preL qh (sub [1,1,1,1,0,1,0,0] (ag fn))) (az P (ak B2 [] [] FGZ) qh N (sub [1,1,1,1,0,1,0,0] (ag fn))) n ⟨[dead,dead,dead,dead,dead,dead,bxp 24 67,dead,dead,dead,dead,dead,dead,dead,dead,dead,dead,dead,dead,dead,dead,dead,dead,dead,dead,dat 35 x0,dat 3 (.lit (.int .i64 ((ae x0).length:Int))),dat 3 (.lit (.int .i64 v27)),dead,dead,dead,dead,dead,dead,dead,dead],aZ [(24,some ⟨67,.slice b24 [],1,none⟩)]⟩ (aG 2 (cZ P (ak B2 [] [] FGZ) qh N (sub [1,1,1,1,1] (ag fn)) (dJ P fn)))
theorem BH (N n:Nat) (x0:D) (v3:Int) (v11:Int) (m0:Nat) (v27:Int) (b24:List D):qE Tryz.prog Tryz.f137 N (n+1) x0 v3 v11 m0 v27 b24=
 bif decide (v27<((ae x0).length:Int))then
  bif (decide (0<=v27)&&decide (v27<((ae x0).length:Int)))then
   bif decide ((b24).length+(ae ((ae x0).getD (v27).toNat .nil)).length<=2147483648)then
    qE Tryz.prog Tryz.f137 N n x0 v3 v11 m0 (IntKind.wrap .i64 (v27+1)) (b24++(ae ((ae x0).getD (v27).toNat .nil)))
   else none
  else none
 else some (dat 67 (.slice b24 [])):=by kernel_rfl
theorem Ei (N n:Nat) (x0:D) (v3:Int) (v11:Int):uk Tryz.prog Tryz.f137 N (n+1) x0 v3 v11=
 bif decide (v11<((ae x0).length:Int))then
  bif (decide (0<=v11)&&decide (v11<((ae x0).length:Int)))then
   bif decide ((IntKind.wrap .i64 (v3+((ae ((ae x0).getD (v11).toNat .nil)).length:Int)))<0)then
    none
   else uk Tryz.prog Tryz.f137 N n x0 (IntKind.wrap .i64 (v3+((ae ((ae x0).getD (v11).toNat .nil)).length:Int))) (IntKind.wrap .i64 (v11+1))
  else none
 else bif xx v3 then
   qE Tryz.prog Tryz.f137 N N x0 v3 v11 n 0 []
  else none:=by kernel_rfl
theorem ab3 (N:Nat) (x0:D):aU Tryz.prog (ak B2 [] [] FGZ) qh N Tryz.f137 [dat 35 x0]=
 uk Tryz.prog Tryz.f137 N N x0 0 0:=by kernel_rfl
/- slices.Concat[[]int,int] -/
def qp:ay:=fun i=>if i=3 then some ([1,2,4,5,6,7,8,12,13,14,15,16,17,18,19,20,21,22,23,24,25,26,27,28,29,30,31,32,33,34,35],[],[])else if i=11 then some ([0,1,2,3,4,5,7,8,9,10,11,12,13,14,15,16,17,18,19,20,21,22,23,24,28,29,30,31,32,33,34,35],[24],[])else none
def tu (P:Program) (fn:Func) (N n:Nat) (x0:D) (v3:Int) (v11:Int):Option AV:=aN (preL qp (sub [1,1,0,1,0,0] (ag fn))) (az P (ak B2 [] [] FGP) qp N (sub [1,1,0,1,0,0] (ag fn))) n ⟨[dat 167 x0,dead,dead,dat 3 (.lit (.int .i64 v3)),dead,dead,dead,dead,dead,dat 167 x0,dat 3 (.lit (.int .i64 ((ae x0).length:Int))),dat 3 (.lit (.int .i64 v11)),dead,dead,dead,dead,dead,dead,dead,dead,dead,dead,dead,dead,dead,dead,dead,dead,dead,dead,dead,dead,dead,dead,dead,dead],aZ []⟩ (aG 0 (cZ P (ak B2 [] [] FGP) qp N (sub [1,1,1] (ag fn)) (dJ P fn)))
def qF (P:Program) (fn:Func) (N n:Nat) (x0:D) (v3:Int) (v11:Int) (m0:Nat) (v27:Int) (b24:List D):Option AV:=aN (preL qp (sub [1,1,1,1,0,1,0,0] (ag fn))) (az P (ak B2 [] [] FGP) qp N (sub [1,1,1,1,0,1,0,0] (ag fn))) n ⟨[dead,dead,dead,dead,dead,dead,bxp 24 28,dead,dead,dead,dead,dead,dead,dead,dead,dead,dead,dead,dead,dead,dead,dead,dead,dead,dead,dat 167 x0,dat 3 (.lit (.int .i64 ((ae x0).length:Int))),dat 3 (.lit (.int .i64 v27)),dead,dead,dead,dead,dead,dead,dead,dead],aZ [(24,some ⟨28,.slice b24 [],2,none⟩)]⟩ (aG 2 (cZ P (ak B2 [] [] FGP) qp N (sub [1,1,1,1,1] (ag fn)) (dJ P fn)))
theorem BD (N n:Nat) (x0:D) (v3:Int) (v11:Int) (m0:Nat) (v27:Int) (b24:List D):qF Tryz.prog Tryz.f138 N (n+1) x0 v3 v11 m0 v27 b24=
 bif decide (v27<((ae x0).length:Int))then
  bif (decide (0<=v27)&&decide (v27<((ae x0).length:Int)))then
   bif decide ((b24).length+(ae ((ae x0).getD (v27).toNat .nil)).length<=2147483648)then
    qF Tryz.prog Tryz.f138 N n x0 v3 v11 m0 (IntKind.wrap .i64 (v27+1)) (b24++(ae ((ae x0).getD (v27).toNat .nil)))
   else none
  else none
 else some (dat 28 (.slice b24 [])):=by kernel_rfl
theorem Es (N n:Nat) (x0:D) (v3:Int) (v11:Int):tu Tryz.prog Tryz.f138 N (n+1) x0 v3 v11=
 bif decide (v11<((ae x0).length:Int))then
  bif (decide (0<=v11)&&decide (v11<((ae x0).length:Int)))then
   bif decide ((IntKind.wrap .i64 (v3+((ae ((ae x0).getD (v11).toNat .nil)).length:Int)))<0)then
    none
   else tu Tryz.prog Tryz.f138 N n x0 (IntKind.wrap .i64 (v3+((ae ((ae x0).getD (v11).toNat .nil)).length:Int))) (IntKind.wrap .i64 (v11+1))
  else none
 else bif qZ v3 then
   qF Tryz.prog Tryz.f138 N N x0 v3 v11 n 0 []
  else none:=by kernel_rfl
theorem abh (N:Nat) (x0:D):aU Tryz.prog (ak B2 [] [] FGP) qp N Tryz.f138 [dat 167 x0]=
 tu Tryz.prog Tryz.f138 N N x0 0 0:=by kernel_rfl
/- slices.Concat[[]int,int] -/
def pJ:ay:=fun i=>if i=3 then some ([1,2,4,5,6,7,8,12,13,14,15,16,17,18,19,20,21,22,23,24,25,26,27,28,29,30,31,32,33,34,35],[],[])else if i=11 then some ([0,1,2,3,4,5,7,8,9,10,11,12,13,14,15,16,17,18,19,20,21,22,23,24,28,29,30,31,32,33,34,35],[24],[])else none
def ul (P:Program) (fn:Func) (N n:Nat) (x0:D) (v3:Int) (v11:Int):Option AV:=aN (preL pJ (sub [1,1,0,1,0,0] (ag fn))) (az P (ak B2 [] [] FGZ) pJ N (sub [1,1,0,1,0,0] (ag fn))) n ⟨[dat 167 x0,dead,dead,dat 3 (.lit (.int .i64 v3)),dead,dead,dead,dead,dead,dat 167 x0,dat 3 (.lit (.int .i64 ((ae x0).length:Int))),dat 3 (.lit (.int .i64 v11)),dead,dead,dead,dead,dead,dead,dead,dead,dead,dead,dead,dead,dead,dead,dead,dead,dead,dead,dead,dead,dead,dead,dead,dead],aZ []⟩ (aG 0 (cZ P (ak B2 [] [] FGZ) pJ N (sub [1,1,1] (ag fn)) (dJ P fn)))
def rf (P:Program) (fn:Func) (N n:Nat) (x0:D) (v3:Int) (v11:Int) (m0:Nat) (v27:Int) (b24:List D):Option AV:=aN (preL pJ (sub [1,1,1,1,0,1,0,0] (ag fn))) (az P (ak B2 [] [] FGZ) pJ N (sub [1,1,1,1,0,1,0,0] (ag fn))) n ⟨[dead,dead,dead,dead,dead,dead,bxp 24 28,dead,dead,dead,dead,dead,dead,dead,dead,dead,dead,dead,dead,dead,dead,dead,dead,dead,dead,dat 167 x0,dat 3 (.lit (.int .i64 ((ae x0).length:Int))),dat 3 (.lit (.int .i64 v27)),dead,dead,dead,dead,dead,dead,dead,dead],aZ [(24,some ⟨28,.slice b24 [],1,none⟩)]⟩ (aG 2 (cZ P (ak B2 [] [] FGZ) pJ N (sub [1,1,1,1,1] (ag fn)) (dJ P fn)))
theorem CE (N n:Nat) (x0:D) (v3:Int) (v11:Int) (m0:Nat) (v27:Int) (b24:List D):rf Tryz.prog Tryz.f138 N (n+1) x0 v3 v11 m0 v27 b24=
 bif decide (v27<((ae x0).length:Int))then
  bif (decide (0<=v27)&&decide (v27<((ae x0).length:Int)))then
   bif decide ((b24).length+(ae ((ae x0).getD (v27).toNat .nil)).length<=2147483648)then
    rf Tryz.prog Tryz.f138 N n x0 v3 v11 m0 (IntKind.wrap .i64 (v27+1)) (b24++(ae ((ae x0).getD (v27).toNat .nil)))
   else none
  else none
 else some (dat 28 (.slice b24 [])):=by kernel_rfl
theorem Eg (N n:Nat) (x0:D) (v3:Int) (v11:Int):ul Tryz.prog Tryz.f138 N (n+1) x0 v3 v11=
 bif decide (v11<((ae x0).length:Int))then
  bif (decide (0<=v11)&&decide (v11<((ae x0).length:Int)))then
   bif decide ((IntKind.wrap .i64 (v3+((ae ((ae x0).getD (v11).toNat .nil)).length:Int)))<0)then
    none
   else ul Tryz.prog Tryz.f138 N n x0 (IntKind.wrap .i64 (v3+((ae ((ae x0).getD (v11).toNat .nil)).length:Int))) (IntKind.wrap .i64 (v11+1))
  else none
 else bif xx v3 then
   rf Tryz.prog Tryz.f138 N N x0 v3 v11 n 0 []
  else none:=by kernel_rfl
theorem ab7 (N:Nat) (x0:D):aU Tryz.prog (ak B2 [] [] FGZ) pJ N Tryz.f138 [dat 167 x0]=
 ul Tryz.prog Tryz.f138 N N x0 0 0:=by kernel_rfl
section
set_option maxRecDepth 10000
set_option linter.unusedSimpArgs false
theorem Ho {N m0:Nat} {x0:D} {v3 v11:Int} (hl:(ae x0).length<=1000) (hs:bK (ae x0)<=1000000): ∀ (n i:Nat) (acc:List D),i<=(ae x0).length->(ae x0).length - i<n->acc=jw ((ae x0).take i)->
  qK Tryz.prog Tryz.f137 N n x0 v3 v11 m0 (i:Int) acc=some (dat 67 (.slice (jw (ae x0)) []))
 |0,i,acc,_,h,_=>by omega
 |n+1,i,acc,hi,h,ha=>by
  rw[Cm]
  by_cases hlt:i<(ae x0).length
  ·have w1:IntKind.wrap .i64 ((i:Int)+1)=((i+1:Nat):Int):=by rw[aH (l_in (by omega) (by omega))];omega
   have b1:=iG (ae x0) (i+1)
   have b2:=iH hlt
   have b3:acc.length=bK ((ae x0).take i):=by rw[ha,zG]
   have g1:decide (acc.length+(ae (ae x0)[i]).length<=2147483648)=true:=by rw[decide_eq_true_eq];omega
   rw[bG hlt,eY hlt,Int.toNat_natCast,dA hlt,w1,g1,cond_true,cond_true,cond_true]
   exact Ho hl hs n (i+1) _ (by omega) (by omega) (by rw[ha,uG hlt])
  ·rw[fB hlt,cond_false,ha,List.take_of_length_le (by omega)]
theorem I5 {N:Nat} {x0:D} (hN:(ae x0).length<N) (hl:(ae x0).length<=1000) (hs:bK (ae x0)<=1000000) (hg:qZ ((bK (ae x0):Nat):Int)=true): ∀ (n i:Nat),i<=(ae x0).length->(ae x0).length - i<n->
  tJ Tryz.prog Tryz.f137 N n x0 ((bK ((ae x0).take i):Nat):Int) (i:Int)=some (dat 67 (.slice (jw (ae x0)) []))
 |0,i,_,h=>by omega
 |n+1,i,hi,h=>by
  rw[Em]
  by_cases hlt:i<(ae x0).length
  ·have w1:IntKind.wrap .i64 ((i:Int)+1)=((i+1:Nat):Int):=by rw[aH (l_in (by omega) (by omega))];omega
   have b1:=iG (ae x0) (i+1)
   have b2:=iH hlt
   have w2:IntKind.wrap .i64 (((bK ((ae x0).take i):Nat):Int)+((ae (ae x0)[i]).length:Int))=((bK ((ae x0).take (i+1)):Nat):Int):=by rw[aH (l_in (by omega) (by omega))];omega
   have g1:decide (((bK ((ae x0).take (i+1)):Nat):Int)<0)=false:=by rw[decide_eq_false_iff_not];omega
   rw[bG hlt,eY hlt,Int.toNat_natCast,dA hlt,w1,w2,g1,cond_true,cond_true,cond_false]
   exact I5 hN hl hs hg n (i+1) (by omega) (by omega)
  ·rw[fB hlt,cond_false,List.take_of_length_le (by omega),hg,cond_true]
   exact Ho hl hs N 0 [] (Nat.zero_le _) (by omega) rfl
theorem Fb {N m0:Nat} {x0:D} {v3 v11:Int} (hl:(ae x0).length<=1000) (hs:bK (ae x0)<=1000000): ∀ (n i:Nat) (acc:List D),i<=(ae x0).length->(ae x0).length - i<n->acc=jw ((ae x0).take i)->
  qE Tryz.prog Tryz.f137 N n x0 v3 v11 m0 (i:Int) acc=some (dat 67 (.slice (jw (ae x0)) []))
 |0,i,acc,_,h,_=>by omega
 |n+1,i,acc,hi,h,ha=>by
  rw[BH]
  by_cases hlt:i<(ae x0).length
  ·have w1:IntKind.wrap .i64 ((i:Int)+1)=((i+1:Nat):Int):=by rw[aH (l_in (by omega) (by omega))];omega
   have b1:=iG (ae x0) (i+1)
   have b2:=iH hlt
   have b3:acc.length=bK ((ae x0).take i):=by rw[ha,zG]
   have g1:decide (acc.length+(ae (ae x0)[i]).length<=2147483648)=true:=by rw[decide_eq_true_eq];omega
   rw[bG hlt,eY hlt,Int.toNat_natCast,dA hlt,w1,g1,cond_true,cond_true,cond_true]
   exact Fb hl hs n (i+1) _ (by omega) (by omega) (by rw[ha,uG hlt])
  ·rw[fB hlt,cond_false,ha,List.take_of_length_le (by omega)]
theorem JR {N:Nat} {x0:D} (hN:(ae x0).length<N) (hl:(ae x0).length<=1000) (hs:bK (ae x0)<=1000000) (hg:xx ((bK (ae x0):Nat):Int)=true): ∀ (n i:Nat),i<=(ae x0).length->(ae x0).length - i<n->
  uk Tryz.prog Tryz.f137 N n x0 ((bK ((ae x0).take i):Nat):Int) (i:Int)=some (dat 67 (.slice (jw (ae x0)) []))
 |0,i,_,h=>by omega
 |n+1,i,hi,h=>by
  rw[Ei]
  by_cases hlt:i<(ae x0).length
  ·have w1:IntKind.wrap .i64 ((i:Int)+1)=((i+1:Nat):Int):=by rw[aH (l_in (by omega) (by omega))];omega
   have b1:=iG (ae x0) (i+1)
   have b2:=iH hlt
   have w2:IntKind.wrap .i64 (((bK ((ae x0).take i):Nat):Int)+((ae (ae x0)[i]).length:Int))=((bK ((ae x0).take (i+1)):Nat):Int):=by rw[aH (l_in (by omega) (by omega))];omega
   have g1:decide (((bK ((ae x0).take (i+1)):Nat):Int)<0)=false:=by rw[decide_eq_false_iff_not];omega
   rw[bG hlt,eY hlt,Int.toNat_natCast,dA hlt,w1,w2,g1,cond_true,cond_true,cond_false]
   exact JR hN hl hs hg n (i+1) (by omega) (by omega)
  ·rw[fB hlt,cond_false,List.take_of_length_le (by omega),hg,cond_true]
   exact Fb hl hs N 0 [] (Nat.zero_le _) (by omega) rfl
def e137:FuncId×TypeId×(List AV->Bool)×(List AV->Option D):=(137,67,jU (q1 fun x=>Be (ae x)),ent [35] (f1 fun x=>some (.slice (jw (ae x)) [])))
theorem aaG:FnOK Tryz.prog 137 Tryz.f137:=⟨Tryz.func137,rfl,by kernel_rfl⟩
theorem ae8 (x:D):bD Tryz.prog 35 x=x:=by kernel_rfl
theorem aad (x:D):aj Tryz.prog 67 x=dat 67 x:=by kernel_rfl
theorem agz: ∀ args d,e137.2.2.1 args=true->e137.2.2.2 args=some d->CallOK Tryz.prog 137 args (aj Tryz.prog 67 d):=
 Oa aaG fun x d hq h _=>by
  cases h
  rw[ae8]
  unfold Be at hq
  rw[Bool.and_eq_true,decide_eq_true_eq,decide_eq_true_eq]at hq
  by_cases h0:bK (ae x)=0
  ·refine aI hm ZO aaG ((ab3 ((ae x).length+1) x).trans ?_)
   rw[aad]
   have:=JR (N:=(ae x).length+1) (x0:=x) (by omega) hq.1 hq.2 (by rw[h0];rfl) ((ae x).length+1) 0 (Nat.zero_le _) (by omega)
   exact this
  ·refine aI hm ZT aaG ((aaz ((ae x).length+1) x).trans ?_)
   rw[aad]
   have hg:qZ ((bK (ae x):Nat):Int)=true:=by
    unfold qZ
    rw[Bool.and_eq_true,decide_eq_true_eq,decide_eq_true_eq]
    omega
   have:=I5 (N:=(ae x).length+1) (x0:=x) (by omega) hq.1 hq.2 hg ((ae x).length+1) 0 (Nat.zero_le _) (by omega)
   exact this
theorem G5 {N m0:Nat} {x0:D} {v3 v11:Int} (hl:(ae x0).length<=1000) (hs:bK (ae x0)<=1000000): ∀ (n i:Nat) (acc:List D),i<=(ae x0).length->(ae x0).length - i<n->acc=jw ((ae x0).take i)->
  qF Tryz.prog Tryz.f138 N n x0 v3 v11 m0 (i:Int) acc=some (dat 28 (.slice (jw (ae x0)) []))
 |0,i,acc,_,h,_=>by omega
 |n+1,i,acc,hi,h,ha=>by
  rw[BD]
  by_cases hlt:i<(ae x0).length
  ·have w1:IntKind.wrap .i64 ((i:Int)+1)=((i+1:Nat):Int):=by rw[aH (l_in (by omega) (by omega))];omega
   have b1:=iG (ae x0) (i+1)
   have b2:=iH hlt
   have b3:acc.length=bK ((ae x0).take i):=by rw[ha,zG]
   have g1:decide (acc.length+(ae (ae x0)[i]).length<=2147483648)=true:=by rw[decide_eq_true_eq];omega
   rw[bG hlt,eY hlt,Int.toNat_natCast,dA hlt,w1,g1,cond_true,cond_true,cond_true]
   exact G5 hl hs n (i+1) _ (by omega) (by omega) (by rw[ha,uG hlt])
  ·rw[fB hlt,cond_false,ha,List.take_of_length_le (by omega)]
theorem JE {N:Nat} {x0:D} (hN:(ae x0).length<N) (hl:(ae x0).length<=1000) (hs:bK (ae x0)<=1000000) (hg:qZ ((bK (ae x0):Nat):Int)=true): ∀ (n i:Nat),i<=(ae x0).length->(ae x0).length - i<n->
  tu Tryz.prog Tryz.f138 N n x0 ((bK ((ae x0).take i):Nat):Int) (i:Int)=some (dat 28 (.slice (jw (ae x0)) []))
 |0,i,_,h=>by omega
 |n+1,i,hi,h=>by
  rw[Es]
  by_cases hlt:i<(ae x0).length
  ·have w1:IntKind.wrap .i64 ((i:Int)+1)=((i+1:Nat):Int):=by rw[aH (l_in (by omega) (by omega))];omega
   have b1:=iG (ae x0) (i+1)
   have b2:=iH hlt
   have w2:IntKind.wrap .i64 (((bK ((ae x0).take i):Nat):Int)+((ae (ae x0)[i]).length:Int))=((bK ((ae x0).take (i+1)):Nat):Int):=by rw[aH (l_in (by omega) (by omega))];omega
   have g1:decide (((bK ((ae x0).take (i+1)):Nat):Int)<0)=false:=by rw[decide_eq_false_iff_not];omega
   rw[bG hlt,eY hlt,Int.toNat_natCast,dA hlt,w1,w2,g1,cond_true,cond_true,cond_false]
   exact JE hN hl hs hg n (i+1) (by omega) (by omega)
  ·rw[fB hlt,cond_false,List.take_of_length_le (by omega),hg,cond_true]
   exact G5 hl hs N 0 [] (Nat.zero_le _) (by omega) rfl
theorem G9 {N m0:Nat} {x0:D} {v3 v11:Int} (hl:(ae x0).length<=1000) (hs:bK (ae x0)<=1000000): ∀ (n i:Nat) (acc:List D),i<=(ae x0).length->(ae x0).length - i<n->acc=jw ((ae x0).take i)->
  rf Tryz.prog Tryz.f138 N n x0 v3 v11 m0 (i:Int) acc=some (dat 28 (.slice (jw (ae x0)) []))
 |0,i,acc,_,h,_=>by omega
 |n+1,i,acc,hi,h,ha=>by
  rw[CE]
  by_cases hlt:i<(ae x0).length
  ·have w1:IntKind.wrap .i64 ((i:Int)+1)=((i+1:Nat):Int):=by rw[aH (l_in (by omega) (by omega))];omega
   have b1:=iG (ae x0) (i+1)
   have b2:=iH hlt
   have b3:acc.length=bK ((ae x0).take i):=by rw[ha,zG]
   have g1:decide (acc.length+(ae (ae x0)[i]).length<=2147483648)=true:=by rw[decide_eq_true_eq];omega
   rw[bG hlt,eY hlt,Int.toNat_natCast,dA hlt,w1,g1,cond_true,cond_true,cond_true]
   exact G9 hl hs n (i+1) _ (by omega) (by omega) (by rw[ha,uG hlt])
  ·rw[fB hlt,cond_false,ha,List.take_of_length_le (by omega)]
theorem Jl {N:Nat} {x0:D} (hN:(ae x0).length<N) (hl:(ae x0).length<=1000) (hs:bK (ae x0)<=1000000) (hg:xx ((bK (ae x0):Nat):Int)=true): ∀ (n i:Nat),i<=(ae x0).length->(ae x0).length - i<n->
  ul Tryz.prog Tryz.f138 N n x0 ((bK ((ae x0).take i):Nat):Int) (i:Int)=some (dat 28 (.slice (jw (ae x0)) []))
 |0,i,_,h=>by omega
 |n+1,i,hi,h=>by
  rw[Eg]
  by_cases hlt:i<(ae x0).length
  ·have w1:IntKind.wrap .i64 ((i:Int)+1)=((i+1:Nat):Int):=by rw[aH (l_in (by omega) (by omega))];omega
   have b1:=iG (ae x0) (i+1)
   have b2:=iH hlt
   have w2:IntKind.wrap .i64 (((bK ((ae x0).take i):Nat):Int)+((ae (ae x0)[i]).length:Int))=((bK ((ae x0).take (i+1)):Nat):Int):=by rw[aH (l_in (by omega) (by omega))];omega
   have g1:decide (((bK ((ae x0).take (i+1)):Nat):Int)<0)=false:=by rw[decide_eq_false_iff_not];omega
   rw[bG hlt,eY hlt,Int.toNat_natCast,dA hlt,w1,w2,g1,cond_true,cond_true,cond_false]
   exact Jl hN hl hs hg n (i+1) (by omega) (by omega)
  ·rw[fB hlt,cond_false,List.take_of_length_le (by omega),hg,cond_true]
   exact G9 hl hs N 0 [] (Nat.zero_le _) (by omega) rfl
def e138:FuncId×TypeId×(List AV->Bool)×(List AV->Option D):=(138,28,jU (q1 fun x=>Be (ae x)),ent [167] (f1 fun x=>some (.slice (jw (ae x)) [])))
theorem acb:FnOK Tryz.prog 138 Tryz.f138:=⟨Tryz.func138,rfl,by kernel_rfl⟩
theorem adx (x:D):bD Tryz.prog 167 x=x:=by kernel_rfl
theorem ZR (x:D):aj Tryz.prog 28 x=dat 28 x:=by kernel_rfl
theorem c138: ∀ args d,e138.2.2.1 args=true->e138.2.2.2 args=some d->CallOK Tryz.prog 138 args (aj Tryz.prog 28 d):=
 Oa acb fun x d hq h _=>by
  cases h
  rw[adx]
  unfold Be at hq
  rw[Bool.and_eq_true,decide_eq_true_eq,decide_eq_true_eq]at hq
  by_cases h0:bK (ae x)=0
  ·refine aI hm ZO acb ((ab7 ((ae x).length+1) x).trans ?_)
   rw[ZR]
   have:=Jl (N:=(ae x).length+1) (x0:=x) (by omega) hq.1 hq.2 (by rw[h0];rfl) ((ae x).length+1) 0 (Nat.zero_le _) (by omega)
   exact this
  ·refine aI hm ZT acb ((abh ((ae x).length+1) x).trans ?_)
   rw[ZR]
   have hg:qZ ((bK (ae x):Nat):Int)=true:=by
    unfold qZ
    rw[Bool.and_eq_true,decide_eq_true_eq,decide_eq_true_eq]
    omega
   have:=JE (N:=(ae x).length+1) (x0:=x) (by omega) hq.1 hq.2 hg ((ae x).length+1) 0 (Nat.zero_le _) (by omega)
   exact this
def C2:Tab:=e137::e138::ae1::B2
theorem ad1:EnvOK Tryz.prog (ak C2 [] [] []):=aO (aO (ah qX agc) c138) agz
end
/- roadbook/bag.Cross -/
def uT:ay:=fun i=>if i=5 then some ([0,1,5,7,8,9,10,11,12,13,14,15,16,17,18,19,20,21,22,23,24,25,26,27,28,29,30,31,32,33,34,35,36,37,38,39,40,41,42,43,44,45,49,50,51,52,53,54,55,56,57,58,59,60,61,62,63,64,65,66,67,68,69,70,71,72,73,74,75],[2,3,4,44],[])else if i=8 then some ([0,1,5,7,9,10,11,12,13,14,15,16,17,18,19,20,21,22,23,24,25,26,27,28,29,30,31,32,33,34,35,36,37,38,39,40,41,42,43,44,45,49,50,51,52,56,57,58,59,60,61,62,63,64,65,66,67,68,69,70,71,72,73,74,75],[2,3,4,44],[])else none
def zU (P:Program) (fn:Func) (N n:Nat) (x0:D) (x1:D) (v48:Int) (b44:List D):Option AV:=aN (preL uT (sub [1,1,1,0,1,0,0] (ag fn))) (az P (ak C2 [] [] []) uT N (sub [1,1,1,0,1,0,0] (ag fn))) n ⟨[dead,dead,bxp 2 37,bxp 3 37,bxp 4 37,dead,bxp 44 35,dead,dead,dead,dead,dead,dead,dead,dead,dead,dead,dead,dead,dead,dead,dead,dead,dead,dead,dead,dead,dead,dead,dead,dead,dead,dead,dead,dead,dead,dead,dead,dead,dead,dead,dead,dead,dead,dead,dead,dat 35 (af x0 1),dat 3 (.lit (.int .i64 ((ae (af x0 1)).length:Int))),dat 3 (.lit (.int .i64 v48)),dead,dead,dead,dead,dead,dead,dead,dead,dead,dead,dead,dead,dead,dead,dead,dead,dead,dead,dead,dead,dead,dead,dead,dead,dead,dead,dead],aZ [(2,some ⟨37,x0,0,none⟩),(3,some ⟨37,x1,0,none⟩),(4,some ⟨37,.agg [.slice [] [],.slice [] []],0,none⟩),(44,some ⟨35,.slice b44 [],2,none⟩)]⟩ (aG 0 (cZ P (ak C2 [] [] []) uT N (sub [1,1,1,1] (ag fn)) (dJ P fn)))
def Ey (P:Program) (fn:Func) (N n:Nat) (x0:D) (x1:D) (v48:Int) (b44:List D) (m0:Nat) (v55:Int) (b44q:List D):Option AV:=aN (preL uT (sub [1,1,1,0,1,0,0,1,1,0,0,1,1,0,0] (ag fn))) (az P (ak C2 [] [] []) uT N (sub [1,1,1,0,1,0,0,1,1,0,0,1,1,0,0] (ag fn))) n ⟨[dead,dead,bxp 2 37,bxp 3 37,bxp 4 37,dead,bxp 44 35,dead,dat 67 ((ae (af x0 1)).getD (v48).toNat .nil),dead,dead,dead,dead,dead,dead,dead,dead,dead,dead,dead,dead,dead,dead,dead,dead,dead,dead,dead,dead,dead,dead,dead,dead,dead,dead,dead,dead,dead,dead,dead,dead,dead,dead,dead,dead,dead,dat 35 (af x0 1),dat 3 (.lit (.int .i64 ((ae (af x0 1)).length:Int))),dat 3 (.lit (.int .i64 v48)),dead,dead,dead,dead,dat 35 (af x1 1),dat 3 (.lit (.int .i64 ((ae (af x1 1)).length:Int))),dat 3 (.lit (.int .i64 v55)),dead,dead,dead,dead,dead,dead,dead,dead,dead,dead,dead,dead,dead,dead,dead,dead,dead,dead,dead,dead],aZ [(2,some ⟨37,x0,0,none⟩),(3,some ⟨37,x1,0,none⟩),(4,some ⟨37,.agg [.slice [] [],.slice [] []],0,none⟩),(44,some ⟨35,.slice b44q [],2,none⟩)]⟩ (aG 2 (aG 1 (cZ P (ak C2 [] [] []) uT N (sub [1,1,1,0,1,0,0,1,1,1] (ag fn)) (Nb (fun s=>aN (preL uT (sub [1,1,1,0,1,0,0] (ag fn))) (az P (ak C2 [] [] []) uT N (sub [1,1,1,0,1,0,0] (ag fn))) m0 ((preL uT (sub [1,1,1,0,1,0,0] (ag fn))) s) (aG 0 (cZ P (ak C2 [] [] []) uT N (sub [1,1,1,1] (ag fn)) (dJ P fn)))) (aG 0 (cZ P (ak C2 [] [] []) uT N (sub [1,1,1,1] (ag fn)) (dJ P fn)))))))
theorem L8 (N n:Nat) (x0:D) (x1:D) (v48:Int) (b44:List D) (m0:Nat) (v55:Int) (b44q:List D):Ey Tryz.prog Tryz.f94 N (n+1) x0 x1 v48 b44 m0 v55 b44q=
 bif decide (v55<((ae (af x1 1)).length:Int))then
  bif (decide (0<=v55)&&decide (v55<((ae (af x1 1)).length:Int)))then
   bif Be [(ae (af x0 1)).getD (v48).toNat .nil,(ae (af x1 1)).getD (v55).toNat .nil]then
    bif decide ((b44q).length+1<=2147483648)then
     Ey Tryz.prog Tryz.f94 N n x0 x1 v48 b44 m0 (IntKind.wrap .i64 (v55+1)) (b44q++[.slice (jw [(ae (af x0 1)).getD (v48).toNat .nil,(ae (af x1 1)).getD (v55).toNat .nil]) []])
    else none
   else none
  else none
 else zU Tryz.prog Tryz.f94 N m0 x0 x1 (IntKind.wrap .i64 (v48+1)) b44q:=by kernel_rfl
theorem LZ (N n:Nat) (x0:D) (x1:D) (v48:Int) (b44:List D):zU Tryz.prog Tryz.f94 N (n+1) x0 x1 v48 b44=
 bif decide (v48<((ae (af x0 1)).length:Int))then
  bif (decide (0<=v48)&&decide (v48<((ae (af x0 1)).length:Int)))then
   Ey Tryz.prog Tryz.f94 N N x0 x1 v48 b44 n 0 b44
  else none
 else bif Be [af x0 0,af x1 0]then
   some (aL [37,4] (.agg [.agg [.slice (jw [af x0 0,af x1 0]) [],.slice b44 []],.lit (.bool true)]))
  else none:=by kernel_rfl
theorem t94 (N:Nat) (x0:D) (x1:D):aU Tryz.prog (ak C2 [] [] []) uT N Tryz.f94 [dat 37 x0,dat 37 x1]=
 bif ((!(bn x0))==false)then
  bif ((!(bn x1))==false)then
   bif ((qj (ae (af x0 0)) (ae (af x1 0)))==false)then
    bif decide ((IntKind.wrap .i64 (((ae (af x0 1)).length:Int)*((ae (af x1 1)).length:Int)))>5000)then
     some (aL [37,4] (.agg [.agg [.slice [] [],.slice [] []],.lit (.bool false)]))
    else bif (decide ((0:Int)<=(IntKind.wrap .i64 (((ae (af x0 1)).length:Int)*((ae (af x1 1)).length:Int))))&&decide (0<=(0:Int))&&decide ((IntKind.wrap .i64 (((ae (af x0 1)).length:Int)*((ae (af x1 1)).length:Int)))<=2147483648))then
      zU Tryz.prog Tryz.f94 N N x0 x1 0 []
     else none
   else some (aL [37,4] (.agg [.agg [.slice [] [],.slice [] []],.lit (.bool false)]))
  else some (aL [37,4] (.agg [.agg [.slice [] [],.slice [] []],.lit (.bool false)]))
 else some (aL [37,4] (.agg [.agg [.slice [] [],.slice [] []],.lit (.bool false)])):=by kernel_rfl
section
set_option maxRecDepth 10000
set_option linter.unusedSimpArgs false
theorem SI {x y:D} (hx:(ae x).length<=5000) (hy:(ae y).length<=5000):Be [x,y]=true:=by
 unfold Be
 rw[QA,Bool.and_eq_true,decide_eq_true_eq,decide_eq_true_eq]
 exact⟨by simp,by omega⟩
section
variable {cs1 cs2 xs ys:List D} {N:Nat} (hx: ∀ x∈xs,(ae x).length<=5000) (hy: ∀ y∈ys,(ae y).length<=5000) (hl:xs.length<=5000) (hm:ys.length<=5000)
include hx hy hm hl
theorem NT {i m0:Nat} {b44:List D} (hi:i<xs.length): ∀ (n j:Nat) (acc:List D),j<=ys.length->ys.length - j<n->acc.length+(ys.length - j)<=5000->
  Ey Tryz.prog Tryz.f94 N n (aX cs1 xs) (aX cs2 ys) (i:Int) b44 m0 (j:Int) acc=zU Tryz.prog Tryz.f94 N m0 (aX cs1 xs) (aX cs2 ys) ((i+1:Nat):Int) (acc++(ys.drop j).map (Fj xs[i]))
 |0,j,acc,_,h,_=>by omega
 |n+1,j,acc,hj,h,ha=>by
  rw[L8,uC,uC]
  by_cases hlt:j<ys.length
  ·have w1:IntKind.wrap .i64 ((j:Int)+1)=((j+1:Nat):Int):=by rw[aH (l_in (by omega) (by omega))];omega
   have g1:decide (acc.length+1<=2147483648)=true:=by rw[decide_eq_true_eq];omega
   rw[bG hlt,eY hlt,Int.toNat_natCast,Int.toNat_natCast,dA hlt,dA hi,w1,g1,SI (hx _ (List.getElem_mem hi)) (hy _ (List.getElem_mem hlt)),Nc,cond_true,cond_true,cond_true,cond_true]
   rw[NT hi n (j+1) _ (by omega) (by omega) (by simp;omega),List.drop_eq_getElem_cons hlt,List.map_cons,List.append_assoc]
   rfl
  ·have w1:IntKind.wrap .i64 ((i:Int)+1)=((i+1:Nat):Int):=by rw[aH (l_in (by omega) (by omega))];omega
   rw[fB hlt,cond_false,w1,List.drop_of_length_le (by omega),List.map_nil,List.append_nil]
theorem J9 (hN:ys.length<N) (hc1:cs1.length<=5000) (hc2:cs2.length<=5000): ∀ (n i:Nat) (acc:List D),i<=xs.length->xs.length - i<n->acc.length+(xs.length - i)*ys.length<=5000->
  zU Tryz.prog Tryz.f94 N n (aX cs1 xs) (aX cs2 ys) (i:Int) acc=some (aL [37,4] (.agg [aX (cs1++cs2) (acc++jH (xs.drop i) ys),.lit (.bool true)]))
 |0,i,acc,_,h,_=>by omega
 |n+1,i,acc,hi,h,ha=>by
  rw[LZ,uC]
  by_cases hlt:i<xs.length
  ·have hk:xs.length - i=(xs.length - (i+1))+1:=by omega
   rw[hk,Nat.succ_mul]at ha
   rw[bG hlt,eY hlt,cond_true,cond_true]
   refine(NT hx hy hl hm hlt N 0 acc (Nat.zero_le _) (by omega) (by omega)).trans ?_
   rw[List.drop_zero,J9 hN hc1 hc2 n (i+1) _ (by omega) (by omega) (by rw[List.length_append,List.length_map];omega),List.drop_eq_getElem_cons hlt]
   have e1:jH (xs[i]::xs.drop (i+1)) ys=ys.map (Fj xs[i])++jH (xs.drop (i+1)) ys:=by unfold jH;rw[List.flatMap_cons]
   rw[e1,List.append_assoc]
  ·have e1:Be [af (aX cs1 xs) 0,af (aX cs2 ys) 0]=true:=SI (x:=af (aX cs1 xs) 0) (y:=af (aX cs2 ys) 0) hc1 hc2
   rw[fB hlt,cond_false,e1,cond_true,Nc,List.drop_of_length_le (by omega)]
   have e2:jH [] ys=[]:=rfl
   rw[e2,List.append_nil]
   rfl
end
def e94:FuncId×TypeId×(List AV->Bool)×(List AV->Option D):=(94,43,yes,ent [37,37] (f2 fun x y=>some (.agg [jf x y,.lit (.bool (jM x y))])))
theorem k94:FnOK Tryz.prog 94 Tryz.f94:=⟨Tryz.func94,rfl,by kernel_rfl⟩
theorem c94: ∀ args d,e94.2.2.2 args=some d->CallOK Tryz.prog 94 args (aj Tryz.prog 43 d):=
 gD k94 fun x y d h ⟨_,hx⟩ ⟨_,hy⟩=>by
  cases h
  rw[nB,nB]
  obtain⟨cs,rs,rfl,_,_,_,_⟩:=tyB hx
  obtain⟨cs',rs',rfl,_,_,_,_⟩:=tyB hy
  refine aI hm ad1 k94 ((t94 (rs.length+rs'.length+1) (aX cs rs) (aX cs' rs')).trans ?_)
  rw[Ua,uC,uC,QR,QR]
  have ho:jM (aX cs rs) (aX cs' rs')=(bn (aX cs rs)&&(bn (aX cs' rs')&&(!qj cs cs'&&decide (rs.length*rs'.length<=5000)))):=rfl
  unfold jf
  rw[ho]
  cases h1:bn (aX cs rs)with
  |false=>rfl
  |true=>
   cases h2:bn (aX cs' rs')with
   |false=>rfl
   |true=>
    cases h3:qj cs cs' with
    |true=>rfl
    |false=>
     have m1:=AZ h1
     have m2:=AZ h2
     have n1:=m1.n
     have n2:=m2.n
     have f1:cs.length<=16:=pM (by unfold bn at h1;rw[Bool.and_eq_true,Bool.and_eq_true]at h1;exact h1.1.1)
     have f2:cs'.length<=16:=pM (by unfold bn at h2;rw[Bool.and_eq_true,Bool.and_eq_true]at h2;exact h2.1.1)
     have hp:rs.length*rs'.length<=5000*5000:=Nat.mul_le_mul n1 n2
     have w1:IntKind.wrap .i64 ((rs.length:Int)*(rs'.length:Int))=((rs.length*rs'.length:Nat):Int):=by
      rw[<-Int.natCast_mul,aH (l_in (by omega) (by omega))]
     rw[w1]
     by_cases h4:rs.length*rs'.length<=5000
     ·have g1:decide (((rs.length*rs'.length:Nat):Int)>5000)=false:=by rw[decide_eq_false_iff_not];omega
      have g2:(decide ((0:Int)<=((rs.length*rs'.length:Nat):Int))&&decide (0<=(0:Int))&&decide (((rs.length*rs'.length:Nat):Int)<=2147483648))=true:=by
       simp only[Bool.and_eq_true,decide_eq_true_eq];omega
      rw[g1,g2,decide_eq_true h4]
      have key:=J9 (cs1:=cs) (cs2:=cs') (xs:=rs) (ys:=rs') (N:=rs.length+rs'.length+1) (fun x hx=>by have:=m1.l x hx;omega) (fun y hy=>by have:=m2.l y hy;omega) n1 n2 (by omega) (by omega) (by omega) (rs.length+rs'.length+1) 0 [] (Nat.zero_le _) (by omega) (by simpa using h4)
      simp only[Bool.not_true,Bool.not_false,beq_self_eq_true,cond_true,cond_false,Bool.and_self]
      exact key
     ·have g1:decide (((rs.length*rs'.length:Nat):Int)>5000)=true:=by rw[decide_eq_true_eq];omega
      rw[g1,decide_eq_false h4]
      rfl
end
end Go.Proofs.YtpceahbengfjeaaGreatDoor
