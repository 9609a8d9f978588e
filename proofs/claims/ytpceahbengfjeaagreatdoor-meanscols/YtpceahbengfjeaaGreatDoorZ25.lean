/- Trees of functions, and lemmas. Nothing here is trusted. -/
import Derived.Test.YtpceahbengfjeaaGreatDoorZ24
import Derived.Test.YtpceahbengfjeaaGreatDoorZ21
namespace Go.Proofs.YtpceahbengfjeaaGreatDoor
open Go.Ev
set_option linter.unusedVariables false
section
set_option maxRecDepth 10000
set_option linter.unusedSimpArgs false
def e64:FuncId×TypeId×(List AV->Bool)×(List AV->Option D):=(64,3,yes,ent [90,90] (f2 fun x y=>some (.lit (.int .i64 (fH x y)))))
theorem k64:FnOK Tryz.prog 64 Tryz.f64:=⟨Tryz.func64,rfl,by kernel_rfl⟩
theorem c64: ∀ args d,e64.2.2.2 args=some d->CallOK Tryz.prog 64 args (aj Tryz.prog 3 d):=
 gD k64 fun x y d h _ _=>by
  cases h
  rw[nK,nK]
  refine aI hm vk k64 ((t64 1 x y).trans ?_)
  rw[m3]
  show _=some (dat 3 (.lit (.int .i64 (fH x y))))
  unfold fH nZ
  cases ((intD (af x 0)==intD (af y 0))&&((intD (af x 1)==intD (af y 1))&&true))<;>cases GG (lI x) (lI y)<;>rfl
def VI:FuncId×TypeId×(List AV->Bool)×(List AV->Option D):=(104,4,yes,ent [28,3] (f2 fun x y=>some (.lit (.bool (hasB (ae x) (intD y))))))
theorem Wx:FnOK Tryz.prog 104 Tryz.f104:=⟨Tryz.func104,rfl,by kernel_rfl⟩
theorem aaP: ∀ args d,VI.2.2.2 args=some d->CallOK Tryz.prog 104 args (aj Tryz.prog 4 d):=
 gD Wx fun x y d h _ _=>by
  cases h
  rw[nI,n3]
  refine aI hm vk Wx ((acv 1 x (intD y)).trans ?_)
  rw[m4]
  show _=some (dat 4 (.lit (.bool (hasB (ae x) (intD y)))))
  have:decide (Lib.idxOf ((ae x).map intD) (intD y)>=0)=hasB (ae x) (intD y):=by
   unfold hasB
   rw[Bool.eq_iff_iff,decide_eq_true_eq]
   have:=Lib.idxOf_nonneg_iff ((ae x).map intD) (intD y)
   exact Iff.of_eq this
  rw[this]
def e20:FuncId×TypeId×(List AV->Bool)×(List AV->Option D):=(20,4,yes,ent [37,37] (f2 fun x y=>some (.lit (.bool (RI x y)))))
theorem k20:FnOK Tryz.prog 20 Tryz.f20:=⟨Tryz.func20,rfl,by kernel_rfl⟩
theorem Yi (a b:D):wC (ae a) (ae b)=(qy a==qy b):=rfl
theorem c20: ∀ args d,e20.2.2.2 args=some d->CallOK Tryz.prog 20 args (aj Tryz.prog 4 d):=
 gD k20 fun x y d h ⟨_,hx⟩ ⟨_,hy⟩=>by
  cases h
  rw[nB,nB]
  obtain⟨cs,rs,rfl,h1,h2,h3,h4⟩:=tyB hx
  obtain⟨cs',rs',rfl,h1',h2',h3',h4'⟩:=tyB hy
  refine aI hm vk k20 ((t20 (rs.length+1) (aX cs rs) (aX cs' rs')).trans ?_)
  rw[m4,uC,QR,uC,QR]
  show _=some (dat 4 (.lit (.bool (ik cs cs'&&(rs.map qy==rs'.map qy)))))
  by_cases hl:rs.length=rs'.length
  ·have:=jl (fun n v=>zt Tryz.prog Tryz.f20 (rs.length+1) n (aX cs rs) (aX cs' rs') v) rs.length (fun i=>!(qy (rs.getD i .nil)==qy (rs'.getD i .nil))) (some (dat 4 (.lit (.bool false)))) (some (dat 4 (.lit (.bool true))))
    (fun n i hi=>by
     rw[zn,uC,uC,bG hi,eY hi,bG (by omega:i<rs'.length),cond_true,cond_true,cond_true,fE h2 hi,Int.toNat_natCast,Yi])
    (fun n=>by rw[zn,uC,fB (by omega),cond_false]) (rs.length+1) 0 (Nat.zero_le _) (by omega)
   have this:zt Tryz.prog Tryz.f20 (rs.length+1) (rs.length+1) (aX cs rs) (aX cs' rs') 0=_:=this
   have h5:=MF qy rs rs' hl
   rw[Sj hl,this,<-h5,Nat.sub_zero]
   cases ik cs cs'<;>cases (List.range' 0 rs.length).any _<;>rfl
  ·have:(rs.map qy==rs'.map qy)=false:=by
    rw[beq_eq_false_iff_ne]
    intro hh
    exact hl (by simpa using congrArg List.length hh)
   rw[Tq hl,this]
   cases ik cs cs'<;>rfl
def e30:FuncId×TypeId×(List AV->Bool)×(List AV->Option D):=(30,4,yes,ent [37] (f1 fun x=>some (.lit (.bool (bn x)))))
theorem k30:FnOK Tryz.prog 30 Tryz.f30:=⟨Tryz.func30,rfl,by kernel_rfl⟩
theorem c30: ∀ args d,e30.2.2.2 args=some d->CallOK Tryz.prog 30 args (aj Tryz.prog 4 d):=
 mY k30 fun x d h _=>by
  cases h
  rw[nB]
  refine aI hm vk k30 ((t30 1 x).trans ?_)
  rw[m4]
  show _=some (dat 4 (.lit (.bool (bn x))))
  unfold bn aK aQ
  have e:decide (((ae (af x 1)).length:Int)<=5000)=decide ((ae (af x 1)).length<=5000):=by
   rw[Bool.eq_iff_iff];simp;omega
  rw[e]
  cases dm (ae (af x 0))<;>cases decide ((ae (af x 1)).length<=5000)<;>rfl
theorem E5 {N:Nat} {x0:D} {x1:Int} (hl:(ae x0).length<=maxLen): ∀ (n i:Nat),i<=(ae x0).length->(ae x0).length - i<n->
  AC Tryz.prog Tryz.f105 N n x0 x1 (i:Int)=some (dat 3 (.lit (.int .i64 ((i+(((ae x0).drop i).takeWhile fun r=>nZ (fC (ae r) x1) (fC (ae ((ae x0).getD 0 .nil)) x1)).length:Nat):Int))))
 |0,i,_,h=>by omega
 |n+1,i,hi,h=>by
  rw[Ie]
  by_cases hlt:i<(ae x0).length
  ·rw[bG hlt,eY hlt,Int.toNat_natCast,dA hlt,fE hl hlt,E5 hl n (i+1) (by omega) (by omega),List.drop_eq_getElem_cons hlt,List.takeWhile_cons]
   have e: ∀ a b:D,((intD (af a 0)==intD (af b 0))&&((intD (af a 1)==intD (af b 1))&&true))=nZ a b:=fun _ _=>rfl
   rw[e]
   cases nZ (fC (ae (ae x0)[i]) x1) (fC (ae ((ae x0).getD 0 .nil)) x1)with
   |true=>
    simp only[beq_self_eq_true,cond_true,if_true,List.length_cons]
    congr 5
    omega
   |false=>simp[cond_false]
  ·have h2:(ae x0).drop i=[]:=List.drop_of_length_le (by omega)
   rw[fB hlt,h2]
   rfl
def abX:FuncId×TypeId×(List AV->Bool)×(List AV->Option D):=(105,3,jU (q2 fun x _=>decide (0<(ae x).length)),ent [35,3] (f2 fun x y=>some (.lit (.int .i64 (eU (ae x) (intD y):Int)))))
theorem ac7:FnOK Tryz.prog 105 Tryz.f105:=⟨Tryz.func105,rfl,by kernel_rfl⟩
theorem c105: ∀ args d,abX.2.2.1 args=true->abX.2.2.2 args=some d->CallOK Tryz.prog 105 args (aj Tryz.prog 3 d):=
 qG ac7 fun x y d hq h ⟨_,hx⟩ _=>by
  cases h
  rw[nR,n3]
  have hq:0<(ae x).length:=by simpa using hq
  refine aI hm vk ac7 ((t105 ((ae x).length+1) x (intD y)).trans ?_)
  rw[m3]
  have c1:(decide ((0:Int)<=0)&&decide ((0:Int)<((ae x).length:Int)))=true:=by
   simp only[Bool.and_eq_true,decide_eq_true_eq];omega
  rw[c1,cond_true]
  exact E5 (N:=(ae x).length+1) (aev hx) ((ae x).length+1) 1 (by omega) (by omega)
theorem CY {N:Nat} {x0 x2:D} {x1:Int} (hl:(ae x2).length<=1000) (hok: ∀ c∈ae x2,uS (aK x0) (bC (aQ x0) (intD c))=true) (F:List D) (hF:F.length=2): ∀ (n i:Nat),1<=i->i<=(ae x2).length->(ae x2).length - i<n->
  xe Tryz.prog Tryz.f106 N n x0 x1 x2 (i:Int) (F++((ae x2).take i).map fun c=>yA (kC (aK x0) (bC (aQ x0) (intD c))))=
   some (dat 67 (.slice (F++(ae x2).map fun c=>yA (kC (aK x0) (bC (aQ x0) (intD c)))) []))
 |0,i,_,_,h=>by omega
 |n+1,i,h1,hi,h=>by
  rw[Hf]
  by_cases hlt:i<(ae x2).length
  ·have hm1:(ae x2).length<=maxLen:=by unfold maxLen;omega
   have hc:=hok _ (List.getElem_mem hlt)
   have hc':uS (aK x0) (Lib.idxOf ((ae (af x0 0)).map intD) (intD (ae x2)[i]))=true:=hc
   have hlen:decide ((F++((ae x2).take i).map fun c=>yA (kC (aK x0) (bC (aQ x0) (intD c)))).length+1<=2147483648)=true:=by
    simp;omega
   rw[bG hlt,eY hlt,cond_true,cond_true,Int.toNat_natCast,dA hlt,hc',cond_true,hlen,cond_true,fE hm1 hlt]
   have e:(F++((ae x2).take i).map (fun c=>yA (kC (aK x0) (bC (aQ x0) (intD c)))))++[yA (kC (aK x0) (Lib.idxOf ((ae (af x0 0)).map intD) (intD (ae x2)[i])))]=F++((ae x2).take (i+1)).map fun c=>yA (kC (aK x0) (bC (aQ x0) (intD c))):=by
    rw[List.take_succ_eq_append_getElem hlt,List.map_append,List.append_assoc]
    rfl
   rw[e]
   exact CY hl hok F hF n (i+1) (by omega) (by omega) (by omega)
  ·have hi2:i=(ae x2).length:=by omega
   subst hi2
   rw[fB (by omega),cond_false,List.take_length]
def aaR:FuncId×TypeId×(List AV->Bool)×(List AV->Option D):=(106,67,jU (q3 fun x y z=>J7 x (intD y) (ae z)),ent [37,3,28] (f3 fun x y z=>some (.slice (nz x (intD y) (ae z)) [])))
theorem ad5:FnOK Tryz.prog 106 Tryz.f106:=⟨Tryz.func106,rfl,by kernel_rfl⟩
theorem agT: ∀ args d,aaR.2.2.1 args=true->aaR.2.2.2 args=some d->CallOK Tryz.prog 106 args (aj Tryz.prog 67 d):=
 Jd ad5 fun x y z d hq h ⟨_,hx⟩ _ ⟨_,hz⟩=>by
  cases h
  rw[nB,n3,nI]
  simp only[J7,Bool.and_eq_true,decide_eq_true_eq,List.all_eq_true]at hq
  obtain⟨⟨⟨g1,g2⟩,g3⟩,g4⟩:=hq
  refine aI hm vk ad5 ((afp ((ae z).length+2) x (intD y) z).trans ?_)
  rw[m28]
  have c1:(decide ((0:Int)<=0)&&decide ((0:Int)<((ae (af x 1)).length:Int)))=true:=by
   have:0<(ae (af x 1)).length:=g1
   simp only[Bool.and_eq_true,decide_eq_true_eq];omega
  have g3':=g3
  simp only[uS,Bool.and_eq_true,decide_eq_true_eq,List.all_eq_true]at g3'
  have hm0:(ae (af x 1)).getD 0 .nil∈aK x:=by
   have h0:0<(ae (af x 1)).length:=g1
   rw[dA h0];exact List.getElem_mem h0
  have c2:(decide (0<=intD y)&&decide (intD y<((ae ((ae (af x 1)).getD 0 .nil)).length:Int)))=true:=by
   simp only[Bool.and_eq_true,decide_eq_true_eq]
   exact⟨g3'.1.1,g3'.2 _ hm0⟩
  rw[c1,cond_true,c2,cond_true,IU]
  have hm1:(ae z).length<=maxLen:=by unfold maxLen;omega
  show _=some (dat 67 (.slice ([(ae ((aK x).getD 0 .nil)).getD (intD y).toNat .nil,vv 0 ((aK x).length:Int)]++(ae z).map fun c=>yA (kC (aK x) (bC (aQ x) (intD c)))) []))
  by_cases hz0:0<(ae z).length
  ·have hc:=g4 _ (List.getElem_mem hz0)
   have hc':uS (aK x) (Lib.idxOf ((ae (af x 0)).map intD) (intD (ae z)[0]))=true:=hc
   have i1:(decide ((0:Int)<=0)&&decide ((0:Int)<((ae z).length:Int)))=true:=bG (i:=0) hz0
   have i2:decide ((0:Int)<((ae z).length:Int))=true:=eY (i:=0) hz0
   have w1:IntKind.wrap .i64 ((0:Int)+1)=((1:Nat):Int):=fE (i:=0) hm1 hz0
   have t0:((0:Int)).toNat=0:=rfl
   rw[i1,i2,cond_true,cond_true,t0,dA hz0,hc',cond_true,w1]
   have:=CY (N:=(ae z).length+2) (x0:=x) (x1:=intD y) g2 g4 [(ae ((aK x).getD 0 .nil)).getD (intD y).toNat .nil,vv 0 ((aK x).length:Int)] rfl ((ae z).length+1) 1 (by omega) (by omega) (by omega)
   refine Eq.trans ?_ this
   have:(ae z).take 1=[(ae z)[0]]:=by
    rw[List.take_succ_eq_append_getElem hz0];rfl
   rw[this]
   rfl
  ·have hz1:ae z=[]:=List.length_eq_zero_iff.1 (by omega)
   have i2:decide ((0:Int)<((ae z).length:Int))=false:=by rw[hz1];rfl
   rw[i2,cond_false,hz1]
   rfl
def B2:Tab:=e64::VI::e20::e30::abX::aaR::B1
theorem qX:EnvOK Tryz.prog (ak B2 [] [] []):=
 ah (ah (ah (ah (aO (aO vk agT) c105) c30) c20) aaP) c64
end
/- roadbook/bag.Sort$1 -/
def ae4:ay:=fun _=>none
theorem t63 (N:Nat) (x0:D) (x1:D):aU Tryz.prog (ak B2 [] [] []) ae4 N Tryz.f63 [dat 93 x0,dat 93 x1]=
 some (dat 3 (.lit (.int .i64 (fH (af x0 0) (af x1 0))))):=by kernel_rfl
/- roadbook/bag.hasAll -/
def Rk:ay:=fun i=>if i=2 then some ([1,2,3,4,5,6,10,11,12,13,14,15,16,17],[],[])else none
def EJ (P:Program) (fn:Func) (N n:Nat) (x0:D) (x1:D) (v9:Int):Option AV:=aN (preL Rk (sub [1,0,1,0,0] (ag fn))) (az P (ak B2 [] [] []) Rk N (sub [1,0,1,0,0] (ag fn))) n ⟨[dat 28 x0,dead,dead,dead,dead,dead,dead,dat 28 x1,dat 3 (.lit (.int .i64 ((ae x1).length:Int))),dat 3 (.lit (.int .i64 v9)),dead,dead,dead,dead,dead,dead,dead,dead],aZ []⟩ (aG 0 (cZ P (ak B2 [] [] []) Rk N (sub [1,1] (ag fn)) (dJ P fn)))
theorem yT (N n:Nat) (x0:D) (x1:D) (v9:Int):EJ Tryz.prog Tryz.f74 N (n+1) x0 x1 v9=
 bif decide (v9<((ae x1).length:Int))then
  bif (decide (0<=v9)&&decide (v9<((ae x1).length:Int)))then
   bif (!(hasB (ae x0) (intD ((ae x1).getD (v9).toNat .nil))))then
    some (dat 4 (.lit (.bool false)))
   else EJ Tryz.prog Tryz.f74 N n x0 x1 (IntKind.wrap .i64 (v9+1))
  else none
 else some (dat 4 (.lit (.bool true))):=by kernel_rfl
theorem t74 (N:Nat) (x0:D) (x1:D):aU Tryz.prog (ak B2 [] [] []) Rk N Tryz.f74 [dat 28 x0,dat 28 x1]=
 EJ Tryz.prog Tryz.f74 N N x0 x1 0:=by kernel_rfl
/- roadbook/bag.Sorted$1 -/
def abO:ay:=fun _=>none
theorem afO (N:Nat) (x0:D) (x1:D) (q:Int):jP Tryz.prog (ak B2 [] [] []) abO N Tryz.f114 [dat 67 x0,dat 67 x1,bxp 1000000 3] [⟨3,.lit (.int .i64 q),0,none⟩]=
 some (dat 3 (.lit (.int .i64 (fH (fC (ae x0) q) (fC (ae x1) q)))),[some ⟨3,.lit (.int .i64 q),0,none⟩]):=by kernel_rfl
section
set_option maxRecDepth 10000
set_option linter.unusedSimpArgs false
def e63:FuncId×TypeId×(List AV->Bool)×(List AV->Option D):=(63,3,yes,ent [93,93] (f2 fun x y=>some (.lit (.int .i64 (fH (af x 0) (af y 0))))))
theorem k63:FnOK Tryz.prog 63 Tryz.f63:=⟨Tryz.func63,rfl,by kernel_rfl⟩
theorem c63: ∀ args d,e63.2.2.2 args=some d->CallOK Tryz.prog 63 args (aj Tryz.prog 3 d):=
 gD k63 fun x y d h _ _=>by
  cases h
  rw[nE,nE]
  refine aI hm qX k63 ((t63 1 x y).trans ?_)
  rw[m3]
  rfl
def e74:FuncId×TypeId×(List AV->Bool)×(List AV->Option D):=(74,4,yes,ent [28,28] (f2 fun x y=>some (.lit (.bool (gG (ae x) (ae y))))))
theorem k74:FnOK Tryz.prog 74 Tryz.f74:=⟨Tryz.func74,rfl,by kernel_rfl⟩
theorem c74: ∀ args d,e74.2.2.2 args=some d->CallOK Tryz.prog 74 args (aj Tryz.prog 4 d):=
 gD k74 fun x y d h ⟨_,hx⟩ ⟨_,hy⟩=>by
  cases h
  rw[nI,nI]
  refine aI hm qX k74 ((t74 ((ae y).length+1) x y).trans ?_)
  rw[m4]
  have:=jl (fun n v=>EJ Tryz.prog Tryz.f74 ((ae y).length+1) n x y v) (ae y).length (fun i=>!hasB (ae x) (intD ((ae y).getD i .nil))) (some (dat 4 (.lit (.bool false)))) (some (dat 4 (.lit (.bool true))))
   (fun n i hi=>by rw[yT,bG hi,eY hi,cond_true,cond_true,Int.toNat_natCast,fE (UZ hy) hi])
   (fun n=>by rw[yT,fB (by omega),cond_false]) ((ae y).length+1) 0 (Nat.zero_le _) (by omega)
  refine this.trans ?_
  rw[Nat.sub_zero,rO (ae y) (fun c=>!hasB (ae x) (intD c))]
  show _=some (dat 4 (.lit (.bool (gG (ae x) (ae y)))))
  have e:gG (ae x) (ae y)=!((ae y).any fun c=>!hasB (ae x) (intD c)):=by
   unfold gG
   rw[List.all_map,List.all_eq_not_any_not]
   rfl
  rw[e]
  cases (ae y).any _<;>rfl
def B3:Tab:=e63::e74::B2
theorem ac0:EnvOK Tryz.prog (ak B3 [] [] []):=ah (ah qX c74) c63
def YB:List AV:=[dat 67 .nil,dat 67 .nil,bxp OID 3]
def Iw:List Ent:=[⟨3,.nil,0,none⟩]
def aa5 (ds hs:List D):Option D:=match ds,hs with
 | [x,y,_],[q]=>some (.lit (.int .i64 (fH (fC (ae x) (intD q)) (fC (ae y) (intD q)))))
 |_,_=>none
def ahq:FuncId×TypeId×(List AV->List Ent->Bool)×(List AV->List Ent->Option D):=(114,3,fD YB Iw (fun _ _=>true),TV YB Iw aa5)
theorem ado:FnOK Tryz.prog 114 Tryz.f114:=⟨Tryz.func114,rfl,by kernel_rfl⟩
theorem YX: ∀ args hp d,fD YB Iw (fun _ _=>true) args hp=true->TV YB Iw aa5 args hp=some d->HCallOK Tryz.prog 114 args hp (aj Tryz.prog 3 d) (hp.map some):=by
 refine Rz rfl rfl fun ds es d _ hd=>?_
 unfold aa5 at hd
 split at hd
 ·rename_i x y z q
  cases hd
  refine HCallOK.typed ado.ex fun _ hty=>?_
  obtain⟨n,hn⟩:=hty ⟨3,q,0,none⟩ (by simp[kQ,Iw]) rfl rfl
  obtain⟨w,rfl,_⟩:=iC hn
  rw[m3]
  exact gZ hm qX ado (afO 1 x y w)
 ·cases hd
def R3:RTab:=[ahq]
theorem Sm:EnvOK Tryz.prog (ak B3 [] R3 []):=Dv ac0 YX
end
/- slices.insertionSortCmpFunc[roadbook/bag.ranked] -/
def uy:ay:=fun i=>if i=1 then some ([4,5,6,7,9,10,11,12,13,14,15,16,17,18,19,20,21,22,23,24,25,26,27,28,29,30,31,32,33,34,35,36,37,38,39,40,41,42,43,44,45,46,47,48,49,50,51,52],[1000000],[])else if i=4 then some ([4,5,6,7,10,11,12,13,14,15,16,17,18,19,20,21,22,23,24,25,26,27,28,29,30,31,32,33,34,35,36,37,38,39,40,41,42,43,44,45,46,47,48,49,50,51,52],[1000000],[])else none
def sQ (P:Program) (fn:Func) (N n:Nat) (x1:Int) (x2:Int) (es:List D) (v8:Int) (b1000000:List D):Option (AV×List (Option Ent)):=aN (preL uy (sub [1,0,0] (ag fn))) (az P (ak B3 [] R3 []) uy N (sub [1,0,0] (ag fn))) n ⟨[bxp 1000000 88,dat 3 (.lit (.int .i64 x1)),dat 3 (.lit (.int .i64 x2)),dat 96 (.held (.func (.func 63) #[] #[])),dead,dead,dead,dead,dat 3 (.lit (.int .i64 v8)),dead,dead,dead,dead,dead,dead,dead,dead,dead,dead,dead,dead,dead,dead,dead,dead,dead,dead,dead,dead,dead,dead,dead,dead,dead,dead,dead,dead,dead,dead,dead,dead,dead,dead,dead,dead,dead,dead,dead,dead,dead,dead,dead,dead],aZ [(1000000,some ⟨88,.slice b1000000 [],3,none⟩)]⟩ (aG 0 (qA P fn 1))
def AL (P:Program) (fn:Func) (N n:Nat) (x1:Int) (x2:Int) (es:List D) (v8:Int) (b1000000:List D) (m0:Nat) (v9:Int) (b1000000q:List D):Option (AV×List (Option Ent)):=aN (preL uy (sub [1,0,0,1,0,0,1,0,0] (ag fn))) (az P (ak B3 [] R3 []) uy N (sub [1,0,0,1,0,0,1,0,0] (ag fn))) n ⟨[bxp 1000000 88,dat 3 (.lit (.int .i64 x1)),dat 3 (.lit (.int .i64 x2)),dat 96 (.held (.func (.func 63) #[] #[])),dead,dead,dead,dead,dat 3 (.lit (.int .i64 v8)),dat 3 (.lit (.int .i64 v9)),dead,dead,dead,dead,dead,dead,dead,dead,dead,dead,dead,dead,dead,dead,dead,dead,dead,dead,dead,dead,dead,dead,dead,dead,dead,dead,dead,dead,dead,dead,dead,dead,dead,dead,dead,dead,dead,dead,dead,dead,dead,dead,dead],aZ [(1000000,some ⟨88,.slice b1000000q [],3,none⟩)]⟩ (aG 2 (aG 1 (cZ P (ak B3 [] R3 []) uy N (sub [1,0,0,1,1] (ag fn)) (Nb (fun s=>aN (preL uy (sub [1,0,0] (ag fn))) (az P (ak B3 [] R3 []) uy N (sub [1,0,0] (ag fn))) m0 ((preL uy (sub [1,0,0] (ag fn))) s) (aG 0 (qA P fn 1))) (aG 0 (qA P fn 1))))))
theorem H9 (N n:Nat) (x1:Int) (x2:Int) (es:List D) (v8:Int) (b1000000:List D) (m0:Nat) (v9:Int) (b1000000q:List D):AL Tryz.prog Tryz.f154 N (n+1) x1 x2 es v8 b1000000 m0 v9 b1000000q=
 bif ((decide (v9>x1))==true)then
  bif (decide (0<=v9)&&decide (v9<(b1000000q.length:Int)))then
   bif (decide (0<=(IntKind.wrap .i64 (v9 - 1)))&&decide ((IntKind.wrap .i64 (v9 - 1))<(b1000000q.length:Int)))then
    bif decide ((fH (af (b1000000q.getD (v9).toNat .nil) 0) (af (b1000000q.getD (IntKind.wrap .i64 (v9 - 1)).toNat .nil) 0))<0)then
     bif (decide (0<=(IntKind.wrap .i64 (v9 - 1)))&&decide ((IntKind.wrap .i64 (v9 - 1))<(b1000000q.length:Int)))then
      bif (decide (0<=v9)&&decide (v9<(b1000000q.length:Int)))then
       bif (decide (0<=v9)&&decide (v9<(b1000000q.length:Int)))then
        bif (decide (0<=(IntKind.wrap .i64 (v9 - 1)))&&decide ((IntKind.wrap .i64 (v9 - 1))<((b1000000q.set (v9).toNat (b1000000q.getD (IntKind.wrap .i64 (v9 - 1)).toNat .nil)).length:Int)))then
         AL Tryz.prog Tryz.f154 N n x1 x2 es v8 b1000000 m0 (IntKind.wrap .i64 (v9 - 1)) ((b1000000q.set (v9).toNat (b1000000q.getD (IntKind.wrap .i64 (v9 - 1)).toNat .nil)).set (IntKind.wrap .i64 (v9 - 1)).toNat (b1000000q.getD (v9).toNat .nil))
        else none
       else none
      else none
     else none
    else sQ Tryz.prog Tryz.f154 N m0 x1 x2 es (IntKind.wrap .i64 (v8+1)) b1000000q
   else none
  else none
 else sQ Tryz.prog Tryz.f154 N m0 x1 x2 es (IntKind.wrap .i64 (v8+1)) b1000000q:=by kernel_rfl
theorem IV (N n:Nat) (x1:Int) (x2:Int) (es:List D) (v8:Int) (b1000000:List D):sQ Tryz.prog Tryz.f154 N (n+1) x1 x2 es v8 b1000000=
 bif decide (v8<x2)then
  AL Tryz.prog Tryz.f154 N N x1 x2 es v8 b1000000 n v8 b1000000
 else some (aL [] (.agg []),[some ⟨88,.slice b1000000 [],3,none⟩]):=by kernel_rfl
theorem t154 (N:Nat) (x1:Int) (x2:Int) (es:List D):jP Tryz.prog (ak B3 [] R3 []) uy N Tryz.f154 [bxp 1000000 88,dat 3 (.lit (.int .i64 x1)),dat 3 (.lit (.int .i64 x2)),dat 96 (.held (.func (.func 63) #[] #[]))] [⟨88,.slice es [],3,none⟩]=
 sQ Tryz.prog Tryz.f154 N N x1 x2 es (IntKind.wrap .i64 (x1+1)) es:=by kernel_rfl
/- slices.swapRangeCmpFunc[roadbook/bag.ranked] -/
def QB:ay:=fun i=>if i=1 then some ([4,5,6,7,8,9,11,12,13,14,15,16,17,18,19,20,21,22,23,24,25,26,27,28,29,30,31,32,33,34,35,36,37],[1000000],[])else none
def Am (P:Program) (fn:Func) (N n:Nat) (x1:Int) (x2:Int) (x3:Int) (es:List D) (v10:Int) (b1000000:List D):Option (AV×List (Option Ent)):=aN (preL QB (sub [1,0,0] (ag fn))) (az P (ak B3 [] R3 []) QB N (sub [1,0,0] (ag fn))) n ⟨[bxp 1000000 88,dat 3 (.lit (.int .i64 x1)),dat 3 (.lit (.int .i64 x2)),dat 3 (.lit (.int .i64 x3)),dead,dead,dead,dead,dead,dead,dat 3 (.lit (.int .i64 v10)),dead,dead,dead,dead,dead,dead,dead,dead,dead,dead,dead,dead,dead,dead,dead,dead,dead,dead,dead,dead,dead,dead,dead,dead,dead,dead,dead],aZ [(1000000,some ⟨88,.slice b1000000 [],3,none⟩)]⟩ (aG 0 (qA P fn 1))
theorem IA (N n:Nat) (x1:Int) (x2:Int) (x3:Int) (es:List D) (v10:Int) (b1000000:List D):Am Tryz.prog Tryz.f206 N (n+1) x1 x2 x3 es v10 b1000000=
 bif decide (v10<x3)then
  bif (decide (0<=(IntKind.wrap .i64 (x2+v10)))&&decide ((IntKind.wrap .i64 (x2+v10))<(b1000000.length:Int)))then
   bif (decide (0<=(IntKind.wrap .i64 (x1+v10)))&&decide ((IntKind.wrap .i64 (x1+v10))<(b1000000.length:Int)))then
    bif (decide (0<=(IntKind.wrap .i64 (x1+v10)))&&decide ((IntKind.wrap .i64 (x1+v10))<(b1000000.length:Int)))then
     bif (decide (0<=(IntKind.wrap .i64 (x2+v10)))&&decide ((IntKind.wrap .i64 (x2+v10))<((b1000000.set (IntKind.wrap .i64 (x1+v10)).toNat (b1000000.getD (IntKind.wrap .i64 (x2+v10)).toNat .nil)).length:Int)))then
      Am Tryz.prog Tryz.f206 N n x1 x2 x3 es (IntKind.wrap .i64 (v10+1)) ((b1000000.set (IntKind.wrap .i64 (x1+v10)).toNat (b1000000.getD (IntKind.wrap .i64 (x2+v10)).toNat .nil)).set (IntKind.wrap .i64 (x2+v10)).toNat (b1000000.getD (IntKind.wrap .i64 (x1+v10)).toNat .nil))
     else none
    else none
   else none
  else none
 else some (aL [] (.agg []),[some ⟨88,.slice b1000000 [],3,none⟩]):=by kernel_rfl
theorem t206 (N:Nat) (x1:Int) (x2:Int) (x3:Int) (es:List D):jP Tryz.prog (ak B3 [] R3 []) QB N Tryz.f206 [bxp 1000000 88,dat 3 (.lit (.int .i64 x1)),dat 3 (.lit (.int .i64 x2)),dat 3 (.lit (.int .i64 x3)),dat 96 (.held (.func (.func 63) #[] #[]))] [⟨88,.slice es [],3,none⟩]=
 Am Tryz.prog Tryz.f206 N N x1 x2 x3 es 0 es:=by kernel_rfl
/- slices.IsSortedFunc[[][]roadbook/api.Val,[]roadbook/api.Val] -/
def MI:ay:=fun i=>if i=2 then some ([2,3,4,6,7,8,9,10,11,12,13,14,15,16,17,18,19,20,21,22,23,24],[1000000],[])else none
def Ae (P:Program) (fn:Func) (N n:Nat) (x0:D) (q:Int) (v5:Int):Option (AV×List (Option Ent)):=aN (preL MI (sub [1,0,1,0,0] (ag fn))) (az P (ak B3 [] R3 []) MI N (sub [1,0,1,0,0] (ag fn))) n ⟨[dat 35 x0,clo 129 114 [1000000],dead,dead,dead,dat 3 (.lit (.int .i64 v5)),dead,dead,dead,dead,dead,dead,dead,dead,dead,dead,dead,dead,dead,dead,dead,dead,dead,dead,dead],aZ [(1000000,some ⟨3,.lit (.int .i64 q),0,none⟩)]⟩ (aG 0 (cZ P (ak B3 [] R3 []) MI N (sub [1,1] (ag fn)) (qA P fn 1)))
theorem xw (N n:Nat) (x0:D) (q:Int) (v5:Int):Ae Tryz.prog Tryz.f113 N (n+1) x0 q v5=
 bif decide (v5>0)then
  bif (decide (0<=v5)&&decide (v5<((ae x0).length:Int)))then
   bif (decide (0<=(IntKind.wrap .i64 (v5 - 1)))&&decide ((IntKind.wrap .i64 (v5 - 1))<((ae x0).length:Int)))then
    bif decide ((fH (fC (ae ((ae x0).getD (v5).toNat .nil)) q) (fC (ae ((ae x0).getD (IntKind.wrap .i64 (v5 - 1)).toNat .nil)) q))<0)then
     some (dat 4 (.lit (.bool false)),[some ⟨3,.lit (.int .i64 q),0,none⟩])
    else Ae Tryz.prog Tryz.f113 N n x0 q (IntKind.wrap .i64 (v5 - 1))
   else none
  else none
 else some (dat 4 (.lit (.bool true)),[some ⟨3,.lit (.int .i64 q),0,none⟩]):=by kernel_rfl
theorem ag2 (N:Nat) (x0:D) (q:Int):jP Tryz.prog (ak B3 [] R3 []) MI N Tryz.f113 [dat 35 x0,clo 129 114 [1000000]] [⟨3,.lit (.int .i64 q),0,none⟩]=
 Ae Tryz.prog Tryz.f113 N N x0 q (IntKind.wrap .i64 (((ae x0).length:Int) - 1)):=by kernel_rfl
section
set_option maxRecDepth 10000
set_option linter.unusedSimpArgs false
abbrev xP:=FuncId×TypeId×(List AV->List Ent->Bool)×(List AV->List Ent->uN)
def gq:AV:=aL [] (.agg [])
def kW (l:List D):List (Option Ent):=[some ⟨88,.slice l [],3,none⟩]
theorem XG {N:Nat} {a b:Nat} {x2:Int} {es B:List D} {v8:Int} {m0:Nat} {A S2 R:List D} {x:D} (ha:a=A.length): ∀ (n:Nat) (S1:List D),S1.length<n->S1.length+A.length+S2.length+R.length<=1000000000000->
  ∃ T1 T2,S1=T1++T2/\(∀ y∈T2,klt (keyE x) (keyE y)=true)/\(T1=[]\/ ∃ T0 y,T1=T0++[y]/\klt (keyE x) (keyE y)=false)/\
   AL Tryz.prog Tryz.f154 N n (a:Int) x2 es v8 B m0 ((a+S1.length:Nat):Int) (A++(S1++x::(S2++R)))=sQ Tryz.prog Tryz.f154 N m0 (a:Int) x2 es (IntKind.wrap .i64 (v8+1)) (A++(T1++x::(T2++(S2++R))))
 |0,S1,h,_=>by omega
 |n+1,S1,h,hbig=>by
  rw[H9]
  rcases List.eq_nil_or_concat S1 with rfl|⟨S0,y,rfl⟩
  ·refine⟨[],[],rfl,by simp,.inl rfl,?_⟩
   have:decide (((a+([]:List D).length:Nat):Int)>(a:Int))=false:=by simp
   rw[this]
   rfl
  ·simp only[List.concat_eq_append]at*
   have hlen:(A++(S0++[y]++x::(S2++R))).length=A.length+S0.length+2+S2.length+R.length:=by simp;omega
   have hj:a+(S0++[y]).length=A.length+S0.length+1:=by simp;omega
   have hS0:S0.length+1+A.length+S2.length+R.length<=1000000000000:=by simpa using hbig
   have g1:decide (((a+(S0++[y]).length:Nat):Int)>(a:Int))=true:=by simp;omega
   have w1:IntKind.wrap .i64 (((a+(S0++[y]).length:Nat):Int) - 1)=((A.length+S0.length:Nat):Int):=by
    rw[hj,aH (l_in (by omega) (by omega))];omega
   have i1:(decide (0<=((a+(S0++[y]).length:Nat):Int))&&decide (((a+(S0++[y]).length:Nat):Int)<((A++(S0++[y]++x::(S2++R))).length:Int)))=true:=bG (by rw[hlen];simp;omega)
   have i2:(decide (0<=((A.length+S0.length:Nat):Int))&&decide (((A.length+S0.length:Nat):Int)<((A++(S0++[y]++x::(S2++R))).length:Int)))=true:=bG (by rw[hlen];omega)
   have f1:A++(S0++[y]++x::(S2++R))=(A++S0)++y::([]++x::(S2++R)):=by simp
   have e1:(A++(S0++[y]++x::(S2++R))).getD (a+(S0++[y]).length) .nil=x:=by
    rw[show A++(S0++[y]++x::(S2++R))=(A++S0++[y])++x::(S2++R) by simp]
    exact SG _ _ _ (by simp;omega)
   have e2:(A++(S0++[y]++x::(S2++R))).getD (A.length+S0.length) .nil=y:=by
    rw[f1]
    exact SG _ _ _ (by simp)
   rw[g1,w1,i1,i2,List.length_set,i2]
   simp only[beq_self_eq_true,cond_true,Int.toNat_natCast]
   rw[xO,e1,e2]
   have hk:klt (BX (af x 0)) (BX (af y 0))=klt (keyE x) (keyE y):=rfl
   rw[hk]
   cases hc:klt (keyE x) (keyE y)with
   |false=>exact⟨S0++[y],[],by simp,by simp,.inr ⟨S0,y,rfl,hc⟩,by simp⟩
   |true=>
    rw[cond_true]
    have sw:((A++(S0++[y]++x::(S2++R))).set (a+(S0++[y]).length) y).set (A.length+S0.length) x=A++(S0++x::(([y]++S2)++R)):=by
     have:=Rx (A++S0) [] (S2++R) y x (i:=A.length+S0.length) (j:=a+(S0++[y]).length) (by simp) (by simp;omega)
     rw[<-f1,e1,e2]at this
     rw[this]
     simp
    rw[sw]
    obtain⟨T1,T2,r1,r2,r3,r4⟩:=XG (N:=N) (a:=a) (b:=b) (x2:=x2) (es:=es) (B:=B) (v8:=v8) (m0:=m0) (A:=A) (S2:=[y]++S2) (R:=R) (x:=x) ha n S0 (by simp at h;omega) (by simp;omega)
    refine⟨T1,T2++[y],by rw[r1];simp,fun z hz=>?_,r3,?_⟩
    ·rcases List.mem_append.1 hz with hz|hz
     ·exact r2 z hz
     ·obtain rfl:z=y:=by simpa using hz
      exact hc
    ·have:((a+S0.length:Nat):Int)=((A.length+S0.length:Nat):Int):=by rw[ha]
     rw[this]at r4
     rw[r4]
     simp
 termination_by n=>n
theorem RP {N:Nat} {A W R es:List D} (hN:W.length<N) (hb:A.length+W.length+R.length<=2147483648): ∀ (n k:Nat),1<=k->W.length+1 - k<n->k<=W.length+1->
  sQ Tryz.prog Tryz.f154 N n (A.length:Int) ((A.length+W.length:Nat):Int) es ((A.length+k:Nat):Int) (A++(sortK keyE (W.take k)++(W.drop k++R)))=some (gq,kW (A++sortK keyE W++R))
 |0,k,_,h,_=>by omega
 |n+1,k,h1,h,hk=>by
  rw[IV]
  by_cases hlt:k<W.length
  ·have g1:decide (((A.length+k:Nat):Int)<((A.length+W.length:Nat):Int))=true:=by simp;omega
   rw[g1,cond_true]
   have hd:W.drop k=W[k]::W.drop (k+1):=List.drop_eq_getElem_cons hlt
   have hs:(sortK keyE (W.take k)).length=k:=by rw[eP];simp;omega
   obtain⟨T1,T2,r1,r2,r3,r4⟩:=XG (N:=N) (a:=A.length) (b:=0) (x2:=((A.length+W.length:Nat):Int)) (es:=es) (B:=A++(sortK keyE (W.take k)++(W.drop k++R))) (v8:=((A.length+k:Nat):Int)) (m0:=n) (A:=A) (S2:=[]) (R:=W.drop (k+1)++R) (x:=W[k]) rfl N (sortK keyE (W.take k)) (by rw[hs];omega) (by rw[hs];simp;omega)
   rw[hs]at r4
   have f1:A++(sortK keyE (W.take k)++(W.drop k++R))=A++(sortK keyE (W.take k)++W[k]::([]++(W.drop (k+1)++R))):=by rw[hd];simp only[List.nil_append,List.cons_append]
   rw[f1]at r4⊢
   rw[r4]
   have w1:IntKind.wrap .i64 (((A.length+k:Nat):Int)+1)=((A.length+(k+1):Nat):Int):=by rw[aH (l_in (by omega) (by omega))];omega
   have hsrt:=jJ (key:=keyE) (W.take k)
   have hnew:T1++W[k]::T2=sortK keyE (W.take (k+1)):=by
    have h3: ∀ y∈T1,klt (keyE W[k]) (keyE y)=false:=by
     rcases r3 with rfl|⟨T0,y,rfl,hy⟩
     ·simp
     ·intro z hz
      rw[r1]at hsrt
      have hz':=(lM.1 (lM.1 hsrt).1).2.2
      rcases List.mem_append.1 hz with hz|hz
      ·exact o6 (hz' z hz y (by simp)) hy
      ·obtain rfl:z=y:=by simpa using hz
       exact hy
    obtain⟨q1,q2⟩:=JS (key:=keyE) (S1:=T1) (S2:=T2) (x:=W[k]) (by rw[<-r1];exact hsrt) r2 h3
    refine sJ q1 (q2.trans ?_)
    rw[<-r1,List.take_succ_eq_append_getElem hlt]
    exact SEq.app (mV _) (SEq.refl _)
   have f2:A++(T1++W[k]::(T2++([]++(W.drop (k+1)++R))))=A++(sortK keyE (W.take (k+1))++(W.drop (k+1)++R)):=by rw[<-hnew];simp
   rw[w1,f2]
   exact RP hN hb n (k+1) (by omega) (by omega) (by omega)
  ·have g1:decide (((A.length+k:Nat):Int)<((A.length+W.length:Nat):Int))=false:=by simp;omega
   have e1:W.take k=W:=List.take_of_length_le (by omega)
   have e2:W.drop k=[]:=List.drop_of_length_le (by omega)
   rw[g1,cond_false,e1,e2]
   simp[gq,kW]
def a154:List AV:=[bxp OID 88,dat 3 .nil,dat 3 .nil,dat 96 .nil]
def kY:List Ent:=[⟨88,.nil,3,none⟩]
def isF (d:D):Bool:=match fnD d with|some f=>f==63|none=>false
def acT (ds hs:List D):Bool:=match ds,hs with
 | [_,a,b,f],[e]=>isF f&&F7 (ae e) (intD a) (intD b)
 |_,_=>false
def adD (ds hs:List D):uN:=match ds,hs with
 | [_,a,b,_],[e]=>some (gq,kW (insL (ae e) (intD a) (intD b)))
 |_,_=>none
def agp:xP:=(154,0,fD a154 kY acT,iZ a154 kY adD)
theorem aek:FnOK Tryz.prog 154 Tryz.f154:=⟨Tryz.func154,rfl,by kernel_rfl⟩
theorem aho: ∃ p q r,Tryz.prog.underlying 96=some (.func p q r):=⟨_,_,_,Tryz.underlying96⟩
theorem Bz {n:Nat} {d:D} (h:Ty Tryz.prog n 96 d) (hf:isF d=true):d=.held (.func (.func 63) #[] #[]):=by
 obtain⟨p,q,r,hu⟩:=aho
 unfold isF at hf
 split at hf
 ·rename_i f hfd
  have:=Ih hu h hfd
  rw[beq_iff_eq]at hf
  rw[hf]at this
  exact this
 ·cases hf
theorem c154: ∀ args hh r h',fD a154 kY acT args hh=true->iZ a154 kY adD args hh=some (r,h')->HCallOK Tryz.prog 154 args hh r h':=by
 refine fV rfl rfl fun ds es r h' hq hd=>?_
 unfold acT at hq
 split at hq
 ·rename_i z a b f e
  cases hd
  rw[Bool.and_eq_true]at hq
  refine HCallOK.typedR aek.ex fun ht _ hr=>?_
  obtain⟨_,t1⟩:=ht (dat 3 a) (by simp[fA,a154,dat,bxp]) rfl
  obtain⟨_,t2⟩:=ht (dat 3 b) (by simp[fA,a154,dat,bxp]) rfl
  obtain⟨_,t3⟩:=ht (dat 96 f) (by simp[fA,a154,dat,bxp]) rfl
  obtain⟨el,l,_,hl,_⟩:=hr ⟨88,e,3,none⟩ (by simp[kQ,kY]) (by simp)
  have hl:e=.slice l []:=hl
  subst hl
  obtain⟨i1,rfl,_⟩:=iC t1
  obtain⟨i2,rfl,_⟩:=iC t2
  rw[Bz (show Ty Tryz.prog _ 96 f from t3) hq.1]
  have hq:F7 l i1 i2=true:=hq.2
  simp only[F7,Bool.and_eq_true,decide_eq_true_eq]at hq
  obtain⟨⟨⟨g1,g2⟩,g3⟩,g4⟩:=hq
  obtain⟨A,hA⟩: ∃ A:Nat,i1=(A:Int):=⟨i1.toNat,by omega⟩
  obtain⟨B,hB⟩: ∃ B:Nat,i2=(B:Int):=⟨i2.toNat,by omega⟩
  subst hA hB
  have hAB:A<=B:=by omega
  have hBl:B<=l.length:=by omega
  have hlA:(l.take A).length=A:=by simp;omega
  have hlW:=jF l hAB hBl
  have hsp:=sN l hAB hBl
  refine gZ hm Sm aek ((t154 (l.length+3) (A:Int) (B:Int) l).trans ?_)
  have w1:IntKind.wrap .i64 ((A:Int)+1)=((A+1:Nat):Int):=by rw[aH (l_in (by omega) (by omega))];omega
  rw[w1]
  have key:=RP (N:=l.length+3) (A:=l.take A) (W:=seg A B l) (R:=l.drop B) (es:=l) (by rw[hlW];omega) (by rw[hlA,hlW];simp;omega) (l.length+3) 1 (by omega) (by rw[hlW];omega) (by omega)
  rw[hlA,hlW]at key
  have e1:A+(B - A)=B:=by omega
  have e2:l.take A++(sortK keyE ((seg A B l).take 1)++((seg A B l).drop 1++l.drop B))=l:=by
   have:sortK keyE ((seg A B l).take 1)=(seg A B l).take 1:=by
    cases seg A B l with
    |nil=>rfl
    |cons x m=>rfl
   rw[this,<-List.append_assoc ((seg A B l).take 1),List.take_append_drop,<-List.append_assoc]
   exact hsp.symm
  rw[e1,e2]at key
  rw[key]
  have:insL l (A:Int) (B:Int)=l.take A++sortK keyE (seg A B l)++l.drop B:=by
   unfold insL L9
   rw[Int.toNat_natCast,Int.toNat_natCast]
  show _=some (gq,kW (insL l (A:Int) (B:Int)))
  rw[this]
 ·cases hq
theorem N7 {N:Nat} {es P0 M R:List D} {n0:Nat} (hb:P0.length+n0+M.length+n0+R.length<=2147483648): ∀ (n i:Nat) (X1 X2 Y1 Y2:List D),X1.length=i->Y1.length=i->i+X2.length=n0->Y2.length=X2.length->n0 - i<n->
  Am Tryz.prog Tryz.f206 N n (P0.length:Int) ((P0.length+n0+M.length:Nat):Int) (n0:Int) es (i:Int) (P0++Y1++X2++M++X1++Y2++R)=some (gq,kW (P0++(Y1++Y2)++M++(X1++X2)++R))
 |0,i,_,_,_,_,_,_,_,_,h=>by omega
 |n+1,i,X1,X2,Y1,Y2,h1,h2,h3,h4,h=>by
  rw[IA]
  cases X2 with
  |nil=>
   have hy:Y2=[]:=List.length_eq_zero_iff.1 (by simpa using h4)
   subst hy
   have g1:decide ((i:Int)<(n0:Int))=false:=fB (by simp at h3;omega)
   rw[g1,cond_false]
   simp[gq,kW]
  |cons x X2=>
   cases Y2 with
   |nil=>simp at h4
   |cons y Y2=>
    simp only[List.length_cons]at h3 h4
    have g1:decide ((i:Int)<(n0:Int))=true:=eY (by omega)
    have hlen:(P0++Y1++x::X2++M++X1++y::Y2++R).length=P0.length+n0+M.length+n0+R.length:=by simp;omega
    have w1:IntKind.wrap .i64 (((P0.length+n0+M.length:Nat):Int)+(i:Int))=((P0.length+n0+M.length+i:Nat):Int):=by rw[aH (l_in (by omega) (by omega))];omega
    have w2:IntKind.wrap .i64 ((P0.length:Int)+(i:Int))=((P0.length+i:Nat):Int):=by rw[aH (l_in (by omega) (by omega))];omega
    have w3:IntKind.wrap .i64 ((i:Int)+1)=((i+1:Nat):Int):=by rw[aH (l_in (by omega) (by omega))];omega
    have i1:(decide (0<=((P0.length+n0+M.length+i:Nat):Int))&&decide (((P0.length+n0+M.length+i:Nat):Int)<((P0++Y1++x::X2++M++X1++y::Y2++R).length:Int)))=true:=bG (by rw[hlen];omega)
    have i2:(decide (0<=((P0.length+i:Nat):Int))&&decide (((P0.length+i:Nat):Int)<((P0++Y1++x::X2++M++X1++y::Y2++R).length:Int)))=true:=bG (by rw[hlen];omega)
    rw[g1,cond_true,w1,w2,w3,i1,i2,List.length_set,i1]
    simp only[cond_true,Int.toNat_natCast]
    have f1:P0++Y1++x::X2++M++X1++y::Y2++R=(P0++Y1)++x::((X2++M++X1)++y::(Y2++R)):=by simp
    have sw:=QX (P0++Y1) (X2++M++X1) (Y2++R) x y (i:=P0.length+i) (j:=P0.length+n0+M.length+i) (by simp;omega) (by simp;omega)
    rw[<-f1]at sw
    rw[sw]
    have f2:P0++Y1++y::(X2++M++X1++x::(Y2++R))=P0++(Y1++[y])++X2++M++(X1++[x])++Y2++R:=by simp
    rw[f2,N7 hb n (i+1) (X1++[x]) X2 (Y1++[y]) Y2 (by simp;omega) (by simp;omega) (by omega) (by omega) (by omega)]
    simp
def a206:List AV:=[bxp OID 88,dat 3 .nil,dat 3 .nil,dat 3 .nil,dat 96 .nil]
def acj (ds hs:List D):Bool:=match ds,hs with
 | [_,a,b,n,f],[e]=>isF f&&Dp (ae e) (intD a) (intD b) (intD n)
 |_,_=>false
def aey (ds hs:List D):uN:=match ds,hs with
 | [_,a,b,n,_],[e]=>some (gq,kW (MO (ae e) (intD a) (intD b) (intD n)))
 |_,_=>none
def afV:xP:=(206,0,fD a206 kY acj,iZ a206 kY aey)
theorem ae6:FnOK Tryz.prog 206 Tryz.f206:=⟨Tryz.func206,rfl,by kernel_rfl⟩
theorem c206: ∀ args hh r h',fD a206 kY acj args hh=true->iZ a206 kY aey args hh=some (r,h')->HCallOK Tryz.prog 206 args hh r h':=by
 refine fV rfl rfl fun ds es r h' hq hd=>?_
 unfold acj at hq
 split at hq
 ·rename_i z a b m f e
  cases hd
  rw[Bool.and_eq_true]at hq
  refine HCallOK.typedR ae6.ex fun ht _ hr=>?_
  obtain⟨_,t1⟩:=ht (dat 3 a) (by simp[fA,a206,dat,bxp]) rfl
  obtain⟨_,t2⟩:=ht (dat 3 b) (by simp[fA,a206,dat,bxp]) rfl
  obtain⟨_,t4⟩:=ht (dat 3 m) (by simp[fA,a206,dat,bxp]) rfl
  obtain⟨_,t3⟩:=ht (dat 96 f) (by simp[fA,a206,dat,bxp]) rfl
  obtain⟨el,l,_,hl,_⟩:=hr ⟨88,e,3,none⟩ (by simp[kQ,kY]) (by simp)
  have hl:e=.slice l []:=hl
  subst hl
  obtain⟨i1,rfl,_⟩:=iC t1
  obtain⟨i2,rfl,_⟩:=iC t2
  obtain⟨i3,rfl,_⟩:=iC t4
  rw[Bz (show Ty Tryz.prog _ 96 f from t3) hq.1]
  have hq:Dp l i1 i2 i3=true:=hq.2
  simp only[Dp,Bool.and_eq_true,decide_eq_true_eq]at hq
  obtain⟨⟨⟨⟨g1,g2⟩,g3⟩,g4⟩,g5⟩:=hq
  obtain⟨A,hA⟩: ∃ A:Nat,i1=(A:Int):=⟨i1.toNat,by omega⟩
  obtain⟨B,hB⟩: ∃ B:Nat,i2=(B:Int):=⟨i2.toNat,by omega⟩
  obtain⟨n0,hn0⟩: ∃ n0:Nat,i3=(n0:Int):=⟨i3.toNat,by omega⟩
  subst hA hB hn0
  have q1:A+n0<=B:=by omega
  have q2:B+n0<=l.length:=by omega
  obtain⟨P0,X,M,Y,R,hl,hP,hX,hM,hY,hS⟩:=Kt l q1 q2
  refine gZ hm Sm ae6 ((t206 (n0+1) (A:Int) (B:Int) (n0:Int) l).trans ?_)
  have hlen:P0.length+n0+M.length+n0+R.length<=2147483648:=by
   have:=congrArg List.length hl
   simp only[List.length_append]at this
   omega
  have key:=N7 (N:=n0+1) (es:=l) (P0:=P0) (M:=M) (R:=R) (n0:=n0) hlen (n0+1) 0 [] X [] Y rfl rfl (by omega) (by omega) (by omega)
  have e1:P0.length+n0+M.length=B:=by omega
  have e2:P0++[]++X++M++[]++Y++R=l:=by rw[hl];simp only[List.append_nil]
  rw[e1,e2,hP]at key
  refine key.trans ?_
  show _=some (gq,kW (MO l (A:Int) (B:Int) (n0:Int)))
  rw[hS]
  rfl
 ·cases hq
theorem OB {N:Nat} {x0:D} {q:Int} (hl:(ae x0).length<=maxLen): ∀ (n i:Nat),i<(ae x0).length\/i=0->i<n->
  Ae Tryz.prog Tryz.f113 N n x0 q (i:Int)=some (dat 4 (.lit (.bool (F8 q ((ae x0).take (i+1))))),[some ⟨3,.lit (.int .i64 q),0,none⟩])
 |0,i,_,h=>by omega
 |n+1,i,hi,h=>by
  rw[xw]
  cases i with
  |zero=>
   have g1:decide (((0:Nat):Int)>0)=false:=rfl
   rw[g1,cond_false]
   have:F8 q ((ae x0).take (0+1))=true:=by
    cases ae x0 with
    |nil=>rfl
    |cons x m=>rfl
   rw[this]
  |succ i=>
   have hlt:i+1<(ae x0).length:=by omega
   have g1:decide (((i+1:Nat):Int)>0)=true:=by rw[decide_eq_true_eq];omega
   have w1:IntKind.wrap .i64 (((i+1:Nat):Int) - 1)=(i:Int):=by rw[aH (by rw[bH];unfold maxLen at hl;omega)];omega
   have i2:(decide (0<=(i:Int))&&decide ((i:Int)<((ae x0).length:Int)))=true:=bG (by omega)
   rw[g1,cond_true,bG hlt,cond_true,w1,i2,cond_true,xO,Int.toNat_natCast,Int.toNat_natCast,dA hlt,dA (by omega:i<(ae x0).length),OB hl n i (by omega) (by omega)]
   have e1:(ae x0).take (i+1+1)=(ae x0).take i++[(ae x0)[i],(ae x0)[i+1]]:=by
    rw[List.take_succ_eq_append_getElem hlt,List.take_succ_eq_append_getElem (by omega:i<(ae x0).length)]
    simp only[List.append_assoc,List.cons_append,List.nil_append]
   have e2:(ae x0).take (i+1)=(ae x0).take i++[(ae x0)[i]]:=List.take_succ_eq_append_getElem (by omega)
   rw[e1,e2,NH]
   show(bif klt (keyAt q (ae x0)[i+1]) (keyAt q (ae x0)[i])then _ else _)=_
   cases klt (keyAt q (ae x0)[i+1]) (keyAt q (ae x0)[i])<;>simp
def VT:List AV:=[dat 35 .nil,clo 129 114 [OID]]
def acp (ds hs:List D):uN:=match ds,hs with
 | [x,_],[q]=>some (dat 4 (.lit (.bool (F8 (intD q) (ae x)))),[some ⟨3,q,0,none⟩])
 |_,_=>none
def ag6:xP:=(113,4,fD VT Iw (fun _ _=>true),iZ VT Iw acp)
theorem adw:FnOK Tryz.prog 113 Tryz.f113:=⟨Tryz.func113,rfl,by kernel_rfl⟩
theorem agU: ∀ args hh r h',fD VT Iw (fun _ _=>true) args hh=true->iZ VT Iw acp args hh=some (r,h')->HCallOK Tryz.prog 113 args hh r h':=by
 refine fV rfl rfl fun ds es r h' _ hd=>?_
 unfold acp at hd
 split at hd
 ·rename_i x z q
  cases hd
  refine HCallOK.typedR adw.ex fun ht hb _=>?_
  obtain⟨_,t1⟩:=ht (dat 35 x) (by simp[fA,VT,dat,clo]) rfl
  obtain⟨n,hn⟩:=hb ⟨3,q,0,none⟩ (by simp[kQ,Iw]) rfl rfl
  obtain⟨w,rfl,_⟩:=iC hn
  have hl:(ae x).length<=maxLen:=aev t1
  refine gZ hm Sm adw ((ag2 ((ae x).length+1) x w).trans ?_)
  by_cases h0:(ae x).length=0
  ·have hx:ae x=[]:=List.length_eq_zero_iff.1 h0
   have w1:IntKind.wrap .i64 (((ae x).length:Int) - 1)= -1:=by rw[h0];rfl
   rw[w1,xw,hx]
   rfl
  ·have w1:IntKind.wrap .i64 (((ae x).length:Int) - 1)=(((ae x).length - 1:Nat):Int):=by rw[aH (by rw[bH];unfold maxLen at hl;omega)];omega
   rw[w1,OB hl ((ae x).length+1) ((ae x).length - 1) (by omega) (by omega)]
   have:(ae x).take ((ae x).length - 1+1)=ae x:=List.take_of_length_le (by omega)
   rw[this]
   rfl
 ·cases hd
def H4:uQ:=[agp,afV,ag6]
theorem O8:EnvOK Tryz.prog (ak B3 H4 R3 []):=bJ (bJ (bJ Sm agU) c206) c154
end
/- slices.rotateCmpFunc[roadbook/bag.ranked] -/
def Le:ay:=fun i=>if i=2 then some ([1,3,5,6,7,8,9,12,13,14,15,16,17,18,19,20,21,22,23,24,25,26,27,28,29,30,31,32,33,34,35,36,37,38,39,40,41,42,43,44,45,46,47,48,49,50,51,52,53,54,55,56,57],[1000000],[])else none
def vM (P:Program) (fn:Func) (N n:Nat) (x1:Int) (x2:Int) (x3:Int) (es:List D) (v10:Int) (v11:Int) (b1000000:List D):Option (AV×List (Option Ent)):=aN (preL Le (sub [1,1,0,0,0] (ag fn))) (az P (ak B3 H4 R3 []) Le N (sub [1,1,0,0,0] (ag fn))) n ⟨[bxp 1000000 88,dead,dat 3 (.lit (.int .i64 x2)),dead,dat 96 (.held (.func (.func 63) #[] #[])),dead,dead,dead,dead,dead,dat 3 (.lit (.int .i64 v10)),dat 3 (.lit (.int .i64 v11)),dead,dead,dead,dead,dead,dead,dead,dead,dead,dead,dead,dead,dead,dead,dead,dead,dead,dead,dead,dead,dead,dead,dead,dead,dead,dead,dead,dead,dead,dead,dead,dead,dead,dead,dead,dead,dead,dead,dead,dead,dead,dead,dead,dead,dead,dead],aZ [(1000000,some ⟨88,.slice b1000000 [],3,none⟩)]⟩ (aG 0 (cZ P (ak B3 H4 R3 []) Le N (sub [1,1,1] (ag fn)) (qA P fn 1)))
theorem IP (N n:Nat) (x1:Int) (x2:Int) (x3:Int) (es:List D) (v10:Int) (v11:Int) (b1000000:List D):vM Tryz.prog Tryz.f182 N (n+1) x1 x2 x3 es v10 v11 b1000000=
 bif (v10 !=v11)then
  bif decide (v10>v11)then
   bif Dp b1000000 (IntKind.wrap .i64 (x2 - v10)) x2 v11 then
    vM Tryz.prog Tryz.f182 N n x1 x2 x3 es (IntKind.wrap .i64 (v10 - v11)) v11 (MO b1000000 (IntKind.wrap .i64 (x2 - v10)) x2 v11)
   else none
  else bif Dp b1000000 (IntKind.wrap .i64 (x2 - v10)) (IntKind.wrap .i64 ((IntKind.wrap .i64 (x2+v11)) - v10)) v10 then
    vM Tryz.prog Tryz.f182 N n x1 x2 x3 es v10 (IntKind.wrap .i64 (v11 - v10)) (MO b1000000 (IntKind.wrap .i64 (x2 - v10)) (IntKind.wrap .i64 ((IntKind.wrap .i64 (x2+v11)) - v10)) v10)
   else none
 else bif Dp b1000000 (IntKind.wrap .i64 (x2 - v10)) x2 v10 then
   some (aL [] (.agg []),[some ⟨88,.slice (MO b1000000 (IntKind.wrap .i64 (x2 - v10)) x2 v10) [],3,none⟩])
  else none:=by kernel_rfl
theorem t182 (N:Nat) (x1:Int) (x2:Int) (x3:Int) (es:List D):jP Tryz.prog (ak B3 H4 R3 []) Le N Tryz.f182 [bxp 1000000 88,dat 3 (.lit (.int .i64 x1)),dat 3 (.lit (.int .i64 x2)),dat 3 (.lit (.int .i64 x3)),dat 96 (.held (.func (.func 63) #[] #[]))] [⟨88,.slice es [],3,none⟩]=
 vM Tryz.prog Tryz.f182 N N x1 x2 x3 es (IntKind.wrap .i64 (x2 - x1)) (IntKind.wrap .i64 (x3 - x2)) es:=by kernel_rfl
/- roadbook/bag.Sorted -/
def ad3:ay:=fun _=>none
theorem t56 (N:Nat) (x0:D) (x1:Int):aU Tryz.prog (ak B3 H4 R3 []) ad3 N Tryz.f56 [dat 37 x0,dat 3 (.lit (.int .i64 x1))]=
 some (dat 4 (.lit (.bool (F8 (Lib.idxOf ((ae (af x0 0)).map intD) x1) (ae (af x0 1)))))):=by kernel_rfl
section
set_option maxRecDepth 10000
set_option linter.unusedSimpArgs false
theorem GN {N:Nat} {es:List D} {x1 x3:Int} {m:Nat} : ∀ (n:Nat) (P0 X Y R:List D),P0.length+X.length=m->0<X.length->0<Y.length->X.length+Y.length<n->(P0++X++Y++R).length<=2147483648->
  vM Tryz.prog Tryz.f182 N n x1 (m:Int) x3 es (X.length:Int) (Y.length:Int) (P0++X++Y++R)=some (gq,kW (P0++Y++X++R))
 |0,_,_,_,_,_,_,_,h,_=>by omega
 |n+1,P0,X,Y,R,h1,hx,hy,h,hbig=>by
  have hbig':=hbig
  simp only[List.length_append]at hbig'
  rw[IP]
  have w1:IntKind.wrap .i64 ((m:Int) - (X.length:Int))=(P0.length:Int):=by rw[aH (l_in (by omega) (by omega))];omega
  rw[w1]
  by_cases he:X.length=Y.length
  ·have f1:P0++X++Y++R=P0++X++[]++Y++R:=by simp
   rw[Sj he,cond_false,f1,FZ P0 X [] Y R rfl rfl (by simp;omega) he.symm (by rw[<-f1];exact hbig),cond_true,KC P0 X [] Y R rfl rfl (by simp;omega) he.symm]
   simp[gq,kW]
  ·rw[Tq he,cond_true]
   by_cases hgt:Y.length<X.length
   ·have g1:decide ((X.length:Int)>(Y.length:Int))=true:=by simp;omega
    have hU:(X.take Y.length).length=Y.length:=by simp;omega
    have hV:(X.drop Y.length).length=X.length - Y.length:=by simp
    have f1:P0++X++Y++R=P0++X.take Y.length++X.drop Y.length++Y++R:=by
     rw[List.append_assoc P0 (X.take Y.length),List.take_append_drop]
    have w2:IntKind.wrap .i64 ((X.length:Int) - (Y.length:Int))=((X.drop Y.length).length:Int):=by rw[aH (l_in (by omega) (by omega)),hV];omega
    rw[g1,cond_true,f1,FZ P0 (X.take Y.length) (X.drop Y.length) Y R rfl (by rw[hU]) (by rw[hU,hV];omega) hU.symm (by rw[<-f1];exact hbig),cond_true,
     KC P0 (X.take Y.length) (X.drop Y.length) Y R rfl (by rw[hU]) (by rw[hU,hV];omega) hU.symm,w2]
    have key:=GN (N:=N) (es:=es) (x1:=x1) (x3:=x3) (m:=m) n (P0++Y) (X.drop Y.length) (X.take Y.length) R (by simp;omega) (by rw[hV];omega) (by rw[hU];omega) (by rw[hU,hV];omega) (by simp;omega)
    rw[hU]at key
    rw[key]
    simp[List.append_assoc]
   ·have g1:decide ((X.length:Int)>(Y.length:Int))=false:=by simp;omega
    have hU:(Y.take (Y.length - X.length)).length=Y.length - X.length:=by simp
    have hV:(Y.drop (Y.length - X.length)).length=X.length:=by simp;omega
    have f1:P0++X++Y++R=P0++X++Y.take (Y.length - X.length)++Y.drop (Y.length - X.length)++R:=by
     rw[List.append_assoc (P0++X) (Y.take (Y.length - X.length)),List.take_append_drop]
    have w2:IntKind.wrap .i64 ((Y.length:Int) - (X.length:Int))=((Y.take (Y.length - X.length)).length:Int):=by rw[aH (l_in (by omega) (by omega)),hU];omega
    have w3:IntKind.wrap .i64 (IntKind.wrap .i64 ((m:Int)+(Y.length:Int)) - (X.length:Int))=((P0.length+X.length+(Y.take (Y.length - X.length)).length:Nat):Int):=by
     have w4:IntKind.wrap .i64 ((m:Int)+(Y.length:Int))=(m:Int)+(Y.length:Int):=aH (l_in (by omega) (by omega))
     rw[w4,aH (l_in (by omega) (by omega)),hU];omega
    rw[g1,cond_false,w3,f1,FZ P0 X (Y.take (Y.length - X.length)) (Y.drop (Y.length - X.length)) R rfl rfl rfl hV (by rw[<-f1];exact hbig),cond_true,
     KC P0 X (Y.take (Y.length - X.length)) (Y.drop (Y.length - X.length)) R rfl rfl rfl hV,w2]
    have f2:P0++Y.drop (Y.length - X.length)++Y.take (Y.length - X.length)++X++R=P0++Y.drop (Y.length - X.length)++Y.take (Y.length - X.length)++(X++R):=by simp
    have key:=GN (N:=N) (es:=es) (x1:=x1) (x3:=x3) (m:=m) n P0 (Y.drop (Y.length - X.length)) (Y.take (Y.length - X.length)) (X++R) (by rw[hV];omega) (by rw[hV];omega) (by rw[hU];omega) (by rw[hU,hV];omega) (by simp;omega)
    rw[hV]at key
    rw[f2,key]
    simp[List.append_assoc]
def aaI (ds hs:List D):Bool:=match ds,hs with
 | [_,a,m,b,f],[e]=>isF f&&EY (ae e) (intD a) (intD m) (intD b)
 |_,_=>false
def aep (ds hs:List D):uN:=match ds,hs with
 | [_,a,m,b,_],[e]=>some (gq,kW (uK (ae e) (intD a) (intD m) (intD b)))
 |_,_=>none
def aeB:xP:=(182,0,fD a206 kY aaI,iZ a206 kY aep)
theorem aeU:FnOK Tryz.prog 182 Tryz.f182:=⟨Tryz.func182,rfl,by kernel_rfl⟩
theorem c182: ∀ args hh r h',fD a206 kY aaI args hh=true->iZ a206 kY aep args hh=some (r,h')->HCallOK Tryz.prog 182 args hh r h':=by
 refine fV rfl rfl fun ds es r h' hq hd=>?_
 unfold aaI at hq
 split at hq
 ·rename_i z a b m f e
  cases hd
  rw[Bool.and_eq_true]at hq
  refine HCallOK.typedR aeU.ex fun ht _ hr=>?_
  obtain⟨_,t1⟩:=ht (dat 3 a) (by simp[fA,a206,dat,bxp]) rfl
  obtain⟨_,t2⟩:=ht (dat 3 b) (by simp[fA,a206,dat,bxp]) rfl
  obtain⟨_,t4⟩:=ht (dat 3 m) (by simp[fA,a206,dat,bxp]) rfl
  obtain⟨_,t3⟩:=ht (dat 96 f) (by simp[fA,a206,dat,bxp]) rfl
  obtain⟨el,l,_,hl,_⟩:=hr ⟨88,e,3,none⟩ (by simp[kQ,kY]) (by simp)
  have hl:e=.slice l []:=hl
  subst hl
  obtain⟨i1,rfl,_⟩:=iC t1
  obtain⟨i2,rfl,_⟩:=iC t2
  obtain⟨i3,rfl,_⟩:=iC t4
  rw[Bz (show Ty Tryz.prog _ 96 f from t3) hq.1]
  have hq:EY l i1 i2 i3=true:=hq.2
  simp only[EY,Bool.and_eq_true,decide_eq_true_eq]at hq
  obtain⟨⟨⟨⟨g1,g2⟩,g3⟩,g4⟩,g5⟩:=hq
  obtain⟨A,hA⟩: ∃ A:Nat,i1=(A:Int):=⟨i1.toNat,by omega⟩
  obtain⟨M,hM⟩: ∃ M:Nat,i2=(M:Int):=⟨i2.toNat,by omega⟩
  obtain⟨B,hB⟩: ∃ B:Nat,i3=(B:Int):=⟨i3.toNat,by omega⟩
  subst hA hM hB
  obtain⟨P0,X,Y,R,hl,hP,hX,hY,hS,_⟩:=JY l (A:=A) (M:=M) (B:=B) (by omega) (by omega) (by omega)
  refine gZ hm O8 aeU ((t182 (l.length+1) (A:Int) (M:Int) (B:Int) l).trans ?_)
  have w1:IntKind.wrap .i64 ((M:Int) - (A:Int))=(X.length:Int):=by rw[aH (l_in (by omega) (by omega))];omega
  have w2:IntKind.wrap .i64 ((B:Int) - (M:Int))=(Y.length:Int):=by rw[aH (l_in (by omega) (by omega))];omega
  have key:=GN (N:=l.length+1) (es:=l) (x1:=(A:Int)) (x3:=(B:Int)) (m:=M) (l.length+1) P0 X Y R (by omega) (by omega) (by omega) (by omega) (by rw[<-hl];exact g5)
  rw[<-hl]at key
  rw[w1,w2,key]
  show _=some (gq,kW (uK l (A:Int) (M:Int) (B:Int)))
  rw[hS]
 ·cases hq
def e56:FuncId×TypeId×(List AV->Bool)×(List AV->Option D):=(56,4,yes,ent [37,3] (f2 fun x y=>some (.lit (.bool (sortedB x (intD y))))))
theorem k56:FnOK Tryz.prog 56 Tryz.f56:=⟨Tryz.func56,rfl,by kernel_rfl⟩
theorem c56: ∀ args d,e56.2.2.2 args=some d->CallOK Tryz.prog 56 args (aj Tryz.prog 4 d):=
 gD k56 fun x y d h _ _=>by
  cases h
  rw[nB,n3]
  refine aI hm O8 k56 ((t56 1 x (intD y)).trans ?_)
  rw[m4]
  rfl
def Yu (K:Nat) (ds hs:List D):Bool:=match ds,hs with
 | [_,a,m,b,f],[e]=>isF f&&iF K (ae e) (intD a) (intD m) (intD b)
 |_,_=>false
def adT (ds hs:List D):uN:=match ds,hs with
 | [_,a,m,b,_],[e]=>some (gq,kW (insL (ae e) (intD a) (intD b)))
 |_,_=>none
def ahw (K:Nat):xP:=(155,0,fD a206 kY (Yu K),iZ a206 kY adT)
def H5 (K:Nat):uQ:=ahw K::aeB::H4
theorem Xm:EnvOK Tryz.prog (ak B3 (aeB::H4) R3 []):=bJ O8 c182
end
end Go.Proofs.YtpceahbengfjeaaGreatDoor
