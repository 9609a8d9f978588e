/- Trees of functions, and lemmas. Nothing here is trusted. -/
import Derived.Test.YtpceahbengfjeaaGreatDoorZ40
import Derived.Test.YtpceahbengfjeaaGreatDoorZ36
import Derived.Test.YtpceahbengfjeaaGreatDoorZ31
import Derived.Test.YtpceahbengfjeaaGreatDoorZ28
import Derived.Test.YtpceahbengfjeaaGreatDoorZ38
import Derived.Test.YtpceahbengfjeaaGreatDoorZ29
import Derived.Test.YtpceahbengfjeaaGreatDoorZ30
namespace Go.Proofs.YtpceahbengfjeaaGreatDoor
open Go.Ev
set_option linter.unusedVariables false
set_option maxRecDepth 10000
def M0:Tab:=e30::e31::e27::e94::e46::e25::e56::e24::Dn.e135::Dn.e89::X.e32::X.e29::X.e95::Tn.e90::Tn.e23::Tn.e12 101::Dn.e87::X.e86::Dn.e34::e20::e33::[]
theorem Pz:EnvOK Tryz.prog (ak M0 [] [] []):=
 ah (aO (ah (ah (ah (aO (ah (aO (ah (ah (ah (aO (aO (ah (ah (aO (ah (ah (ah (ah (ah CQ c33) c20) Dn.c34) X.c86) Dn.c87) (Tn.c12 100 (Tn.envS9 100))) Tn.c23) Tn.c90) X.c95) X.c29) X.c32) Dn.c89) Dn.c135) c24) c56) c25) c46) c94) c27) c31) c30
/- roadbook/means.hold -/
def aeG:ay:=fun _=>none
theorem t40 (N:Nat) (x0:Bool):aU Tryz.prog (ak M0 [] [] []) aeG N Tryz.f40 [dat 4 (.lit (.bool x0))]=
 bif (!x0)then
  none
 else some (aL [] (.agg [])):=by kernel_rfl
/- roadbook/means.asks -/
def aet:ay:=fun _=>none
theorem t41 (N:Nat) (x0:D) (x1:D) (x2:D):aU Tryz.prog (ak M0 [] [] []) aet N Tryz.f41 [dat 24 x0,dat 27 x1,dat 31 x2]=
 bif ((HY x0 x2)==true)then
  some (dat 4 (.lit (.bool (xC x0 x1))))
 else some (dat 4 (.lit (.bool false))):=by kernel_rfl
/- roadbook/means.isOf -/
def ams:ay:=fun _=>none
theorem t42 (N:Nat) (x0:D) (x1:D):aU Tryz.prog (ak M0 [] [] []) ams N Tryz.f42 [dat 31 x0,dat 34 x1]=
 bif ((agM x1)==true)then
  bif decide (0<=((ae (af x0 0)).length:Int))then
   some (dat 4 (.lit (.bool (decide ((W9 x1)<(TW .i64 1 ((ae (af x0 0)).length:Int)))))))
  else none
 else some (dat 4 (.lit (.bool false))):=by kernel_rfl
/- roadbook/means.at -/
def akn:ay:=fun i=>if i=3 then some ([0,1,3,4,6,7,8,9,10,14,15,16,17,18,19,20,21,22,23,24,25,26,27],[2,10],[])else none
def ai2 (P:Program) (fn:Func) (N n:Nat) (x0:D) (x1:D) (v13:Int) (b10:List D):Option AV:=aN (preL akn (sub [1,1,0,1,0,0] (ag fn))) (az P (ak M0 [] [] []) akn N (sub [1,1,0,1,0,0] (ag fn))) n ⟨[dead,dead,bxp 2 31,dead,dead,bxp 10 29,dead,dead,dead,dead,dead,dat 28 x1,dat 3 (.lit (.int .i64 ((ae x1).length:Int))),dat 3 (.lit (.int .i64 v13)),dead,dead,dead,dead,dead,dead,dead,dead,dead,dead,dead,dead,dead,dead],aZ [(2,some ⟨31,x0,0,none⟩),(10,some ⟨29,.slice b10 [],2,none⟩)]⟩ (aG 0 (cZ P (ak M0 [] [] []) akn N (sub [1,1,1] (ag fn)) (dJ P fn)))
theorem ajF (N n:Nat) (x0:D) (x1:D) (v13:Int) (b10:List D):ai2 Tryz.prog Tryz.f93 N (n+1) x0 x1 v13 b10=
 bif decide (v13<((ae x1).length:Int))then
  bif (decide (0<=v13)&&decide (v13<((ae x1).length:Int)))then
   bif (decide (0<=(intD ((ae x1).getD (v13).toNat .nil)))&&decide ((intD ((ae x1).getD (v13).toNat .nil))<((ae (af x0 1)).length:Int)))then
    bif (decide (0<=v13)&&decide (v13<(b10.length:Int)))then
     ai2 Tryz.prog Tryz.f93 N n x0 x1 (IntKind.wrap .i64 (v13+1)) (b10.set (v13).toNat ((ae (af x0 1)).getD (intD ((ae x1).getD (v13).toNat .nil)).toNat .nil))
    else none
   else none
  else none
 else some (dat 29 (.slice b10 [])):=by kernel_rfl
theorem t93 (N:Nat) (x0:D) (x1:D):aU Tryz.prog (ak M0 [] [] []) akn N Tryz.f93 [dat 31 x0,dat 28 x1]=
 bif (decide (0<=((ae x1).length:Int))&&decide (((ae x1).length:Int)<=2147483648))then
  ai2 Tryz.prog Tryz.f93 N N x0 x1 0 (List.replicate (((ae x1).length:Int)).toNat (.agg [.lit (.int .i64 0),.lit (.int .i64 0),.agg [.lit (.int .i64 0),.lit (.int .i64 0)],.slice [] []]:D))
 else none:=by kernel_rfl
/- roadbook/means.Finish -/
def adp:ay:=fun _=>none
theorem t16 (N:Nat) (x0:D) (x1:D):aU Tryz.prog (ak M0 [] [] []) adp N Tryz.f16 [dat 31 x0,dat 37 x1]=
 bif ((intD (af x0 2))!=(-1))then
  some (aL [37,4] (.agg [eF x1 (intD (af x0 2)) (ae (af x0 3)),.lit (.bool (dO x1 (intD (af x0 2)) (ae (af x0 3))))]))
 else some (aL [37,4] (.agg [gI x1 (ae (af x0 4)),.lit (.bool (gy x1 (ae (af x0 4))))])):=by kernel_rfl
/- roadbook/roadbooklaw03.Far -/
/- roadbook/roadbooklaw04.Far -/
def al8:ay:=fun _=>none
theorem t36 (N:Nat) (x0:D):aU Tryz.prog (ak M0 [] [] []) al8 N Tryz.f36 [dat 27 x0]=
 bif Zl x0 then
  some (dat 3 (.lit (.int .i64 0)))
 else some (dat 3 (.lit (.int .i64 1))):=by kernel_rfl
/- roadbook/roadbooklaw05.Far -/
def ama:ay:=fun _=>none
theorem t35 (N:Nat) (x0:D) (x1:D):aU Tryz.prog (ak M0 [] [] []) ama N Tryz.f35 [dat 24 x0,dat 31 x1]=
 bif agd X.fewB x0 x1 then
  some (dat 3 (.lit (.int .i64 0)))
 else some (dat 3 (.lit (.int .i64 1))):=by kernel_rfl
/- roadbook/roadbooklaw07.Light -/
def ajc:ay:=fun i=>if i=5 then some ([0,1,3,4,7,8,9,10,11,12,13,14,15,16,17,18,19,20,21,22,23,24,25],[2],[])else none
def aiF (P:Program) (fn:Func) (N n:Nat) (x0:D) (x1:D) (v6:Int):Option AV:=aN (preL ajc (sub [1,1,1,0,1,0,0] (ag fn))) (az P (ak M0 [] [] []) ajc N (sub [1,1,1,0,1,0,0] (ag fn))) n ⟨[dead,dead,bxp 2 27,dead,dead,dat 3 (.lit (.int .i64 3)),dat 3 (.lit (.int .i64 v6)),dead,dead,dead,dead,dead,dead,dead,dead,dead,dead,dead,dead,dead,dead,dead,dead,dead,dead,dead],aZ [(2,some ⟨27,x0,0,none⟩)]⟩ (aG 0 (cZ P (ak M0 [] [] []) ajc N (sub [1,1,1,1] (ag fn)) (dJ P fn)))
theorem aiH (N n:Nat) (x0:D) (x1:D) (v6:Int):aiF Tryz.prog Tryz.f11 N (n+1) x0 x1 v6=
 bif decide (v6<((ae (af x0 0)).length:Int))then
  bif (decide (0<=v6)&&decide (v6<((ae (af x0 0)).length:Int)))then
   bif decide (((ae ((ae (af x0 0)).getD (v6).toNat .nil)).length:Int)>3)then
    some (dat 3 (.lit (.int .i64 1)))
   else aiF Tryz.prog Tryz.f11 N n x0 x1 (IntKind.wrap .i64 (v6+1))
  else none
 else some (dat 3 (.lit (.int .i64 0))):=by kernel_rfl
def aiq (P:Program) (fn:Func) (N n:Nat) (x0:D) (x1:D) (v6:Int):Option AV:=aN (preL ajc (sub [1,1,1,0,1,0,0] (ag fn))) (az P (ak M0 [] [] []) ajc N (sub [1,1,1,0,1,0,0] (ag fn))) n ⟨[dead,dead,bxp 2 27,dead,dead,dat 3 (.lit (.int .i64 5)),dat 3 (.lit (.int .i64 v6)),dead,dead,dead,dead,dead,dead,dead,dead,dead,dead,dead,dead,dead,dead,dead,dead,dead,dead,dead],aZ [(2,some ⟨27,x0,0,none⟩)]⟩ (aG 0 (cZ P (ak M0 [] [] []) ajc N (sub [1,1,1,1] (ag fn)) (dJ P fn)))
theorem aix (N n:Nat) (x0:D) (x1:D) (v6:Int):aiq Tryz.prog Tryz.f11 N (n+1) x0 x1 v6=
 bif decide (v6<((ae (af x0 0)).length:Int))then
  bif (decide (0<=v6)&&decide (v6<((ae (af x0 0)).length:Int)))then
   bif decide (((ae ((ae (af x0 0)).getD (v6).toNat .nil)).length:Int)>5)then
    some (dat 3 (.lit (.int .i64 1)))
   else aiq Tryz.prog Tryz.f11 N n x0 x1 (IntKind.wrap .i64 (v6+1))
  else none
 else some (dat 3 (.lit (.int .i64 0))):=by kernel_rfl
theorem t11 (N:Nat) (x0:D) (x1:D):aU Tryz.prog (ak M0 [] [] []) ajc N Tryz.f11 [dat 27 x0,dat 31 x1]=
 bif decide (((ae (af x1 0)).length:Int)>3)then
  aiF Tryz.prog Tryz.f11 N N x0 x1 0
 else aiq Tryz.prog Tryz.f11 N N x0 x1 0:=by kernel_rfl
section
set_option linter.unusedSimpArgs false
theorem tX (x:D):bD Tryz.prog 24 x=x:=by kernel_rfl
theorem Dz (x:D):bD Tryz.prog 27 x=x:=by kernel_rfl
theorem xX (x:D):bD Tryz.prog 31 x=x:=by kernel_rfl
theorem ale (x:D):bD Tryz.prog 34 x=x:=by kernel_rfl
theorem amN (x:D):aj Tryz.prog 29 x=dat 29 x:=by kernel_rfl
theorem mU (x:D):aj Tryz.prog 0 x=aL [] x:=by kernel_rfl
theorem aej:Tryz.prog.underlying 25=some (.slice 35):=by kernel_rfl
def e40:FuncId×TypeId×(List AV->Bool)×(List AV->Option D):=(40,0,jU (q1 fun x=>gu x),ent [4] (f1 fun _=>some (.agg [])))
theorem k40:FnOK Tryz.prog 40 Tryz.f40:=⟨Tryz.func40,rfl,by kernel_rfl⟩
theorem c40: ∀ args d,e40.2.2.1 args=true->e40.2.2.2 args=some d->CallOK Tryz.prog 40 args (aj Tryz.prog 0 d):=
 Oa k40 fun x d hq h _=>by
  cases h
  rw[n4]
  refine aI hm Pz k40 ((t40 1 (gu x)).trans ?_)
  rw[mU,show gu x=true from hq]
  rfl
def e41:FuncId×TypeId×(List AV->Bool)×(List AV->Option D):=(41,4,yes,ent [24,27,31] (f3 fun x y z=>some (.lit (.bool (iR x y z)))))
theorem k41:FnOK Tryz.prog 41 Tryz.f41:=⟨Tryz.func41,rfl,by kernel_rfl⟩
theorem c41: ∀ args d,e41.2.2.2 args=some d->CallOK Tryz.prog 41 args (aj Tryz.prog 4 d):=
 O7 k41 fun x y z d h _ _ _=>by
  cases h
  rw[tX,Dz,xX]
  refine aI hm Pz k41 ((t41 1 x y z).trans ?_)
  rw[m4]
  unfold iR
  cases HY x z<;>rfl
def e42:FuncId×TypeId×(List AV->Bool)×(List AV->Option D):=(42,4,yes,ent [31,34] (f2 fun x y=>some (.lit (.bool (adW x y)))))
theorem k42:FnOK Tryz.prog 42 Tryz.f42:=⟨Tryz.func42,rfl,by kernel_rfl⟩
theorem c42: ∀ args d,e42.2.2.2 args=some d->CallOK Tryz.prog 42 args (aj Tryz.prog 4 d):=
 gD k42 fun x y d h _ _=>by
  cases h
  rw[xX,ale]
  refine aI hm Pz k42 ((t42 1 x y).trans ?_)
  rw[m4]
  have h0:decide (0<=((ae (af x 0)).length:Int))=true:=by rw[decide_eq_true_eq];omega
  rw[h0,cond_true]
  unfold adW
  cases agM y<;>rfl
def e93:FuncId×TypeId×(List AV->Bool)×(List AV->Option D):=(93,29,jU (q2 fun x y=>acX x (ae y)),ent [31,28] (f2 fun x y=>some (.slice (atL x (ae y)) [])))
theorem at_loop {N:Nat} {x0 x1:D} (hb:(ae x1).length<=1000) (hin: ∀ q∈ae x1,0<=intD q/\intD q<((qP x0).length:Int)): ∀ (n i:Nat) (tl:List D),i<=(ae x1).length->(ae x1).length - i<n->tl.length=(ae x1).length - i->
  ai2 Tryz.prog Tryz.f93 N n x0 x1 (i:Int) (((ae x1).take i).map (fun q=>(qP x0).getD (intD q).toNat .nil)++tl)=some (dat 29 (.slice (atL x0 (ae x1)) []))
 |0,i,tl,_,h,_=>by omega
 |n+1,i,tl,hi,h,ht=>by
  rw[ajF]
  by_cases hlt:i<(ae x1).length
  ·have hl2:(((ae x1).take i).map (fun q=>(qP x0).getD (intD q).toNat .nil)++tl).length=(ae x1).length:=by simp;omega
   have hc:(decide (0<=intD (ae x1)[i])&&decide (intD (ae x1)[i]<((ae (af x0 1)).length:Int)))=true:=by
    simp only[Bool.and_eq_true,decide_eq_true_eq];exact hin _ (List.getElem_mem hlt)
   have w1:IntKind.wrap .i64 ((i:Int)+1)=((i+1:Nat):Int):=by rw[aH (l_in (by omega) (by omega))];omega
   rw[hl2,bG hlt,eY hlt,cond_true,cond_true,Int.toNat_natCast,dA hlt,hc,cond_true,cond_true,w1,show ae (af x0 1)=qP x0 from rfl,Gw (fun q=>(qP x0).getD (intD q).toNat .nil) hlt ht]
   exact at_loop hb hin n (i+1) (tl.drop 1) (by omega) (by omega) (by simp;omega)
  ·have hi2:i=(ae x1).length:=by omega
   have htl:tl=[]:=List.length_eq_zero_iff.1 (by omega)
   rw[fB hlt,cond_false,htl,hi2,List.take_length,List.append_nil]
   rfl
theorem k93:FnOK Tryz.prog 93 Tryz.f93:=⟨Tryz.func93,rfl,by kernel_rfl⟩
theorem c93: ∀ args d,e93.2.2.1 args=true->e93.2.2.2 args=some d->CallOK Tryz.prog 93 args (aj Tryz.prog 29 d):=
 qG k93 fun x y d hq h _ _=>by
  cases h
  rw[xX,nI]
  simp only[acX,Bool.and_eq_true,decide_eq_true_eq,List.all_eq_true]at hq
  refine aI hm Pz k93 ((t93 ((ae y).length+1) x y).trans ?_)
  rw[amN]
  have c1:(decide (0<=((ae y).length:Int))&&decide (((ae y).length:Int)<=2147483648))=true:=by
   have:=hq.1
   simp only[Bool.and_eq_true,decide_eq_true_eq];omega
  rw[c1,cond_true,Int.toNat_natCast]
  exact at_loop (N:=(ae y).length+1) hq.1 hq.2 ((ae y).length+1) 0 _ (Nat.zero_le _) (by omega) (by simp)
def e16:FuncId×TypeId×(List AV->Bool)×(List AV->Option D):=(16,43,yes,ent [31,37] (f2 fun x y=>some (.agg [gp x y,.lit (.bool (gB x y))])))
theorem k16:FnOK Tryz.prog 16 Tryz.f16:=⟨Tryz.func16,rfl,by kernel_rfl⟩
theorem c16: ∀ args d,e16.2.2.2 args=some d->CallOK Tryz.prog 16 args (aj Tryz.prog 43 d):=
 gD k16 fun x y d h _ _=>by
  cases h
  rw[xX,nB]
  refine aI hm Pz k16 ((t16 1 x y).trans ?_)
  rw[Ua]
  unfold gp gB qBy
  cases (intD (af x 2)!= -1)<;>rfl
theorem aaS (b:Bool):(bif b then(some (dat 3 (.lit (.int .i64 0))):Option AV)else some (dat 3 (.lit (.int .i64 1))))=some (dat 3 (.lit (.int .i64 (Zd b)))):=by cases b<;>rfl
def e36:FuncId×TypeId×(List AV->Bool)×(List AV->Option D):=(36,3,yes,ent [27] (f1 fun x=>some (.lit (.int .i64 (Zd (Zl x))))))
theorem k36:FnOK Tryz.prog 36 Tryz.f36:=⟨Tryz.func36,rfl,by kernel_rfl⟩
theorem c36: ∀ args d,e36.2.2.2 args=some d->CallOK Tryz.prog 36 args (aj Tryz.prog 3 d):=
 mY k36 fun x d h _=>by
  cases h
  rw[Dz]
  refine aI hm Pz k36 ((t36 1 x).trans ?_)
  rw[m3]
  exact aaS _
def e35:FuncId×TypeId×(List AV->Bool)×(List AV->Option D):=(35,3,yes,ent [24,31] (f2 fun x y=>some (.lit (.int .i64 (Zd (agd X.fewB x y))))))
theorem k35:FnOK Tryz.prog 35 Tryz.f35:=⟨Tryz.func35,rfl,by kernel_rfl⟩
theorem c35: ∀ args d,e35.2.2.2 args=some d->CallOK Tryz.prog 35 args (aj Tryz.prog 3 d):=
 gD k35 fun x y d h _ _=>by
  cases h
  rw[tX,xX]
  refine aI hm Pz k35 ((t35 1 x y).trans ?_)
  rw[m3]
  exact aaS _
def e11:FuncId×TypeId×(List AV->Bool)×(List AV->Option D):=(11,3,yes,ent [27,31] (f2 fun x y=>some (.lit (.int .i64 (agx x y)))))
theorem k11:FnOK Tryz.prog 11 Tryz.f11:=⟨Tryz.func11,rfl,by kernel_rfl⟩
theorem akQ {n:Nat} {x:D} (h:Ty Tryz.prog n 27 x):(tabs x).length<=maxLen:=by
 obtain⟨m,a,rfl,h1⟩:=xH h Tryz.underlying27
 obtain⟨m2,es,rfl,h2,_⟩:=pW h1 aej
 exact h2
theorem c11: ∀ args d,e11.2.2.2 args=some d->CallOK Tryz.prog 11 args (aj Tryz.prog 3 d):=
 gD k11 fun x y d h ⟨_,hx⟩ _=>by
  cases h
  have hl:=akQ hx
  rw[Dz,xX]
  refine aI hm Pz k11 ((t11 ((tabs x).length+1) x y).trans ?_)
  rw[m3]
  have p3:=jl (fun n v=>aiF Tryz.prog Tryz.f11 ((tabs x).length+1) n x y v) (tabs x).length (fun i=>decide (((ae ((tabs x).getD i .nil)).length:Int)>3)) (some (dat 3 (.lit (.int .i64 1)))) (some (dat 3 (.lit (.int .i64 0))))
   (fun n i hi=>by rw[aiH,show ae (af x 0)=tabs x from rfl,bG hi,eY hi,cond_true,cond_true,Int.toNat_natCast,fE hl hi])
   (fun n=>by rw[aiH,show ae (af x 0)=tabs x from rfl,fB (by omega),cond_false]) ((tabs x).length+1) 0 (Nat.zero_le _) (by omega)
  have p5:=jl (fun n v=>aiq Tryz.prog Tryz.f11 ((tabs x).length+1) n x y v) (tabs x).length (fun i=>decide (((ae ((tabs x).getD i .nil)).length:Int)>5)) (some (dat 3 (.lit (.int .i64 1)))) (some (dat 3 (.lit (.int .i64 0))))
   (fun n i hi=>by rw[aix,show ae (af x 0)=tabs x from rfl,bG hi,eY hi,cond_true,cond_true,Int.toNat_natCast,fE hl hi])
   (fun n=>by rw[aix,show ae (af x 0)=tabs x from rfl,fB (by omega),cond_false]) ((tabs x).length+1) 0 (Nat.zero_le _) (by omega)
  rw[Nat.sub_zero,rO (tabs x) (fun t=>decide (((ae t).length:Int)>3))]at p3
  rw[Nat.sub_zero,rO (tabs x) (fun t=>decide (((ae t).length:Int)>5))]at p5
  have p3:aiF Tryz.prog Tryz.f11 ((tabs x).length+1) ((tabs x).length+1) x y 0=_:=p3
  have p5:aiq Tryz.prog Tryz.f11 ((tabs x).length+1) ((tabs x).length+1) x y 0=_:=p5
  rw[p3,p5]
  unfold agx YZ
  rw[show ae (af y 0)=dQ y from rfl,List.all_eq_not_any_not,List.all_eq_not_any_not]
  simp only[Bool.not_not]
  cases decide (((dQ y).length:Int)>3)<;>cases (tabs x).any (fun t=>decide (((ae t).length:Int)>3))<;>cases (tabs x).any (fun t=>decide (((ae t).length:Int)>5))<;>rfl
def M1:Tab:=e40::e41::e42::e93::e16::e36::e35::e11::M0
theorem aas:EnvOK Tryz.prog (bT M1 []):=aO (ah (ah (aO (ah (ah (ah (ah Pz c11) c35) c36) c16) c93) c42) c41) c40
end
/- roadbook/means.must -/
def aff:ay:=fun _=>none
theorem t50 (N:Nat) (x0:D) (x1:Bool):aU Tryz.prog (ak M1 [] [] []) aff N Tryz.f50 [dat 37 x0,dat 4 (.lit (.bool x1))]=
 bif x1 then
  some (dat 37 x0)
 else none:=by kernel_rfl
/- roadbook/roadbooklaw07.few -/
def amq:ay:=fun _=>none
theorem t10 (N:Nat) (x0:D) (x1:D) (x2:D):aU Tryz.prog (ak M1 [] [] []) amq N Tryz.f10 [dat 24 x0,dat 27 x1,dat 31 x2]=
 bif (((Zd (agd X.fewB x0 x2))==0)==true)then
  some (dat 4 (.lit (.bool ((Zd (Zl x1))==0))))
 else some (dat 4 (.lit (.bool false))):=by kernel_rfl
section
set_option linter.unusedSimpArgs false
def e50:FuncId×TypeId×(List AV->Bool)×(List AV->Option D):=(50,37,jU (q2 fun _ y=>gu y),ent [37,4] (f2 fun x _=>some x))
theorem k50:FnOK Tryz.prog 50 Tryz.f50:=⟨Tryz.func50,rfl,by kernel_rfl⟩
theorem c50: ∀ args d,e50.2.2.1 args=true->e50.2.2.2 args=some d->CallOK Tryz.prog 50 args (aj Tryz.prog 37 d):=
 qG k50 fun x y d hq h _ _=>by
  cases h
  rw[nB,n4]
  refine aI hm aas k50 ((t50 1 x (gu y)).trans ?_)
  rw[mB,show gu y=true from hq]
  rfl
def e10:FuncId×TypeId×(List AV->Bool)×(List AV->Option D):=(10,4,yes,ent [24,27,31] (f3 fun x y z=>some (.lit (.bool (ahK X.fewB x y z)))))
theorem k10:FnOK Tryz.prog 10 Tryz.f10:=⟨Tryz.func10,rfl,by kernel_rfl⟩
theorem c10: ∀ args d,e10.2.2.2 args=some d->CallOK Tryz.prog 10 args (aj Tryz.prog 4 d):=
 O7 k10 fun x y z d h _ _ _=>by
  cases h
  rw[tX,Dz,xX]
  refine aI hm aas k10 ((t10 1 x y z).trans ?_)
  rw[m4]
  unfold ahK Zd
  cases agd X.fewB x z<;>cases Zl y<;>rfl
def M2:Tab:=e50::e10::M1
theorem aay:EnvOK Tryz.prog (bT M2 []):=aO (ah aas c10) c50
end
/- roadbook/means.occurrence -/
def aeC:ay:=fun _=>none
theorem t92 (N:Nat) (x0:D) (x1:D) (x2:D) (x3:Int):aU Tryz.prog (ak M2 [] [] []) aeC N Tryz.f92 [dat 24 x0,dat 27 x1,dat 31 x2,dat 3 (.lit (.int .i64 x3))]=
 bif (decide (0<=x3)&&decide (x3<((ae (af x2 0)).length:Int)))then
  bif (Ip x0 x1 (intD ((ae (af x2 0)).getD (x3).toNat .nil)) x3)then
   some (dat 37 (Jv x0 x1 (intD ((ae (af x2 0)).getD (x3).toNat .nil)) x3))
  else none
 else none:=by kernel_rfl
section
set_option linter.unusedSimpArgs false
def e92:FuncId×TypeId×(List AV->Bool)×(List AV->Option D):=(92,37,jU (q4 fun x y z u=>FP x y z (intD u)),ent [24,27,31,3] (f4 fun x y z u=>some (lX x y z (intD u))))
theorem k92:FnOK Tryz.prog 92 Tryz.f92:=⟨Tryz.func92,rfl,by kernel_rfl⟩
theorem c92: ∀ args d,e92.2.2.1 args=true->e92.2.2.2 args=some d->CallOK Tryz.prog 92 args (aj Tryz.prog 37 d):=
 ZZ k92 fun x y z u d hq h _ _ _ _=>by
  cases h
  rw[tX,Dz,xX,n3]
  refine aI hm aay k92 ((t92 1 x y z (intD u)).trans ?_)
  rw[mB]
  unfold FP at hq
  rw[Bool.and_eq_true]at hq
  rw[show ae (af z 0)=dQ z from rfl,hq.1,cond_true]
  have h2:Ip x y (intD ((dQ z).getD (intD u).toNat .nil)) (intD u)=true:=hq.2
  rw[h2]
  rfl
def M3:Tab:=e92::M2
theorem Z9:EnvOK Tryz.prog (bT M3 []):=aO aay c92
def a91:List AV:=[dat 34 .nil,bxp OID 24,bxp (OID+1) 27,bxp (OID+2) 31,bxp (OID+3) 77]
def b91:List Ent:=[⟨24,.nil,0,none⟩,⟨27,.nil,0,none⟩,⟨31,.nil,0,none⟩,⟨77,.nil,0,some (clo 77 91 [OID,OID+1,OID+2,OID+3])⟩]
def q91 (K:Nat) (ds hs:List D):Bool:=match ds,hs with
 | [x,_,_,_,_],[c,d,q,_]=>aiy c d q K x
 |_,_=>false
def g91 (K:Nat) (ds hs:List D):Option D:=match ds,hs with
 | [x,_,_,_,_],[c,d,q,_]=>some (XA c d q K x)
 |_,_=>none
def r91 (K:Nat):FuncId×TypeId×(List AV->List Ent->Bool)×(List AV->List Ent->Option D):=(91,37,fD a91 b91 (q91 K),TV a91 b91 (g91 K))
def R7 (K:Nat):RTab:=[r91 K]
end
/- roadbook/means.crossed -/
def RF:ay:=fun i=>if i=3 then some ([0,1,2,9,10,11,12,13,14,15,16,17,18,19,20,21,22,23,24,25,26,27,28,29,30],[3,4,5,6,7],[])else none
def ET (P:Program) (fn:Func) (N n:Nat) (x0:D) (x1:D) (x2:D) (v8:Int) (b7:D):Option AV:=aN (preL RF (sub [1,1,0,1,0,0] (ag fn))) (az P (ak M3 [] [] []) RF N (sub [1,1,0,1,0,0] (ag fn))) n ⟨[dead,dead,dead,bxp 3 24,bxp 4 27,bxp 5 31,bxp 6 37,bxp 7 37,dat 3 (.lit (.int .i64 v8)),dead,dead,dead,dead,dead,dead,dead,dead,dead,dead,dead,dead,dead,dead,dead,dead,dead,dead,dead,dead,dead,dead],aZ [(3,some ⟨24,x0,0,none⟩),(4,some ⟨27,x1,0,none⟩),(5,some ⟨31,x2,0,none⟩),(6,some ⟨37,.agg [.slice [] [],.slice [] []],0,none⟩),(7,some ⟨37,b7,0,none⟩)]⟩ (aG 0 (cZ P (ak M3 [] [] []) RF N (sub [1,1,1] (ag fn)) (dJ P fn)))
theorem LH (N n:Nat) (x0:D) (x1:D) (x2:D) (v8:Int) (b7:D):ET Tryz.prog Tryz.f51 N (n+1) x0 x1 x2 v8 b7=
 bif decide (v8<((ae (af x2 0)).length:Int))then
  bif FP x0 x1 x2 v8 then
   bif (jM b7 (lX x0 x1 x2 v8))then
    ET Tryz.prog Tryz.f51 N n x0 x1 x2 (IntKind.wrap .i64 (v8+1)) (jf b7 (lX x0 x1 x2 v8))
   else none
  else none
 else some (dat 37 b7):=by kernel_rfl
theorem t51 (N:Nat) (x0:D) (x1:D) (x2:D):aU Tryz.prog (ak M3 [] [] []) RF N Tryz.f51 [dat 24 x0,dat 27 x1,dat 31 x2]=
 bif FP x0 x1 x2 0 then
  ET Tryz.prog Tryz.f51 N N x0 x1 x2 1 (lX x0 x1 x2 0)
 else none:=by kernel_rfl
/- roadbook/means.teller$1 -/
def al4:ay:=fun _=>none
theorem t91 (K:Nat) (N:Nat) (x0:D) (c:D) (d:D) (q:D):jP Tryz.prog (ak M3 [] (R7 K) []) al4 N Tryz.f91 [dat 34 x0,bxp 1000000 24,bxp 1000001 27,bxp 1000002 31,bxp 1000003 77] [⟨24,c,0,none⟩,⟨27,d,0,none⟩,⟨31,q,0,none⟩,⟨77,.nil,0,some (clo 77 91 [1000000,1000001,1000002,1000003])⟩]=
 bif (((ae (af x0 1)).length:Int)==0)then
  bif FP c d q (intD (af x0 0))then
   bif decide ((qP q).length<=2147483647)then
    bif acX q (afL q (W9 x0))then
     bif iY (lX c d q (intD (af x0 0)))then
      some (dat 37 (oQ (lX c d q (intD (af x0 0))) (atL q (afL q (W9 x0)))),[some ⟨24,c,0,none⟩,some ⟨27,d,0,none⟩,some ⟨31,q,0,none⟩,some ⟨77,.nil,0,some (clo 77 91 [1000000,1000001,1000002,1000003])⟩])
     else none
    else none
   else none
  else none
 else bif (decide (0<=(0:Int))&&decide ((0:Int)<((ae (af x0 1)).length:Int)))then
   bif (decide (0<=(1:Int))&&decide ((1:Int)<((ae (af x0 1)).length:Int)))then
    bif aiy c d q K ((ae (af x0 1)).getD 0 .nil)then
     bif aiy c d q K ((ae (af x0 1)).getD 1 .nil)then
      bif (jM (XA c d q K ((ae (af x0 1)).getD 0 .nil)) (XA c d q K ((ae (af x0 1)).getD 1 .nil)))then
       bif decide ((qP q).length<=2147483647)then
        bif acX q (afl q (W9 ((ae (af x0 1)).getD 0 .nil)) (W9 ((ae (af x0 1)).getD 1 .nil)))then
         bif iY (jf (XA c d q K ((ae (af x0 1)).getD 0 .nil)) (XA c d q K ((ae (af x0 1)).getD 1 .nil)))then
          some (dat 37 (oQ (jf (XA c d q K ((ae (af x0 1)).getD 0 .nil)) (XA c d q K ((ae (af x0 1)).getD 1 .nil))) (atL q (afl q (W9 ((ae (af x0 1)).getD 0 .nil)) (W9 ((ae (af x0 1)).getD 1 .nil))))),[some ⟨24,c,0,none⟩,some ⟨27,d,0,none⟩,some ⟨31,q,0,none⟩,some ⟨77,.nil,0,some (clo 77 91 [1000000,1000001,1000002,1000003])⟩])
         else none
        else none
       else none
      else none
     else none
    else none
   else none
  else none:=by kernel_rfl
section
set_option linter.unusedSimpArgs false
theorem ait:ain:=by
 intro e C r C' r' H
 unfold BF Rh
 cases hm:BB e with
 |false=>rw[cond_false,cond_false]
 |true=>
  rw[cond_true,cond_true]
  have key:oD C r 7 e=oD C' r' 7 e:=by
   refine X.eval_same 7 e fun z hz=>?_
   have hz2:fO z∈mg e:=by
    rw[X.colsE_eq hm]
    exact List.mem_map.2 ⟨z,X.mem_cset.2 hz,rfl⟩
   exact H (fO z) hz2
  rw[key]
def e51:FuncId×TypeId×(List AV->Bool)×(List AV->Option D):=(51,37,jU (q3 fun x y z=>iR x y z),ent [24,27,31] (f3 fun x y z=>some (jW x y z)))
theorem k51:FnOK Tryz.prog 51 Tryz.f51:=⟨Tryz.func51,rfl,by kernel_rfl⟩
theorem yM {c d q:D} (h:Asks c d q) {N:Nat} : ∀ (n i:Nat),i+1<=(dQ q).length->(dQ q).length - (i+1)<n->
  ET Tryz.prog Tryz.f51 N n c d q ((i+1:Nat):Int) (GU c d q i)=some (dat 37 (jW c d q))
 |0,i,_,hn=>by omega
 |n+1,i,hi,hn=>by
  have h4:=h.n4
  rw[LH,show ae (af q 0)=dQ q from rfl]
  by_cases hlt:i+1<(dQ q).length
  ·have w1:IntKind.wrap .i64 (((i+1:Nat):Int)+1)=((i+1+1:Nat):Int):=by rw[aH (l_in (by omega) (by omega))];omega
   rw[eY hlt,cond_true,XT h hlt,cond_true,Qd h hlt,cond_true,w1]
   exact yM h n (i+1) (by omega) (by omega)
  ·rw[fB hlt,cond_false]
   unfold jW
   rw[show(dQ q).length - 1=i by omega]
theorem c51: ∀ args d,e51.2.2.1 args=true->e51.2.2.2 args=some d->CallOK Tryz.prog 51 args (aj Tryz.prog 37 d):=
 Jd k51 fun x y z d hq h _ _ _=>by
  cases h
  have ha:=zx hq
  have hn:=ha.n1
  rw[tX,Dz,xX]
  refine aI hm Z9 k51 ((t51 ((dQ z).length+1) x y z).trans ?_)
  rw[mB]
  have h0:=XT ha (o:=0) (by omega)
  have h0:FP x y z 0=true:=h0
  rw[h0,cond_true]
  exact yM ha ((dQ z).length+1) 0 (by omega) (by omega)
theorem k91:FnOK Tryz.prog 91 Tryz.f91:=⟨Tryz.func91,rfl,by kernel_rfl⟩
theorem alG (K:Nat) (hK:K+1<=4) (henv:EnvOK Tryz.prog (ak M3 [] (R7 K) [])): ∀ args hp d,fD a91 b91 (q91 (K+1)) args hp=true->TV a91 b91 (g91 (K+1)) args hp=some d->
  HCallOK Tryz.prog 91 args hp (aj Tryz.prog 37 d) (hp.map some):=by
 refine Rz rfl rfl fun ds es d hq hd=>?_
 unfold q91 at hq
 unfold g91 at hd
 split at hd
 ·rename_i x z1 z2 z3 z4 c dd q z5
  cases hd
  have hT:=aih.1 hq
  rw[mB]
  refine gZ hm henv k91 ((t91 K 1 x c dd q).trans ?_)
  have hst:=aiY hT.ne hK
  have hmany:decide ((qP q).length<=2147483647)=true:=by rw[decide_eq_true_eq];have:=hT.asks.p6;omega
  rcases ai5 hT with⟨h1,o,ho,hlt,hlv,hs⟩|⟨a,b,hk,ha,hb,hlv,hs⟩
  ·have e1:((((ae (af x 1)).length:Nat):Int)==0)=true:=by rw[show ae (af x 1)=fP x from rfl,h1];rfl
   have e2:XA c dd q (K+1) x=oQ (lX c dd q (intD (af x 0))) (atL q (afL q (W9 x))):=by
    rw[aio,show(((fP x).length:Int)==0)=true from e1,cond_true]
    rfl
   have e3:intD (af x 0)=(o:Int):=ho
   rw[e1,cond_true,hmany,cond_true,alD hT.asks.p6,cond_true,e2,e3,XT hT.asks hlt,cond_true,QU (E9 hT.asks hlt).may,cond_true]
   rfl
  ·have e1:((((ae (af x 1)).length:Nat):Int)==0)=false:=by rw[show ae (af x 1)=fP x from rfl,hk];rfl
   have q1:(ae (af x 1)).getD 0 .nil=a:=by rw[show ae (af x 1)=fP x from rfl,hk];rfl
   have q2:(ae (af x 1)).getD 1 .nil=b:=by rw[show ae (af x 1)=fP x from rfl,hk];rfl
   have p0:(decide (0<=(0:Int))&&decide ((0:Int)<(((ae (af x 1)).length:Nat):Int)))=true:=by rw[show ae (af x 1)=fP x from rfl,hk];rfl
   have p1:(decide (0<=(1:Int))&&decide ((1:Int)<(((ae (af x 1)).length:Nat):Int)))=true:=by rw[show ae (af x 1)=fP x from rfl,hk];rfl
   have hx:=ake ait hK hT hk ha hb
   have e2:XA c dd q (K+1) x=oQ (jf (XA c dd q K a) (XA c dd q K b)) (atL q (afl q (W9 a) (W9 b))):=by
    rw[aio,show(((fP x).length:Int)==0)=false from e1,cond_false]
    unfold k0 k1
    rw[hk]
    rfl
   rw[e1,cond_false,p0,p1,cond_true,cond_true,q1,q2,aih.2 ha,aih.2 hb,cond_true,cond_true,hx,cond_true,hmany,cond_true,alO hT.asks.p6,cond_true,QU (ahT hx),cond_true,e2]
   rfl
 ·cases hd
theorem akM: ∀ K:Nat,K<=4->EnvOK Tryz.prog (ak M3 [] (R7 K) [])
 |0,_=>Dv (l:=M3) (lr:=[]) Z9 fun args hp d hq hd=>by
  exfalso
  have hq:fD a91 b91 (q91 0) args hp=true:=hq
  unfold fD at hq
  rw[Bool.and_eq_true]at hq
  have h2:=hq.2
  unfold q91 at h2
  split at h2
  ·exact(aih.1 h2).ne rfl
  ·cases h2
 |K+1,h=>Dv (l:=M3) (lr:=[]) Z9 (alG K h (akM K (by omega)))
def M4:Tab:=e51::M3
theorem Sr:EnvOK Tryz.prog (bT M4 []):=aO Z9 c51
theorem alB:EnvOK Tryz.prog (ak M4 [] (R7 4) []):=aO (akM 4 (Nat.le_refl _)) c51
def e43:FuncId×TypeId×(List AV->Bool)×(List AV->Option (AV×List Ent)):=(43,77,yes,fun xs=>if EM [24,27,31] xs then
 (match xs.map (·.d)with
 | [x,y,z]=>some (clo 77 91 [OID,OID+1,OID+2,OID+3],[⟨24,x,0,none⟩,⟨27,y,0,none⟩,⟨31,z,0,none⟩,⟨77,.nil,0,some (clo 77 91 [OID,OID+1,OID+2,OID+3])⟩])
 |_=>none)else none)
theorem k43:FnOK Tryz.prog 43 Tryz.f43:=⟨Tryz.func43,rfl,by kernel_rfl⟩
theorem t43 (x0 x1 x2:D):akR Tryz.prog (ak [] [] [] []) (fun _=>none) 9 Tryz.f43 [dat 24 x0,dat 27 x1,dat 31 x2]=
 some (clo 77 91 [OID,OID+1,OID+2,OID+3],[⟨24,x0,0,none⟩,⟨27,x1,0,none⟩,⟨31,x2,0,none⟩,⟨77,.nil,0,some (clo 77 91 [OID,OID+1,OID+2,OID+3])⟩]):=by kernel_rfl
theorem c43: ∀ args r es,e43.2.2.1 args=true->e43.2.2.2 args=some (r,es)->Yw Tryz.prog 43 args r es:=by
 intro args r es _ h
 have h:(if EM [24,27,31] args then(match args.map (·.d)with
  | [x,y,z]=>some (clo 77 91 [OID,OID+1,OID+2,OID+3],[(⟨24,x,0,none⟩:Ent),⟨27,y,0,none⟩,⟨31,z,0,none⟩,⟨77,.nil,0,some (clo 77 91 [OID,OID+1,OID+2,OID+3])⟩])
  |_=>none)else none)=some (r,es):=h
 split at h
 ·rename_i hs
  split at h
  ·rename_i x y z hd
   simp only[Option.some.injEq,Prod.mk.injEq]at h
   obtain⟨rfl,rfl⟩:=h
   have key:=ajX hm CQ k43.1 k43.2.2 (t43 x y z)
   refine⟨key.fn,fun w okA vs htb hok hargs=>key.call w okA vs htb hok ?_⟩
   unfold EM at hs
   rw[Bool.and_eq_true,beq_iff_eq,beq_iff_eq]at hs
   exact xy (by rw[hs.1];rfl) (by rw[hs.2];rfl) (by rw[hd];rfl) hargs
  ·cases h
 ·cases h
def G7:Vp:=[e43]
theorem amr:EnvOK Tryz.prog (ak M4 [] (R7 4) [] G7):=aj3 alB c43
end
/- roadbook/means.All$1 -/
def aef:ay:=fun _=>none
theorem t49 (N:Nat) (c:D) (d:D) (q:D):jP Tryz.prog (ak M4 [] [] []) aef N Tryz.f49 [bxp 1000000 24,bxp 1000001 27,bxp 1000002 31] [⟨24,c,0,none⟩,⟨27,d,0,none⟩,⟨31,q,0,none⟩]=
 bif (iR c d q)then
  bif iR c d q then
   bif iY (jW c d q)then
    bif (gB q (oQ (jW c d q) (ae (af q 1))))then
     some (dat 37 (gp q (oQ (jW c d q) (ae (af q 1)))),[some ⟨24,c,0,none⟩,some ⟨27,d,0,none⟩,some ⟨31,q,0,none⟩])
    else none
   else none
  else none
 else none:=by kernel_rfl
/- roadbook/means.Rows$1 -/
def alQ:ay:=fun _=>none
theorem t39 (N:Nat) (c:D) (d:D) (q:D) (x:D):jP Tryz.prog (ak M4 [] (R7 4) [] G7) alQ N Tryz.f39 [bxp 1000000 24,bxp 1000001 27,bxp 1000002 31,bxp 1000003 34] [⟨24,c,0,none⟩,⟨27,d,0,none⟩,⟨31,q,0,none⟩,⟨34,x,0,none⟩]=
 bif ((iR c d q)==true)then
  bif (adW q x)then
   bif aiy c d q 4 x then
    some (dat 37 (XA c d q 4 x),[some ⟨24,c,0,none⟩,some ⟨27,d,0,none⟩,some ⟨31,q,0,none⟩,some ⟨34,x,0,none⟩])
   else none
  else none
 else bif false then
   bif aiy c d q 4 x then
    some (dat 37 (XA c d q 4 x),[some ⟨24,c,0,none⟩,some ⟨27,d,0,none⟩,some ⟨31,q,0,none⟩,some ⟨34,x,0,none⟩])
   else none
  else none:=by kernel_rfl
end Go.Proofs.YtpceahbengfjeaaGreatDoor
