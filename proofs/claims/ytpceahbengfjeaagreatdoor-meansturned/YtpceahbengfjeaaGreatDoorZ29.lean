/- Trees of functions, and lemmas. Nothing here is trusted. -/
import Derived.Test.YtpceahbengfjeaaGreatDoorZ28
namespace Go.Proofs.YtpceahbengfjeaaGreatDoor
section
namespace Tn
open Go.Ev
set_option linter.unusedVariables false
/- roadbook/tree.small -/
def amk:ay:=fun _=>none
theorem t70 (N:Nat) (x0:D):aU Tryz.prog (bT S4 []) amk N Tryz.f70 [dat 34 x0]=
 bif aif 130 x0 1 67108864 then
  some (dat 4 (.lit (.bool ((alK 130 x0 x0 1 67108864).1))))
 else none:=by kernel_rfl
/- roadbook/tree.copied -/
def akh:ay:=fun i=>if i=5 then some ([0,4,5,6,7,8,9,10,11,12,13,14,15,16,17,21,22,23,24,25,26,27,28,29,30,31,32,33,34],[1,2,16],[])else none
def ai0 (P:Program) (fn:Func) (K:Nat) (N n:Nat) (x0:D) (v20:Int) (b16:List D):Option AV:=aN (preL akh (sub [1,1,1,0,1,0,0] (ag fn))) (az P (bT (S5 K) []) akh N (sub [1,1,1,0,1,0,0] (ag fn))) n ⟨[dead,bxp 1 34,bxp 2 34,bxp 16 32,dead,dead,dead,dead,dead,dead,dead,dead,dead,dead,dead,dead,dead,dead,dat 32 (af x0 1),dat 3 (.lit (.int .i64 ((ae (af x0 1)).length:Int))),dat 3 (.lit (.int .i64 v20)),dead,dead,dead,dead,dead,dead,dead,dead,dead,dead,dead,dead,dead,dead],aZ [(1,some ⟨34,x0,0,none⟩),(2,some ⟨34,.agg [.lit (.int .i64 0),.slice [] []],0,none⟩),(16,some ⟨32,.slice b16 [],2,none⟩)]⟩ (aG 0 (cZ P (bT (S5 K) []) akh N (sub [1,1,1,1] (ag fn)) (dJ P fn)))
theorem ajG (K:Nat) (N n:Nat) (x0:D) (v20:Int) (b16:List D):ai0 Tryz.prog Tryz.f72 K N (n+1) x0 v20 b16=
 bif decide (v20<((ae (af x0 1)).length:Int))then
  bif (decide (0<=v20)&&decide (v20<((ae (af x0 1)).length:Int)))then
   bif smK K ((ae (af x0 1)).getD (v20).toNat .nil)then
    bif (decide (0<=v20)&&decide (v20<(b16.length:Int)))then
     ai0 Tryz.prog Tryz.f72 K N n x0 (IntKind.wrap .i64 (v20+1)) (b16.set (v20).toNat ((ae (af x0 1)).getD (v20).toNat .nil))
    else none
   else none
  else none
 else some (dat 34 (.agg [.lit (.int .i64 (intD (af x0 0))),.slice b16 []])):=by kernel_rfl
theorem t72 (K:Nat) (N:Nat) (x0:D):aU Tryz.prog (bT (S5 K) []) akh N Tryz.f72 [dat 34 x0]=
 bif (((ae (af x0 1)).length:Int)==0)then
  some (dat 34 (ajr (intD (af x0 0))))
 else bif (decide (0<=((ae (af x0 1)).length:Int))&&decide (((ae (af x0 1)).length:Int)<=2147483648))then
   ai0 Tryz.prog Tryz.f72 K N N x0 0 (List.replicate (((ae (af x0 1)).length:Int)).toNat (.agg [.lit (.int .i64 0),.slice [] []]:D))
  else none:=by kernel_rfl
end Tn
end
section
namespace Tn
open Go.Ev
set_option linter.unusedVariables false
set_option linter.unusedSimpArgs false
set_option maxRecDepth 10000
theorem k70:FnOK Tryz.prog 70 Tryz.f70:=⟨Tryz.func70,rfl,by kernel_rfl⟩
theorem k72:FnOK Tryz.prog 72 Tryz.f72:=⟨Tryz.func72,rfl,by kernel_rfl⟩
def e70:FuncId×TypeId×(List AV->Bool)×(List AV->Option D):=(70,4,jU (q1 fun x=>smT x),ent [34] (f1 fun x=>some (.lit (.bool true))))
theorem c70: ∀ args d,e70.2.2.1 args=true->e70.2.2.2 args=some d->CallOK Tryz.prog 70 args (aj Tryz.prog 4 d):=
 Oa k70 fun x d hq h ⟨_,hx⟩=>by
  cases h
  rw[n24]
  have hq:smT x=true:=hq
  obtain⟨_,_,h3,h4⟩:=ajm (b:=x) hq
  refine aI hm akl k70 ((t70 0 x).trans ?_)
  have hr:eqT x x=true:=by
   unfold smT smK at hq
   rw[Bool.and_eq_true]at hq
   exact ajR 130 x hq.1
  rw[h4,cond_true,h3,hr,m4]
  rfl
theorem akI {ks tl:List D} {i:Nat} (h:i<ks.length) (ht:tl.length=ks.length - i):(ks.take i++tl).set i ks[i]=ks.take (i+1)++tl.drop 1:=by
 cases tl with
 |nil=>simp at ht;omega
 |cons b tl=>
  rw[List.set_append_right _ _ (by simp;omega)]
  have:i - (ks.take i).length=0:=by simp;omega
  rw[this,List.set_cons_zero,List.take_succ_eq_append_getElem h,List.append_assoc]
  rfl
theorem akm {K N:Nat} {x0:D} (hl:(fP x0).length<=maxLen) (hok: ∀ p∈fP x0,smK K p=true): ∀ (n i:Nat) (tl:List D),i<=(fP x0).length->(fP x0).length - i<n->tl.length=(fP x0).length - i->
  ai0 Tryz.prog Tryz.f72 K N n x0 (i:Int) ((fP x0).take i++tl)=some (dat 34 (.agg [.lit (.int .i64 (VX x0)),.slice (fP x0) []]))
 |0,i,tl,_,h,_=>by omega
 |n+1,i,tl,hi,h,htl=>by
  rw[ajG,show ae (af x0 1)=fP x0 from rfl,show intD (af x0 0)=VX x0 from rfl]
  by_cases hlt:i<(fP x0).length
  ·have h1:decide ((i:Int)<((fP x0).length:Int))=true:=by simpa using hlt
   have hlen:((fP x0).take i++tl).length=(fP x0).length:=by simp;omega
   rw[hlen,oh hlt,h1,cond_true,cond_true,Int.toNat_natCast,getD_lt hlt,hok _ (List.getElem_mem hlt),cond_true,cond_true,jD hl hlt,akI hlt htl]
   exact akm hl hok n (i+1) (tl.drop 1) (by omega) (by omega) (by simp;omega)
  ·have h1:decide ((i:Int)<((fP x0).length:Int))=false:=by simpa using hlt
   have hi2:i=(fP x0).length:=by omega
   have htl0:tl=[]:=List.length_eq_zero_iff.1 (by omega)
   subst htl0
   rw[h1,cond_false,hi2,List.take_length,List.append_nil]
theorem ak1 {n:Nat} {x:D} (h:Ty Tryz.prog n 34 x):x=.agg [.lit (.int .i64 (VX x)),.slice (fP x) []]:=by
 obtain⟨z,ks,rfl,_⟩:=acO h
 rfl
theorem c72 (K:Nat) (henv:EnvOK Tryz.prog (bT (S5 K) [])): ∀ args d,(e72 (K+1)).2.2.1 args=true->(e72 (K+1)).2.2.2 args=some d->CallOK Tryz.prog 72 args (aj Tryz.prog 34 d):=
 Oa k72 fun x d hq h ⟨_,hx⟩=>by
  cases h
  rw[n24]
  have hq:smK (K+1) x=true:=hq
  obtain⟨hl,_⟩:=ab8 hx
  refine aI hm henv k72 ((t72 K ((fP x).length+1) x).trans ?_)
  rw[m24,show ae (af x 1)=fP x from rfl,show intD (af x 0)=VX x from rfl]
  have hself:=ak1 hx
  cases h0:(((fP x).length:Int)==0)with
  |true=>
   have:fP x=[]:=by
    have:=eq_of_beq h0
    exact List.length_eq_zero_iff.1 (by omega)
   rw[cond_true]
   conv=>rhs;rw[hself,this]
   rfl
  |false=>
   have hb:(decide (0<=((fP x).length:Int))&&decide (((fP x).length:Int)<=2147483648))=true:=by
    have:=akz K x
    unfold smK at hq
    rw[Bool.and_eq_true,decide_eq_true_eq]at hq
    rw[Bool.and_eq_true,decide_eq_true_eq,decide_eq_true_eq]
    omega
   rw[cond_false,hb,cond_true,Int.toNat_natCast]
   have:=akm (K:=K) (N:=(fP x).length+1) hl (fun p hp=>akY hq hp) ((fP x).length+1) 0 (List.replicate (fP x).length (.agg [.lit (.int .i64 0),.slice [] []]:D)) (Nat.zero_le _) (by omega) (by simp)
   rw[List.take_zero,List.nil_append]at this
   refine this.trans ?_
   rw[<-hself]
theorem alh: ∀ K:Nat,EnvOK Tryz.prog (bT (S5 K) [])
 | 0=>aO akl (fun args d hp hd=>by
   exfalso
   have hp:q1 (fun x=>smK 0 x) (args.map (·.d))=true:=hp
   unfold q1 at hp
   split at hp
   ·simp[smK,okT]at hp
   ·cases hp)
 |K+1=>aO akl (c72 K (alh K))
def S7:Tab:=e72 130::e70::S4
theorem al5:EnvOK Tryz.prog (bT S7 []):=aO (aO akl c70) (c72 129 (alh 129))
end Tn
end
section
namespace Tn
open Go.Ev
set_option linter.unusedVariables false
/- roadbook/tree.Join -/
def amm:ay:=fun _=>none
theorem t26 (N:Nat) (x0:D) (x1:D):aU Tryz.prog (bT S7 []) amm N Tryz.f26 [dat 34 x0,dat 34 x1]=
 bif smT x0 then
  bif smT x1 then
   bif smK 130 x0 then
    bif smK 130 x1 then
     some (dat 34 (.agg [.lit (.int .i64 0),.slice [x0,x1] []]))
    else none
   else none
  else none
 else none:=by kernel_rfl
end Tn
end
section
namespace Tn
open Go.Ev
set_option linter.unusedVariables false
set_option linter.unusedSimpArgs false
set_option maxRecDepth 10000
theorem k26:FnOK Tryz.prog 26 Tryz.f26:=⟨Tryz.func26,rfl,by kernel_rfl⟩
def e26:FuncId×TypeId×(List AV->Bool)×(List AV->Option D):=(26,34,jU (q2 fun x y=>smT x&&smT y),ent [34,34] (f2 fun x y=>some (ahF [x,y])))
theorem c26: ∀ args d,e26.2.2.1 args=true->e26.2.2.2 args=some d->CallOK Tryz.prog 26 args (aj Tryz.prog 34 d):=
 qG k26 fun x y d hq h ⟨_,hx⟩ ⟨_,hy⟩=>by
  cases h
  rw[n24,n24]
  have hq:(smT x&&smT y)=true:=hq
  rw[Bool.and_eq_true]at hq
  have h1:smK 130 x=true:=hq.1
  have h2:smK 130 y=true:=hq.2
  refine aI hm al5 k26 ((t26 0 x y).trans ?_)
  rw[hq.1,hq.2,h1,h2,m24]
  rfl
def e12 (K:Nat):FuncId×TypeId×(List AV->Bool)×(List AV->Option D):=(12,3,jU (q2 fun x y=>decide (0<=intD y)&&decide (intD y<(K:Int))&&decide (K<=101)),ent [34,3] (f2 fun x y=>some (.lit (.int .i64 (szK K x (intD y))))))
def S9 (K:Nat):Tab:=e12 K::[]
end Tn
end
section
namespace Tn
open Go.Ev
set_option linter.unusedVariables false
/- roadbook/roadbookref06.Size -/
def SE:ay:=fun i=>if i=3 then some ([0,3,4,7,8,9,10,11,12,13,14,15,16,17,18,19,20,21,22,23,24,25,26,27,28,29,30],[2],[])else none
def EU (P:Program) (fn:Func) (K:Nat) (N n:Nat) (x0:D) (x1:Int) (v5:Int) (v6:Int):Option AV:=aN (preL SE (sub [1,1,0,1,0,0] (ag fn))) (az P (bT (S9 K) []) SE N (sub [1,1,0,1,0,0] (ag fn))) n ⟨[dead,dat 3 (.lit (.int .i64 x1)),bxp 2 34,dead,dead,dat 3 (.lit (.int .i64 v5)),dat 3 (.lit (.int .i64 v6)),dead,dead,dead,dead,dead,dead,dead,dead,dead,dead,dead,dead,dead,dead,dead,dead,dead,dead,dead,dead,dead,dead,dead,dead],aZ [(2,some ⟨34,x0,0,none⟩)]⟩ (aG 0 (cZ P (bT (S9 K) []) SE N (sub [1,1,1] (ag fn)) (dJ P fn)))
theorem LV (K:Nat) (N n:Nat) (x0:D) (x1:Int) (v5:Int) (v6:Int):EU Tryz.prog Tryz.f12 K N (n+1) x0 x1 v5 v6=
 bif ((decide (v6<((ae (af x0 1)).length:Int)))==true)then
  bif decide (v5<=x1)then
   bif (decide (0<=v6)&&decide (v6<((ae (af x0 1)).length:Int)))then
    bif (decide (0<=(IntKind.wrap .i64 (x1 - v5)))&&decide ((IntKind.wrap .i64 (x1 - v5))<(K:Int))&&decide (K<=101))then
     EU Tryz.prog Tryz.f12 K N n x0 x1 (IntKind.wrap .i64 (v5+(szK K ((ae (af x0 1)).getD (v6).toNat .nil) (IntKind.wrap .i64 (x1 - v5))))) (IntKind.wrap .i64 (v6+1))
    else none
   else none
  else some (dat 3 (.lit (.int .i64 v5)))
 else some (dat 3 (.lit (.int .i64 v5))):=by kernel_rfl
theorem t12 (K:Nat) (N:Nat) (x0:D) (x1:Int):aU Tryz.prog (bT (S9 K) []) SE N Tryz.f12 [dat 34 x0,dat 3 (.lit (.int .i64 x1))]=
 EU Tryz.prog Tryz.f12 K N N x0 x1 1 0:=by kernel_rfl
end Tn
end
section
namespace Tn
open Go.Ev
set_option linter.unusedVariables false
set_option linter.unusedSimpArgs false
set_option maxRecDepth 10000
theorem k12:FnOK Tryz.prog 12 Tryz.f12:=⟨Tryz.func12,rfl,by kernel_rfl⟩
theorem sD {K N:Nat} {x0:D} {most:Int} (hK:most<(K:Int)+1) (hK2:K<=101) (hm0:0<=most) (hl:(fP x0).length<=maxLen): ∀ (n i:Nat) (c:Int),i<=(fP x0).length->(fP x0).length - i<n->1<=c->c<=most+1->
  EU Tryz.prog Tryz.f12 K N n x0 most c (i:Int)=some (dat 3 (.lit (.int .i64 (goS (szK K) most ((fP x0).drop i) c))))
 |0,i,c,_,h,_,_=>by omega
 |n+1,i,c,hi,h,hc1,hc2=>by
  rw[LV,show ae (af x0 1)=fP x0 from rfl]
  by_cases hlt:i<(fP x0).length
  ·have h1:decide ((i:Int)<((fP x0).length:Int))=true:=by simpa using hlt
   rw[List.drop_eq_getElem_cons hlt,NZ,oh hlt,h1]
   by_cases h2:c<=most
   ·have d2:decide (c<=most)=true:=by simpa using h2
    have hw:IntKind.wrap .i64 (most - c)=most - c:=wrap_in (by rw[bH];omega)
    have hp:(decide (0<=most - c)&&decide (most - c<(K:Int))&&decide (K<=101))=true:=by
     simp only[Bool.and_eq_true,decide_eq_true_eq]
     omega
    obtain⟨s1,s2⟩:=Kr K (fP x0)[i] (most - c) (by omega)
    have hw2:IntKind.wrap .i64 (c+szK K (fP x0)[i] (most - c))=c+szK K (fP x0)[i] (most - c):=wrap_in (by rw[bH];omega)
    rw[d2,hw,hp,Int.toNat_natCast,getD_lt hlt,hw2,jD hl hlt]
    exact sD hK hK2 hm0 hl n (i+1) _ (by omega) (by omega) (by omega) (by omega)
   ·have d2:decide (c<=most)=false:=by simpa using h2
    rw[d2]
    rfl
  ·have h1:decide ((i:Int)<((fP x0).length:Int))=false:=by simpa using hlt
   have h2:(fP x0).drop i=[]:=List.drop_of_length_le (by omega)
   rw[h1,h2]
   rfl
theorem c12 (K:Nat) (henv:EnvOK Tryz.prog (bT (S9 K) [])): ∀ args d,(e12 (K+1)).2.2.1 args=true->(e12 (K+1)).2.2.2 args=some d->CallOK Tryz.prog 12 args (aj Tryz.prog 3 d):=
 qG k12 fun x y d hq h ⟨_,hx⟩ ⟨_,hy⟩=>by
  cases h
  obtain⟨z,rfl,hz⟩:=iC hy
  rw[n24,n3]
  have hq:(decide (0<=z)&&decide (z<((K+1:Nat):Int))&&decide (K+1<=101))=true:=hq
  simp only[Bool.and_eq_true,decide_eq_true_eq]at hq
  obtain⟨hl,_⟩:=ab8 hx
  refine aI hm henv k12 ((t12 K ((fP x).length+1) x z).trans ?_)
  rw[m3]
  exact sD (K:=K) (by omega) (by omega) hq.1.1 hl ((fP x).length+1) 0 1 (Nat.zero_le _) (by omega) (by omega) (by omega)
theorem envS9: ∀ K:Nat,EnvOK Tryz.prog (bT (S9 K) [])
 | 0=>aO Bd (fun args d hp hd=>by
   exfalso
   have hp:q2 (fun x y=>decide (0<=intD y)&&decide (intD y<((0:Nat):Int))&&decide (0<=101)) (args.map (·.d))=true:=hp
   unfold q2 at hp
   split at hp
   ·simp only[Bool.and_eq_true,decide_eq_true_eq]at hp
    omega
   ·cases hp)
 |K+1=>aO Bd (c12 K (envS9 K))
end Tn
end
end Go.Proofs.YtpceahbengfjeaaGreatDoor
