/- Trees of functions, and lemmas. Nothing here is trusted. -/
import Derived.Test.YtpceahbengfjeaaGreatDoorZ27
import Derived.Test.YtpceahbengfjeaaGreatDoorRows
import Derived.Test.YtpceahbengfjeaaGreatDoorZ22
namespace Go.Proofs.YtpceahbengfjeaaGreatDoor
section
namespace Dn
open Go.Ev
set_option linter.unusedVariables false
set_option maxRecDepth 10000
set_option linter.unusedSimpArgs false
theorem ZB (x:D):bD Tryz.prog 111 x=x:=by kernel_rfl
theorem tX (x:D):bD Tryz.prog 24 x=x:=by kernel_rfl
theorem Dz (x:D):bD Tryz.prog 27 x=x:=by kernel_rfl
theorem aea (x:D):bD Tryz.prog 29 x=x:=by kernel_rfl
theorem acf (x:D):aj Tryz.prog 111 x=dat 111 x:=by kernel_rfl
theorem acI (x:D):aj Tryz.prog 69 x=aL [24,27] x:=by kernel_rfl
theorem aaV (x:D):aj Tryz.prog 175 x=aL [3,3,4] x:=by kernel_rfl
theorem WY:Tryz.prog.underlying 22=some (.slice 111):=by kernel_rfl
theorem aej:Tryz.prog.underlying 25=some (.slice 35):=by kernel_rfl
theorem aaA: ∃ f g:Field,Tryz.prog.underlying 111=some (.struct #[f,g])/\f.type=3/\g.type=3:=⟨_,_,Tryz.underlying111,rfl,rfl⟩
theorem acx: ∃ f:Field,Tryz.prog.underlying 24=some (.struct #[f])/\f.type=22:=⟨_,Tryz.underlying24,rfl⟩
theorem aeW: ∃ f:Field,Tryz.prog.underlying 27=some (.struct #[f])/\f.type=25:=⟨_,Tryz.underlying27,rfl⟩
theorem aei:Tryz.prog.underlying 29=some (.slice 61):=by kernel_rfl
theorem X7 {n:Nat} {x:D} (h:Ty Tryz.prog n 111 x): ∃ c r,x=Oc c r/\inR c=true/\inR r=true:=by
 obtain⟨f,g,hu,hf,hg⟩:=aaA
 obtain⟨m,a,b,rfl,h1,h2⟩:=yC h hu
 rw[hf]at h1
 rw[hg]at h2
 obtain⟨c,rfl,hc⟩:=iC h1
 obtain⟨r,rfl,hr⟩:=iC h2
 exact⟨c,r,rfl,hc,hr⟩
theorem abT {n:Nat} {x:D} (h:Ty Tryz.prog n 22 x): ∃ ts,x=.slice ts []/\ts.length<=maxLen/\ ∀ t∈ts,∃ c r,t=Oc c r/\inR c=true/\inR r=true:=by
 obtain⟨m,ts,rfl,hl,hp⟩:=pW h WY
 exact⟨ts,rfl,hl,fun t ht=>X7 (hp t ht)⟩
theorem Og {n:Nat} {x:D} (h:Ty Tryz.prog n 24 x): ∃ ts,x=lV ts/\ts.length<=maxLen/\ ∀ t∈ts,∃ c r,t=Oc c r/\inR c=true/\inR r=true:=by
 obtain⟨f,hu,hf⟩:=acx
 obtain⟨m,a,rfl,h1⟩:=xH h hu
 rw[hf]at h1
 obtain⟨ts,rfl,hl,hp⟩:=abT h1
 exact⟨ts,rfl,hl,hp⟩
def OKt (t:D):Prop:= ∃ rs,t=.slice rs []/\rs.length<=maxLen/\ ∀ r∈rs,OKr r
theorem Xo {n:Nat} {x:D} (h:Ty Tryz.prog n 27 x): ∃ ts,x=lV ts/\ts.length<=maxLen/\ ∀ t∈ts,OKt t:=by
 obtain⟨f,hu,hf⟩:=aeW
 obtain⟨m,a,rfl,h1⟩:=xH h hu
 rw[hf]at h1
 obtain⟨m,ts,rfl,hl,hp⟩:=pW h1 aej
 exact⟨ts,rfl,hl,fun t ht=>tyR (hp t ht)⟩
def Xw:FuncId×TypeId×(List AV->Bool)×(List AV->Option D):=(124,4,yes,ent [3,3] (f2 fun x y=>some (.lit (.bool (bz (intD x) (intD y))))))
theorem Xg:FnOK Tryz.prog 124 Tryz.f124:=⟨Tryz.func124,rfl,by kernel_rfl⟩
theorem c124: ∀ args d,Xw.2.2.2 args=some d->CallOK Tryz.prog 124 args (aj Tryz.prog 4 d):=
 gD Xg fun x y d h _ _=>by
  cases h
  rw[n3,n3]
  refine aI hm qX Xg ((t124 1 (intD x) (intD y)).trans ?_)
  rw[m4,QS]
  show _=some (dat 4 (.lit (.bool (bz (intD x) (intD y)))))
  unfold bz
  cases decide (0<=intD x)<;>rfl
def e127:FuncId×TypeId×(List AV->Bool)×(List AV->Option D):=(127,111,yes,ent [111] (f1 fun x=>some (lU x)))
theorem WQ:FnOK Tryz.prog 127 Tryz.f127:=⟨Tryz.func127,rfl,by kernel_rfl⟩
theorem c127: ∀ args d,e127.2.2.2 args=some d->CallOK Tryz.prog 127 args (aj Tryz.prog 111 d):=
 mY WQ fun x d h _=>by
  cases h
  rw[ZB]
  refine aI hm qX WQ ((t127 1 x).trans ?_)
  rw[acf,D6]
  unfold lU
  cases dR x<;>rfl
def e34:FuncId×TypeId×(List AV->Bool)×(List AV->Option D):=(34,69,yes,ent [] (f0 (some (.agg [kZ,jd]))))
theorem k34:FnOK Tryz.prog 34 Tryz.f34:=⟨Tryz.func34,rfl,by kernel_rfl⟩
theorem c34: ∀ args d,e34.2.2.2 args=some d->CallOK Tryz.prog 34 args (aj Tryz.prog 69 d):=
 YP fun d h=>by
  cases h
  refine aI hm qX k34 ((t34 1).trans ?_)
  rw[acI]
  rfl
theorem Hw {z:Int} (h:0<=z/\z<16):IntKind.wrap .i64 (Int.tdiv z 4)=z / 4:=by
 rw[Int.tdiv_eq_ediv_of_nonneg h.1,aH (l_in (by omega) (by omega))]
theorem akV {N m0 i:Nat} {ts:List D} {v3:Bool} {t:D} (ht:ts.getD i .nil=t) (hi:i<ts.length) (hl:(ae t).length<=maxLen): ∀ (n j:Nat) (b:Bool),j<=(ae t).length->(ae t).length - j<n->
  aiX Tryz.prog Tryz.f87 N n (lV ts) v3 (i:Int) m0 b (j:Int)=aiw Tryz.prog Tryz.f87 N m0 (lV ts) (b&&((ae t).drop j).all aci) (IntKind.wrap .i64 ((i:Int)+1))
 |0,j,b,_,h=>by omega
 |n+1,j,b,hj,h=>by
  rw[ajH,iw,bG hi,cond_true,Int.toNat_natCast,ht]
  by_cases hlt:j<(ae t).length
  ·have w1:IntKind.wrap .i64 ((j:Int)+1)=((j+1:Nat):Int):=fE hl hlt
   rw[bG hlt,eY hlt,Int.toNat_natCast,dA hlt,w1,List.drop_eq_getElem_cons hlt,List.all_cons]
   cases b with
   |false=>rfl
   |true=>
    rw[beq_self_eq_true,cond_true,cond_true,cond_true,akV ht hi hl n (j+1) _ (by omega) (by omega),Bool.true_and]
    rfl
  ·rw[fB hlt,List.drop_of_length_le (by omega),List.all_nil,Bool.and_true]
   rfl
theorem aki {N:Nat} {ts:List D} (hN: ∀ t∈ts,(ae t).length<N) (hT: ∀ t∈ts,(ae t).length<=maxLen) (hl:ts.length<=maxLen): ∀ (n i:Nat) (b:Bool),i<=ts.length->ts.length - i<n->
  aiw Tryz.prog Tryz.f87 N n (lV ts) b (i:Int)=some (dat 4 (.lit (.bool (b&&(ts.drop i).all YM))))
 |0,i,b,_,h=>by omega
 |n+1,i,b,hi,h=>by
  rw[ajE,iw]
  by_cases hlt:i<ts.length
  ·have hm:ts[i]∈ts:=List.getElem_mem hlt
   have w1:IntKind.wrap .i64 ((i:Int)+1)=((i+1:Nat):Int):=fE hl hlt
   rw[bG hlt,eY hlt,Int.toNat_natCast,dA hlt,List.drop_eq_getElem_cons hlt,List.all_cons]
   cases b with
   |false=>rfl
   |true=>
    rw[beq_self_eq_true,cond_true,cond_true,cond_true]
    refine(akV (t:=ts[i]) (dA hlt) hlt (hT _ hm) N 0 _ (Nat.zero_le _) (by have:=hN _ hm;omega)).trans ?_
    rw[w1,aki hN hT hl n (i+1) _ (by omega) (by omega),Bool.true_and,List.drop_zero]
    rfl
  ·rw[fB hlt,List.drop_of_length_le (by omega),List.all_nil,Bool.and_true]
   rfl
def e87:FuncId×TypeId×(List AV->Bool)×(List AV->Option D):=(87,4,yes,ent [27] (f1 fun x=>some (.lit (.bool (Zl x)))))
theorem k87:FnOK Tryz.prog 87 Tryz.f87:=⟨Tryz.func87,rfl,by kernel_rfl⟩
theorem c87: ∀ args d,e87.2.2.2 args=some d->CallOK Tryz.prog 87 args (aj Tryz.prog 4 d):=
 mY k87 fun x d h ⟨_,hx⟩=>by
  cases h
  rw[Dz]
  obtain⟨ts,rfl,hl,hp⟩:=Xo hx
  refine aI hm qX k87 ((t87 (Hq ts) (lV ts)).trans ?_)
  rw[m4]
  exact aki (fun t ht=>Wv ht) (fun t ht=>by obtain⟨rs,rfl,h1,_⟩:=hp t ht;exact h1) hl (Hq ts) 0 _ (Nat.zero_le _) (by unfold Hq;omega)
theorem Lj (ts:List D):ts.any (fun t=>!dR t)=!ts.all dR:=by
 rw[List.all_eq_not_any_not,Bool.not_not]
def e81:FuncId×TypeId×(List AV->Bool)×(List AV->Option D):=(81,4,jU (q3 fun x _ _=>BV (ae x)),ent [29,28,67] (f3 fun _ _ _=>some (.lit (.bool true))))
theorem k81:FnOK Tryz.prog 81 Tryz.f81:=⟨Tryz.func81,rfl,by kernel_rfl⟩
theorem c81: ∀ args d,e81.2.2.1 args=true->e81.2.2.2 args=some d->CallOK Tryz.prog 81 args (aj Tryz.prog 4 d):=
 Jd k81 fun x y z d hq h ⟨_,hx⟩ _ _=>by
  cases h
  rw[aea,nI,n28]
  obtain⟨m,es,rfl,_,_⟩:=pW hx aei
  have hes:es=[]:=JZ hq
  subst hes
  refine aI hm qX k81 ((t81 y z).trans ?_)
  rw[m4]
  rfl
def D1:Tab:=Xw::e127::e34::e87::e81::B2
theorem MS:EnvOK Tryz.prog (bT D1 []):=ah (ah (ah (ah (aO qX c81) c87) c34) c127) c124
end Dn
end
section
namespace Dn
open Go.Ev
set_option linter.unusedVariables false
/- roadbook/data.Col -/
def VL:ay:=fun _=>none
theorem t78 (N:Nat) (x0:Int) (x1:Int):aU Tryz.prog (ak D1 [] [] []) VL N Tryz.f78 [dat 3 (.lit (.int .i64 x0)),dat 3 (.lit (.int .i64 x1))]=
 bif ((!(bz x0 4))==false)then
  bif (!(bz x1 4))then
   some (dat 3 (.lit (.int .i64 (-1))))
  else some (dat 3 (.lit (.int .i64 (IntKind.wrap .i64 ((IntKind.wrap .i64 (x0*4))+x1)))))
 else some (dat 3 (.lit (.int .i64 (-1)))):=by kernel_rfl
/- roadbook/data.Split -/
def Qi:ay:=fun _=>none
theorem abV (N:Nat) (x0:Int):aU Tryz.prog (ak D1 [] [] []) Qi N Tryz.f184 [dat 3 (.lit (.int .i64 x0))]=
 bif (!(bz x0 16))then
  some (aL [3,3,4] (.agg [.lit (.int .i64 0),.lit (.int .i64 0),.lit (.bool false)]))
 else some (aL [3,3,4] (.agg [.lit (.int .i64 (IntKind.wrap .i64 (Int.tdiv x0 4))),.lit (.int .i64 (Int.tmod x0 4)),.lit (.bool true)])):=by kernel_rfl
/- roadbook/data.May -/
def zF:ay:=fun i=>if i=4 then some ([0,1,2,3,4,5,6,7,8,9,10,11,12,13,14,15,19,20,21,22,23,24,25,26],[],[])else none
def lF (P:Program) (fn:Func) (N n:Nat) (x0:D) (v18:Int):Option AV:=aN (preL zF (sub [1,1,0,1,0,0] (ag fn))) (az P (ak D1 [] [] []) zF N (sub [1,1,0,1,0,0] (ag fn))) n ⟨[dead,dead,dead,dead,dead,dead,dead,dead,dead,dead,dead,dead,dead,dead,dead,dead,dat 22 (af x0 0),dat 3 (.lit (.int .i64 ((ae (af x0 0)).length:Int))),dat 3 (.lit (.int .i64 v18)),dead,dead,dead,dead,dead,dead,dead,dead],aZ []⟩ (aG 0 (cZ P (ak D1 [] [] []) zF N (sub [1,1,1] (ag fn)) (dJ P fn)))
theorem lH (N n:Nat) (x0:D) (v18:Int):lF Tryz.prog Tryz.f82 N (n+1) x0 v18=
 bif decide (v18<((ae (af x0 0)).length:Int))then
  bif (decide (0<=v18)&&decide (v18<((ae (af x0 0)).length:Int)))then
   bif (((intD (af (lU ((ae (af x0 0)).getD (v18).toNat .nil)) 0))==0)&&(((intD (af (lU ((ae (af x0 0)).getD (v18).toNat .nil)) 1))==0)&&true))then
    some (dat 4 (.lit (.bool false)))
   else lF Tryz.prog Tryz.f82 N n x0 (IntKind.wrap .i64 (v18+1))
  else none
 else some (dat 4 (.lit (.bool true))):=by kernel_rfl
theorem t82 (N:Nat) (x0:D):aU Tryz.prog (ak D1 [] [] []) zF N Tryz.f82 [dat 24 x0]=
 bif ((decide (((ae (af x0 0)).length:Int)<1))==false)then
  bif decide (((ae (af x0 0)).length:Int)>4)then
   some (dat 4 (.lit (.bool false)))
  else lF Tryz.prog Tryz.f82 N N x0 0
 else some (dat 4 (.lit (.bool false))):=by kernel_rfl
/- roadbook/bag.Keep -/
def yU:ay:=fun i=>if i=3 then some ([0,3,6,7,8,12,13,14,15,16,17,18,19,20,21,22,23,24,25,26,27,28,29,30],[2,4,5,24,900000],[])else none
def nG (P:Program) (fn:Func) (N n:Nat) (x0:D) (v11:Int) (b5:List D):Option AV:=aN (preL yU (sub [1,1,0,1,0,0] (ag fn))) (az P (ak D1 [] [] []) yU N (sub [1,1,0,1,0,0] (ag fn))) n ⟨[dead,dat 29 (.slice [] []),bxp 2 37,dead,bxp 4 37,bxp 5 35,dead,dead,dead,dat 35 (af x0 1),dat 3 (.lit (.int .i64 ((ae (af x0 1)).length:Int))),dat 3 (.lit (.int .i64 v11)),dead,dead,dead,dead,dead,dead,dead,dead,dead,dead,dead,dead,dead,dead,dead,dead,dead,dead,dead],aZ [(2,some ⟨37,x0,0,none⟩),(4,some ⟨37,.agg [.slice [] [],.slice [] []],0,none⟩),(5,some ⟨35,.slice b5 [],1,none⟩),(24,none),(900000,none)]⟩ (aG 0 (cZ P (ak D1 [] [] []) yU N (sub [1,1,1] (ag fn)) (dJ P fn)))
theorem uw (N n:Nat) (x0:D) (v11:Int) (b5:List D):nG Tryz.prog Tryz.f31 N (n+1) x0 v11 b5=
 bif decide (v11<((ae (af x0 1)).length:Int))then
  bif (decide (0<=v11)&&decide (v11<((ae (af x0 1)).length:Int)))then
   bif BV []then
    bif decide ((ae ((ae (af x0 1)).getD (v11).toNat .nil)).length<=2147483648)then
     bif decide ((b5).length+1<=2147483648)then
      nG Tryz.prog Tryz.f31 N n x0 (IntKind.wrap .i64 (v11+1)) (b5++[(ae (af x0 1)).getD (v11).toNat .nil])
     else none
    else none
   else none
  else none
 else bif decide ((ae (af x0 0)).length<=2147483648)then
   some (dat 37 (.agg [af x0 0,.slice b5 []]))
  else none:=by kernel_rfl
theorem t31 (N:Nat) (x0:D):aU Tryz.prog (ak D1 [] [] []) yU N Tryz.f31 [dat 37 x0,dat 29 (.slice [] [])]=
 nG Tryz.prog Tryz.f31 N N x0 0 []:=by kernel_rfl
end Dn
end
section
namespace Dn
open Go.Ev
set_option linter.unusedVariables false
set_option maxRecDepth 10000
set_option linter.unusedSimpArgs false
def e78:FuncId×TypeId×(List AV->Bool)×(List AV->Option D):=(78,3,yes,ent [3,3] (f2 fun x y=>some (.lit (.int .i64 (Cj (intD x) (intD y))))))
theorem k78:FnOK Tryz.prog 78 Tryz.f78:=⟨Tryz.func78,rfl,by kernel_rfl⟩
theorem c78: ∀ args d,e78.2.2.2 args=some d->CallOK Tryz.prog 78 args (aj Tryz.prog 3 d):=
 gD k78 fun x y d h _ _=>by
  cases h
  rw[n3,n3]
  refine aI hm MS k78 ((t78 1 (intD x) (intD y)).trans ?_)
  rw[m3]
  show _=some (dat 3 (.lit (.int .i64 (Cj (intD x) (intD y)))))
  generalize intD x=a
  generalize intD y=b
  cases h1:bz a 4 with
  |false=>rw[yP (by have:=mJ.1 h1;omega)];rfl
  |true=>
   cases h2:bz b 4 with
   |false=>rw[yP (by have:=mJ.1 h2;omega)];rfl
   |true=>
    have a1:=dw.1 h1
    have a2:=dw.1 h2
    rw[EP a1 a2,aH (z:=a*4) (l_in (by omega) (by omega)),aH (l_in (by omega) (by omega))];rfl
def VM:FuncId×TypeId×(List AV->Bool)×(List AV->Option D):=(184,175,yes,ent [3] (f1 fun x=>some (.agg [.lit (.int .i64 (dB (intD x))),.lit (.int .i64 (splitB (intD x))),.lit (.bool (bz (intD x) 16))])))
theorem WS:FnOK Tryz.prog 184 Tryz.f184:=⟨Tryz.func184,rfl,by kernel_rfl⟩
theorem abt: ∀ args d,VM.2.2.2 args=some d->CallOK Tryz.prog 184 args (aj Tryz.prog 175 d):=
 mY WS fun x d h _=>by
  cases h
  rw[n3]
  refine aI hm MS WS ((abV 1 (intD x)).trans ?_)
  rw[aaV]
  generalize intD x=z
  cases h1:bz z 16 with
  |false=>
   obtain⟨a,b⟩:=Bq (z:=z) (mJ.1 h1)
   rw[a,b];rfl
  |true=>
   have h2:=dw.1 h1
   obtain⟨a,b⟩:=vK h2
   rw[a,b,Hw h2,Int.tmod_eq_emod_of_nonneg h2.1];rfl
def e82:FuncId×TypeId×(List AV->Bool)×(List AV->Option D):=(82,4,yes,ent [24] (f1 fun x=>some (.lit (.bool (lL x)))))
theorem k82:FnOK Tryz.prog 82 Tryz.f82:=⟨Tryz.func82,rfl,by kernel_rfl⟩
theorem c82: ∀ args d,e82.2.2.2 args=some d->CallOK Tryz.prog 82 args (aj Tryz.prog 4 d):=
 mY k82 fun x d h ⟨_,hx⟩=>by
  cases h
  rw[tX]
  obtain⟨ts,rfl,hl,_⟩:=Og hx
  refine aI hm MS k82 ((t82 (ts.length+1) (lV ts)).trans ?_)
  rw[m4,iw]
  have:=jl (fun n v=>lF Tryz.prog Tryz.f82 (ts.length+1) n (lV ts) v) ts.length (fun i=>!dR (ts.getD i .nil)) (some (dat 4 (.lit (.bool false)))) (some (dat 4 (.lit (.bool true))))
   (fun n i hi=>by
    rw[lH,iw,bG hi,eY hi,Int.toNat_natCast,Dx,fE hl hi,cond_true,cond_true])
   (fun n=>by rw[lH,iw,fB (by omega),cond_false]) (ts.length+1) 0 (Nat.zero_le _) (by omega)
  have this:lF Tryz.prog Tryz.f82 (ts.length+1) (ts.length+1) (lV ts) 0=_:=this
  rw[this,Nat.sub_zero,rO ts (fun t=>!dR t),Lj]
  show _=some (dat 4 (.lit (.bool ((decide (1<=ts.length)&&decide (ts.length<=4))&&ts.all dR))))
  by_cases h1:1<=ts.length
  ·by_cases h4:ts.length<=4
   ·rw[dF (show ¬ ((ts.length:Int))<1 by omega),dF (show ¬ ((ts.length:Int))>4 by omega),dT h1,dT h4]
    cases ts.all dR<;>rfl
   ·rw[dF (show ¬ ((ts.length:Int))<1 by omega),dT (show((ts.length:Int))>4 by omega),dT h1,dF h4]
    rfl
  ·rw[dT (show((ts.length:Int))<1 by omega),dF h1]
   rfl
theorem Ht {N:Nat} {cs rs:List D} (hc:cs.length<=2147483648) (hb:rs.length<=2147483648) (hr: ∀ r∈rs,(ae r).length<=2147483648): ∀ (n i:Nat) (acc:List D),i<=rs.length->rs.length - i<n->acc.length<=i->
  nG Tryz.prog Tryz.f31 N n (aX cs rs) (i:Int) acc=some (dat 37 (aX cs (acc++rs.drop i)))
 |0,i,acc,_,h,_=>by omega
 |n+1,i,acc,hi,h,ha=>by
  rw[uw,uC,QR]
  by_cases hlt:i<rs.length
  ·have w1:IntKind.wrap .i64 ((i:Int)+1)=((i+1:Nat):Int):=by rw[aH (l_in (by omega) (by omega))];omega
   rw[bG hlt,eY hlt,Int.toNat_natCast,dA hlt,w1,dT (hr _ (List.getElem_mem hlt)),dT (show acc.length+1<=2147483648 by omega),show BV []=true from rfl]
   simp only[cond_true]
   rw[Ht hc hb hr n (i+1) (acc++[rs[i]]) (by omega) (by omega) (by simp;omega),List.drop_eq_getElem_cons hlt,List.append_assoc]
   rfl
  ·rw[fB hlt,cond_false,dT hc,cond_true,List.drop_of_length_le (by omega),List.append_nil]
   rfl
def e31:FuncId×TypeId×(List AV->Bool)×(List AV->Option D):=(31,37,jU (q2 fun x y=>BV (ae y)&&iY x),ent [37,29] (f2 fun x _=>some (Si x)))
theorem k31:FnOK Tryz.prog 31 Tryz.f31:=⟨Tryz.func31,rfl,by kernel_rfl⟩
theorem c31: ∀ args d,e31.2.2.1 args=true->e31.2.2.2 args=some d->CallOK Tryz.prog 31 args (aj Tryz.prog 37 d):=
 qG k31 fun x y d hq h ⟨_,hx⟩ ⟨_,hy⟩=>by
  cases h
  rw[nB,aea]
  obtain⟨cs,rs,rfl,h1,h2,h3,h4⟩:=tyB hx
  obtain⟨m,es,rfl,_,_⟩:=pW hy aei
  rw[Bool.and_eq_true]at hq
  have hes:es=[]:=JZ hq.1
  subst hes
  have hq:=hq.2
  simp only[iY,Bool.and_eq_true,decide_eq_true_eq,List.all_eq_true]at hq
  obtain⟨⟨g1,g2⟩,g3⟩:=hq
  refine aI hm MS k31 ((t31 (rs.length+1) (aX cs rs)).trans ?_)
  rw[mB]
  exact Ht (N:=rs.length+1) (cs:=cs) (rs:=rs) g2 g1 g3 (rs.length+1) 0 [] (Nat.zero_le _) (by omega) (by simp)
def D2:Tab:=e78::VM::e82::e31::D1
theorem ZX:EnvOK Tryz.prog (bT D2 []):=ah (ah (ah (aO MS c31) c82) abt) c78
end Dn
end
section
namespace Dn
open Go.Ev
set_option linter.unusedVariables false
/- roadbook/data.seen -/
def LW:ay:=fun i=>if i=3 then some ([0,3,4,5,8,9,10,11,12,15,16,17,18,19,20,21,22,23,24,25,26],[6,11],[])else none
def zI (P:Program) (fn:Func) (N n:Nat) (x0:D) (x1:D) (x2:Int) (v14:Int) (b11:List D):Option AV:=aN (preL LW (sub [1,1,0,1,0,0] (ag fn))) (az P (ak D2 [] [] []) LW N (sub [1,1,0,1,0,0] (ag fn))) n ⟨[dead,dat 35 x1,dat 3 (.lit (.int .i64 x2)),dead,dead,dead,bxp 6 37,bxp 11 28,dead,dead,dead,dead,dead,dat 3 (.lit (.int .i64 ((List.replicate (intD (af x0 0)).toNat (.lit (.int .i64 0):D)).length:Int))),dat 3 (.lit (.int .i64 v14)),dead,dead,dead,dead,dead,dead,dead,dead,dead,dead,dead,dead],aZ [(6,some ⟨37,.agg [.slice [] [],.slice [] []],0,none⟩),(11,some ⟨28,.slice b11 [],2,none⟩)]⟩ (aG 0 (cZ P (ak D2 [] [] []) LW N (sub [1,1,1] (ag fn)) (dJ P fn)))
theorem IR (N n:Nat) (x0:D) (x1:D) (x2:Int) (v14:Int) (b11:List D):zI Tryz.prog Tryz.f134 N (n+1) x0 x1 x2 v14 b11=
 bif decide (v14<((List.replicate (intD (af x0 0)).toNat (.lit (.int .i64 0):D)).length:Int))then
  bif (decide (0<=v14)&&decide (v14<(b11.length:Int)))then
   zI Tryz.prog Tryz.f134 N n x0 x1 x2 (IntKind.wrap .i64 (v14+1)) (b11.set (v14).toNat (.lit (.int .i64 (Cj x2 v14))))
  else none
 else some (dat 37 (.agg [.slice b11 [],x1])):=by kernel_rfl
theorem agR (N:Nat) (x0:D) (x1:D) (x2:Int):aU Tryz.prog (ak D2 [] [] []) LW N Tryz.f134 [dat 111 x0,dat 35 x1,dat 3 (.lit (.int .i64 x2))]=
 bif (decide (0<=(intD (af x0 0)))&&decide ((intD (af x0 0))<=2147483648))then
  zI Tryz.prog Tryz.f134 N N x0 x1 x2 0 (List.replicate (intD (af x0 0)).toNat (.lit (.int .i64 0):D))
 else none:=by kernel_rfl
/- roadbook/roadbookref04.Fits -/
end Dn
end
section
namespace Dn
open Go.Ev
set_option linter.unusedVariables false
set_option maxRecDepth 10000
set_option linter.unusedSimpArgs false
theorem Jb {N m:Nat} {t x1:D} {occ:Int} (hm:(intD (af t 0)).toNat=m) (h4:m<=4): ∀ (n i:Nat) (tl:List D),i<=m->m - i<n->tl.length=m - i->
  zI Tryz.prog Tryz.f134 N n t x1 occ (i:Int) (((List.range m).take i).map (qQ occ)++tl)=some (dat 37 (.agg [.slice (iy m occ) [],x1]))
 |0,i,tl,_,h,_=>by omega
 |n+1,i,tl,hi,h,ht=>by
  rw[IR,List.length_replicate,hm]
  by_cases hlt:i<m
  ·have hl2:(((List.range m).take i).map (qQ occ)++tl).length=m:=by simp;omega
   have w1:IntKind.wrap .i64 ((i:Int)+1)=((i+1:Nat):Int):=by rw[aH (l_in (by omega) (by omega))];omega
   have hr:i<(List.range m).length:=by simpa using hlt
   have e1:(DataW.lit (.int .i64 (Cj occ (i:Int))):D)=qQ occ (List.range m)[i]:=by rw[List.getElem_range];rfl
   rw[hl2,bG hlt,eY hlt,cond_true,cond_true,Int.toNat_natCast,w1,e1,Gw (qQ occ) hr (by simpa using ht)]
   exact Jb hm h4 n (i+1) (tl.drop 1) (by omega) (by omega) (by simp;omega)
  ·have hi2:i=m:=by omega
   have htl:tl=[]:=List.length_eq_zero_iff.1 (by omega)
   rw[fB hlt,cond_false,htl,hi2,List.append_nil,List.take_of_length_le (by simp)]
   rfl
def aa4:FuncId×TypeId×(List AV->Bool)×(List AV->Option D):=(134,37,jU (q3 fun x _ _=>bz (yE x) 5),ent [111,35,3] (f3 fun x y z=>some (kz x (ae y) (intD z))))
theorem aeS:FnOK Tryz.prog 134 Tryz.f134:=⟨Tryz.func134,rfl,by kernel_rfl⟩
theorem af2: ∀ args d,aa4.2.2.1 args=true->aa4.2.2.2 args=some d->CallOK Tryz.prog 134 args (aj Tryz.prog 37 d):=
 Jd aeS fun x y z d hq h _ ⟨_,hy⟩ _=>by
  cases h
  rw[ZB,nR,n3]
  have hq:=dw.1 hq
  obtain⟨rs,rfl,_,_⟩:=tyR hy
  refine aI hm ZX aeS ((agR 6 x (.slice rs []) (intD z)).trans ?_)
  rw[mB]
  have hq:0<=intD (af x 0)/\intD (af x 0)<5:=hq
  have g1:(decide (0<=(intD (af x 0)))&&decide ((intD (af x 0))<=2147483648))=true:=by simp only[Bool.and_eq_true,decide_eq_true_eq];omega
  rw[g1,cond_true]
  exact Jb (N:=6) (t:=x) (x1:=.slice rs []) (occ:=intD z) rfl (by omega) 6 0 (List.replicate (intD (af x 0)).toNat (.lit (.int .i64 0))) (Nat.zero_le _) (by omega) (by simp)
section
variable {cs ts:List D} {N i:Nat} (hi:i<ts.length) (hlc:ts.length=cs.length) (hc:dR (cs.getD i .nil)=true) (hl:(ae (ts.getD i .nil)).length<=maxLen)
 (hr: ∀ r∈ae (ts.getD i .nil),(ae r).length<=maxLen) (hN:Hq (ae (ts.getD i .nil))<N)
include hi hl hr hN
include hlc hc
end
theorem Rq {ts:List D} (h:lL (lV ts)=true) {i:Nat} (hi:i<ts.length):dR (ts.getD i .nil)=true:=by
 rw[dA hi]
 exact(F6.1 h).2.2 _ (List.getElem_mem hi)
def D3:Tab:=aa4::D2
theorem aaq:EnvOK Tryz.prog (bT D3 []):=aO ZX af2
end Dn
end
section
namespace Dn
open Go.Ev
set_option linter.unusedVariables false
/- roadbook/data.Fits -/
def SL:ay:=fun i=>if i=4 then some ([0,1,2,4,5,6,7,8,9,10,11,12,13,14,15,16,17,18,19,23,24,25,26,27,28,29,30,31,32,33,34,35,36,37,38,39,40,41,42,43,44,45],[3],[])else none
def zf (P:Program) (fn:Func) (N n:Nat) (x0:D) (x1:D) (v22:Int):Option AV:=aN (preL SL (sub [1,1,0,1,0,0] (ag fn))) (az P (ak D3 [] [] []) SL N (sub [1,1,0,1,0,0] (ag fn))) n ⟨[dead,dead,dead,bxp 3 27,dead,dead,dead,dead,dead,dead,dead,dead,dead,dead,dead,dead,dead,dead,dead,dead,dat 22 (af x0 0),dat 3 (.lit (.int .i64 ((ae (af x0 0)).length:Int))),dat 3 (.lit (.int .i64 v22)),dead,dead,dead,dead,dead,dead,dead,dead,dead,dead,dead,dead,dead,dead,dead,dead,dead,dead,dead,dead,dead,dead,dead],aZ [(3,some ⟨27,x1,0,none⟩)]⟩ (aG 0 (cZ P (ak D3 [] [] []) SL N (sub [1,1,1] (ag fn)) (dJ P fn)))
theorem zX (N n:Nat) (x0:D) (x1:D) (v22:Int):zf Tryz.prog Tryz.f89 N (n+1) x0 x1 v22=
 bif decide (v22<((ae (af x0 0)).length:Int))then
  bif (decide (0<=v22)&&decide (v22<((ae (af x0 0)).length:Int)))then
   bif (decide (0<=v22)&&decide (v22<((ae (af x1 0)).length:Int)))then
    bif ((decide (((ae ((ae (af x1 0)).getD (v22).toNat .nil)).length:Int)>8))==false)then
     bif (decide (0<=v22)&&decide (v22<((ae (af x1 0)).length:Int)))then
      bif bz (yE ((ae (af x0 0)).getD (v22).toNat .nil)) 5 then
       bif (!(bn (kz ((ae (af x0 0)).getD (v22).toNat .nil) (ae ((ae (af x1 0)).getD (v22).toNat .nil)) 0)))then
        some (dat 4 (.lit (.bool false)))
       else zf Tryz.prog Tryz.f89 N n x0 x1 (IntKind.wrap .i64 (v22+1))
      else none
     else none
    else some (dat 4 (.lit (.bool false)))
   else none
  else none
 else some (dat 4 (.lit (.bool true))):=by kernel_rfl
theorem t89 (N:Nat) (x0:D) (x1:D):aU Tryz.prog (ak D3 [] [] []) SL N Tryz.f89 [dat 24 x0,dat 27 x1]=
 bif ((!(lL x0))==false)then
  bif (((ae (af x1 0)).length:Int)!=((ae (af x0 0)).length:Int))then
   some (dat 4 (.lit (.bool false)))
  else zf Tryz.prog Tryz.f89 N N x0 x1 0
 else some (dat 4 (.lit (.bool false))):=by kernel_rfl
end Dn
end
section
namespace Dn
open Go.Ev
set_option linter.unusedVariables false
set_option maxRecDepth 10000
set_option linter.unusedSimpArgs false
theorem JJ {t:D} (h:dR t=true):bz (yE t) 5=true:=by
 obtain⟨a,b,_,_⟩:=qw.1 h
 exact dw.2 ⟨by omega,by omega⟩
def e89:FuncId×TypeId×(List AV->Bool)×(List AV->Option D):=(89,4,yes,ent [24,27] (f2 fun x y=>some (.lit (.bool (xC x y)))))
theorem k89:FnOK Tryz.prog 89 Tryz.f89:=⟨Tryz.func89,rfl,by kernel_rfl⟩
theorem c89: ∀ args d,e89.2.2.2 args=some d->CallOK Tryz.prog 89 args (aj Tryz.prog 4 d):=
 gD k89 fun x y d h ⟨_,hx⟩ ⟨_,hy⟩=>by
  cases h
  rw[tX,Dz]
  obtain⟨cs,rfl,hlc,_⟩:=Og hx
  obtain⟨ts,rfl,hl,hp⟩:=Xo hy
  refine aI hm aaq k89 ((t89 (cs.length+1) (lV cs) (lV ts)).trans ?_)
  rw[m4,iw,iw]
  show _=some (dat 4 (.lit (.bool (lL (lV cs)&&((ts.length==cs.length)&&!(List.range' 0 cs.length).any fun i=>!nD (cs.getD i .nil) (ts.getD i .nil))))))
  cases hmay:lL (lV cs)with
  |false=>rfl
  |true=>
   by_cases hle:ts.length=cs.length
   ·have:=jl (fun n v=>zf Tryz.prog Tryz.f89 (cs.length+1) n (lV cs) (lV ts) v) cs.length (fun i=>!nD (cs.getD i .nil) (ts.getD i .nil)) (some (dat 4 (.lit (.bool false)))) (some (dat 4 (.lit (.bool true))))
     (fun n i hi=>by
      have hi2:i<ts.length:=by omega
      have hd:=Rq hmay hi
      rw[zX,iw,iw,bG hi,eY hi,bG hi2,Int.toNat_natCast,JJ hd,fE hlc hi,Qb]
      simp only[cond_true]
      unfold nD
      by_cases h8:((ae (ts.getD i .nil)).length:Int)<=8
      ·rw[Oe hd (by omega) ⟨by omega,by omega⟩,dT h8]
       cases (ae (ts.getD i .nil)).all (fitsRow (cs.getD i .nil))<;>rfl
      ·rw[dF h8]
       rfl)
     (fun n=>by rw[zX,iw,fB (by omega),cond_false]) (cs.length+1) 0 (Nat.zero_le _) (by omega)
    have this:zf Tryz.prog Tryz.f89 (cs.length+1) (cs.length+1) (lV cs) (lV ts) 0=_:=this
    rw[Sj hle,ZQ hle,this,Nat.sub_zero]
    cases (List.range' 0 cs.length).any _<;>rfl
   ·rw[Tq hle,aac hle]
    rfl
def D4:Tab:=e89::D3
theorem adZ:EnvOK Tryz.prog (ak D4 [] [] []):=ah aaq c89
end Dn
end
section
namespace Dn
open Go.Ev
set_option linter.unusedVariables false
/- roadbook/data.Of -/
def ab2:ay:=fun _=>none
theorem af9 (N:Nat) (x0:D) (x1:D) (x2:Int) (x3:Int):aU Tryz.prog (ak D4 [] [] []) ab2 N Tryz.f135 [dat 24 x0,dat 27 x1,dat 3 (.lit (.int .i64 x2)),dat 3 (.lit (.int .i64 x3))]=
 bif ((!(xC x0 x1))==false)then
  bif ((!(bz x2 ((ae (af x0 0)).length:Int)))==false)then
   bif (!(bz x3 4))then
    some (aL [37,4] (.agg [.agg [.slice [] [],.slice [] []],.lit (.bool false)]))
   else bif (decide (0<=x2)&&decide (x2<((ae (af x0 0)).length:Int)))then
     bif (decide (0<=x2)&&decide (x2<((ae (af x1 0)).length:Int)))then
      bif bz (yE ((ae (af x0 0)).getD (x2).toNat .nil)) 5 then
       bif (BV []&&iY (kz ((ae (af x0 0)).getD (x2).toNat .nil) (ae ((ae (af x1 0)).getD (x2).toNat .nil)) x3))then
        some (aL [37,4] (.agg [Si (kz ((ae (af x0 0)).getD (x2).toNat .nil) (ae ((ae (af x1 0)).getD (x2).toNat .nil)) x3),.lit (.bool true)]))
       else none
      else none
     else none
    else none
  else some (aL [37,4] (.agg [.agg [.slice [] [],.slice [] []],.lit (.bool false)]))
 else some (aL [37,4] (.agg [.agg [.slice [] [],.slice [] []],.lit (.bool false)])):=by kernel_rfl
end Dn
end
section
namespace Dn
open Go.Ev
set_option linter.unusedVariables false
set_option maxRecDepth 10000
set_option linter.unusedSimpArgs false
def e135:FuncId×TypeId×(List AV->Bool)×(List AV->Option D):=(135,43,yes,ent [24,27,3,3] (f4 fun x y z u=>some (.agg [Jv x y (intD z) (intD u),.lit (.bool (Ip x y (intD z) (intD u)))])))
theorem adr:FnOK Tryz.prog 135 Tryz.f135:=⟨Tryz.func135,rfl,by kernel_rfl⟩
theorem c135: ∀ args d,e135.2.2.2 args=some d->CallOK Tryz.prog 135 args (aj Tryz.prog 43 d):=
 ag0 adr fun x y z u d h ⟨_,hx⟩ ⟨_,hy⟩ _ _=>by
  cases h
  rw[tX,Dz,n3,n3]
  obtain⟨cs,rfl,hlc,_⟩:=Og hx
  obtain⟨ts,rfl,hl,hp⟩:=Xo hy
  refine aI hm adZ adr ((af9 1 (lV cs) (lV ts) (intD z) (intD u)).trans ?_)
  rw[Ua,iw,iw]
  generalize intD z=a
  generalize intD u=b
  have ho:Ip (lV cs) (lV ts) a b=(xC (lV cs) (lV ts)&&(bz a (cs.length:Int)&&bz b 4)):=rfl
  unfold Jv
  rw[ho]
  cases h1:xC (lV cs) (lV ts)with
  |false=>rfl
  |true=>
   cases h2:bz a (cs.length:Int)with
   |false=>rfl
   |true=>
    cases h3:bz b 4 with
    |false=>rfl
    |true=>
     obtain⟨f1,f2,f3⟩:=O9.1 h1
     have f2:ts.length=cs.length:=f2
     have a1:=dw.1 h2
     have hi:a.toNat<cs.length:=by omega
     have hi2:a.toNat<ts.length:=by omega
     have hd:=Rq f1 hi
     have hmem:ts.getD a.toNat .nil∈ts:=by rw[dA hi2];exact List.getElem_mem hi2
     obtain⟨rs,hrs,_,_⟩:=hp _ hmem
     have hft:nD (cs.getD a.toNat .nil) (.slice (ae (ts.getD a.toNat .nil)) [])=true:=f3 _ hi
     have g1:(decide (0<=a)&&decide (a<(cs.length:Int)))=true:=h2
     have g2:(decide (0<=a)&&decide (a<(ts.length:Int)))=true:=by rw[f2];exact h2
     rw[g1,g2,JJ hd,UG hd hft]
     rfl
end Dn
end
section
namespace Tn
open Go.Ev
set_option linter.unusedVariables false
/- roadbook/tree.isOccurrence -/
def alu:ay:=fun _=>none
theorem t116 (N:Nat) (x0:Int):aU Tryz.prog (bT [] []) alu N Tryz.f116 [dat 3 (.lit (.int .i64 x0))]=
 bif ((decide (x0>=0))==true)then
  some (dat 4 (.lit (.bool (decide (x0<4)))))
 else some (dat 4 (.lit (.bool false))):=by kernel_rfl
/- roadbook/tree.Leaf -/
end Tn
end
section
namespace Tn
open Go.Ev
set_option linter.unusedVariables false
set_option linter.unusedSimpArgs false
set_option maxRecDepth 10000
theorem hm:Tryz.prog.follows .mixedOrders=true:=by kernel_rfl
theorem n3 (x:D):bD Tryz.prog 3 x=.lit (.int .i64 (intD x)):=by kernel_rfl
theorem n24 (x:D):bD Tryz.prog 34 x=x:=by kernel_rfl
theorem m3 (x:D):aj Tryz.prog 3 x=dat 3 (.lit (.int .i64 (intD x))):=by kernel_rfl
theorem m4 (x:D):aj Tryz.prog 4 x=dat 4 (.lit (.bool (gu x))):=by kernel_rfl
theorem u3:Tryz.prog.underlying 3=some (.int .i64):=by kernel_rfl
theorem u22:Tryz.prog.underlying 32=some (.slice 34):=by kernel_rfl
theorem u24: ∃ f g:Field,Tryz.prog.underlying 34=some (.struct #[f,g])/\f.type=3/\g.type=32:=⟨_,_,Tryz.underlying34,rfl,rfl⟩
theorem aa1 {t:TypeId} {k:IntKind} (hu:Tryz.prog.underlying t=some (.int k)) {n:Nat} {x:D} (h:Ty Tryz.prog n t x): ∃ z,x=.lit (.int k z)/\(Lit.int k z).wf=true:=by
 cases n with
 |zero=>exact h.elim
 |succ n=>
  unfold Ty at h
  rw[hu]at h
  split at h<;>try (exact h.elim)
  all_goals simp_all
theorem iC {n:Nat} {x:D} (h:Ty Tryz.prog n 3 x): ∃ z,x=.lit (.int .i64 z)/\inR z=true:=by
 obtain⟨z,h1,h2⟩:=aa1 u3 h
 exact⟨z,h1,KG h2⟩
theorem acO {n:Nat} {x:D} (h:Ty Tryz.prog n 34 x): ∃ z ks,x=.agg [.lit (.int .i64 z),.slice ks []]/\inR z=true/\ks.length<=maxLen/\ ∀ y∈ks,∃ m,Ty Tryz.prog m 34 y:=by
 obtain⟨f,g,hu,hf,hg⟩:=u24
 obtain⟨m,a,b,rfl,h1,h2⟩:=yC h hu
 rw[hf]at h1
 rw[hg]at h2
 obtain⟨z,rfl,hz⟩:=iC h1
 obtain⟨m2,ks,rfl,hl,hp⟩:=pW h2 u22
 exact⟨z,ks,rfl,hz,hl,fun y hy=>⟨m2,hp y hy⟩⟩
theorem ab8 {n:Nat} {x:D} (h:Ty Tryz.prog n 34 x):(fP x).length<=maxLen/\inR (VX x)=true:=by
 obtain⟨z,ks,rfl,hz,hl,_⟩:=acO h
 exact⟨hl,hz⟩
theorem amh:FnOK Tryz.prog 116 Tryz.f116:=⟨Tryz.func116,rfl,by kernel_rfl⟩
theorem Bd:EnvOK Tryz.prog (bT [] []):=CQ
def e116:FuncId×TypeId×(List AV->Bool)×(List AV->Option D):=(116,4,yes,ent [3] (f1 fun x=>some (.lit (.bool (aby (intD x))))))
theorem c116: ∀ args d,e116.2.2.2 args=some d->CallOK Tryz.prog 116 args (aj Tryz.prog 4 d):=
 mY amh fun x d h ⟨_,hx⟩=>by
  cases h
  obtain⟨z,rfl,hz⟩:=iC hx
  rw[n3]
  refine aI hm Bd amh ((t116 0 z).trans ?_)
  rw[m4]
  show _=some (dat 4 (.lit (.bool (decide (z>=0)&&decide (z<4)))))
  cases decide (z>=0)<;>rfl
abbrev Tz:Tab:=[]
def S0:Tab:=e116::Tz
theorem aj2:EnvOK Tryz.prog (bT S0 []):=ah Bd c116
def e59 (K:Nat):FuncId×TypeId×(List AV->Bool)×(List AV->Option D):=(59,3,jU (q2 fun x y=>intD y==5 - (K:Int)),ent [34,3] (f2 fun x y=>some (.lit (.int .i64 (Qj K x)))))
def S1 (K:Nat):Tab:=e59 K::S0
end Tn
end
section
namespace Tn
open Go.Ev
set_option linter.unusedVariables false
/- roadbook/tree.setOf -/
def ali:ay:=fun _=>none
theorem t59 (K:Nat) (N:Nat) (x0:D) (x1:Int):aU Tryz.prog (bT (S1 K) []) ali N Tryz.f59 [dat 34 x0,dat 3 (.lit (.int .i64 x1))]=
 bif decide (x1>4)then
  some (dat 3 (.lit (.int .i64 0)))
 else bif ((((ae (af x0 1)).length:Int)==0)==true)then
   bif aby (intD (af x0 0))then
    bif decide (0<=(intD (af x0 0)))then
     some (dat 3 (.lit (.int .i64 (TW .i64 1 (intD (af x0 0))))))
    else none
   else bif ((((ae (af x0 1)).length:Int)!=2)==false)then
     bif ((intD (af x0 0))!=0)then
      some (dat 3 (.lit (.int .i64 0)))
     else bif (decide (0<=(0:Int))&&decide ((0:Int)<((ae (af x0 1)).length:Int)))then
       bif ((IntKind.wrap .i64 (x1+1))==5 - (K:Int))then
        bif (decide (0<=(1:Int))&&decide ((1:Int)<((ae (af x0 1)).length:Int)))then
         bif ((IntKind.wrap .i64 (x1+1))==5 - (K:Int))then
          bif (((Qj K ((ae (af x0 1)).getD 0 .nil))==0)==false)then
           bif (((Qj K ((ae (af x0 1)).getD 1 .nil))==0)==false)then
            bif ((ZL .i64 (Qj K ((ae (af x0 1)).getD 0 .nil)) (Qj K ((ae (af x0 1)).getD 1 .nil)))!=0)then
             some (dat 3 (.lit (.int .i64 0)))
            else some (dat 3 (.lit (.int .i64 (orI .i64 (Qj K ((ae (af x0 1)).getD 0 .nil)) (Qj K ((ae (af x0 1)).getD 1 .nil))))))
           else some (dat 3 (.lit (.int .i64 0)))
          else some (dat 3 (.lit (.int .i64 0)))
         else none
        else none
       else none
      else none
    else some (dat 3 (.lit (.int .i64 0)))
  else bif ((((ae (af x0 1)).length:Int)!=2)==false)then
    bif ((intD (af x0 0))!=0)then
     some (dat 3 (.lit (.int .i64 0)))
    else bif (decide (0<=(0:Int))&&decide ((0:Int)<((ae (af x0 1)).length:Int)))then
      bif ((IntKind.wrap .i64 (x1+1))==5 - (K:Int))then
       bif (decide (0<=(1:Int))&&decide ((1:Int)<((ae (af x0 1)).length:Int)))then
        bif ((IntKind.wrap .i64 (x1+1))==5 - (K:Int))then
         bif (((Qj K ((ae (af x0 1)).getD 0 .nil))==0)==false)then
          bif (((Qj K ((ae (af x0 1)).getD 1 .nil))==0)==false)then
           bif ((ZL .i64 (Qj K ((ae (af x0 1)).getD 0 .nil)) (Qj K ((ae (af x0 1)).getD 1 .nil)))!=0)then
            some (dat 3 (.lit (.int .i64 0)))
           else some (dat 3 (.lit (.int .i64 (orI .i64 (Qj K ((ae (af x0 1)).getD 0 .nil)) (Qj K ((ae (af x0 1)).getD 1 .nil))))))
          else some (dat 3 (.lit (.int .i64 0)))
         else some (dat 3 (.lit (.int .i64 0)))
        else none
       else none
      else none
     else none
   else some (dat 3 (.lit (.int .i64 0))):=by kernel_rfl
/- roadbook/tree.neverMay -/
end Tn
end
section
namespace Tn
open Go.Ev
set_option linter.unusedVariables false
set_option linter.unusedSimpArgs false
set_option maxRecDepth 10000
theorem k59:FnOK Tryz.prog 59 Tryz.f59:=⟨Tryz.func59,rfl,by kernel_rfl⟩
theorem amz (N:Nat) (x0:D):aU Tryz.prog (bT S0 []) ali N Tryz.f59 [dat 34 x0,dat 3 (.lit (.int .i64 5))]=some (dat 3 (.lit (.int .i64 0))):=by kernel_rfl
theorem amO {n:Nat} (h:((n:Int)!=2)=false):(decide (0<=(0:Int))&&decide ((0:Int)<(n:Int)))=true/\(decide (0<=(1:Int))&&decide ((1:Int)<(n:Int)))=true:=by
 have h:(n:Int)=2:=by simpa using h
 rw[h]
 exact⟨rfl,rfl⟩
theorem amH: ∀ args d,(e59 0).2.2.1 args=true->(e59 0).2.2.2 args=some d->CallOK Tryz.prog 59 args (aj Tryz.prog 3 d):=
 qG k59 fun x y d hq h ⟨_,hx⟩ ⟨_,hy⟩=>by
  cases h
  obtain⟨z,rfl,hz⟩:=iC hy
  rw[n24,n3]
  have hq:(z==5 - ((0:Nat):Int))=true:=hq
  have:z=5:=by have:=eq_of_beq hq;omega
  subst this
  exact aI hm aj2 k59 (amz 0 x)
theorem c59 (K:Nat) (henv:EnvOK Tryz.prog (bT (S1 K) [])): ∀ args d,(e59 (K+1)).2.2.1 args=true->(e59 (K+1)).2.2.2 args=some d->CallOK Tryz.prog 59 args (aj Tryz.prog 3 d):=
 qG k59 fun x y d hq h ⟨_,hx⟩ ⟨_,hy⟩=>by
  cases h
  obtain⟨z,rfl,hz⟩:=iC hy
  rw[n24,n3]
  have hq:(z==5 - ((K+1:Nat):Int))=true:=hq
  have hz':z=4 - (K:Int):=by have:=eq_of_beq hq;omega
  have h4:decide (z>4)=false:=by rw[decide_eq_false_iff_not];omega
  rw[bH]at hz
  have hw:IntKind.wrap .i64 (z+1)=z+1:=wrap_in (by rw[bH];omega)
  have hk:(z+1==5 - (K:Int))=true:=by rw[beq_iff_eq];omega
  refine aI hm henv k59 ((t59 K 0 x z).trans ?_)
  rw[m3,h4,cond_false,hw,hk]
  show _=some (dat 3 (.lit (.int .i64 (Qj (K+1) x))))
  rw[aiu,show ae (af x 1)=fP x from rfl,show intD (af x 0)=VX x from rfl]
  cases h1:(((fP x).length:Int)==0)with
  |true=>
   cases h2:aby (VX x)with
   |true=>
    have h3:decide (0<=VX x)=true:=by
     unfold aby at h2
     rw[Bool.and_eq_true]at h2
     exact h2.1
    rw[h3]
    rfl
   |false=>
    have h3:(((fP x).length:Int)!=2)=true:=by
     have:=eq_of_beq h1
     rw[bne_iff_ne];omega
    rw[h3]
    rfl
  |false=>
   cases h3:(((fP x).length:Int)!=2)with
   |true=>rfl
   |false=>
    obtain⟨l0,l1⟩:=amO h3
    rw[l0,l1]
    cases h5:(VX x !=0)with
    |true=>rfl
    |false=>
     cases h6:(Qj K ((fP x).getD 0 .nil)==0)<;>cases h7:(Qj K ((fP x).getD 1 .nil)==0)<;>cases h8:(ZL .i64 (Qj K ((fP x).getD 0 .nil)) (Qj K ((fP x).getD 1 .nil))!=0)<;>rfl
theorem alg: ∀ K:Nat,EnvOK Tryz.prog (bT (S1 K) [])
 |0=>aO aj2 amH
 |K+1=>aO aj2 (c59 K (alg K))
end Tn
end
section
namespace Tn
open Go.Ev
set_option linter.unusedVariables false
/- roadbook/tree.Set -/
def al7:ay:=fun _=>none
theorem t23 (N:Nat) (x0:D):aU Tryz.prog (bT (S1 4) []) al7 N Tryz.f23 [dat 34 x0]=
 bif (1==5 - ((4:Nat):Int))then
  some (dat 3 (.lit (.int .i64 (Qj 4 x0))))
 else none:=by kernel_rfl
/- roadbook/tree.alike$1 -/
end Tn
end
section
namespace Tn
open Go.Ev
set_option linter.unusedVariables false
set_option linter.unusedSimpArgs false
set_option maxRecDepth 10000
theorem k23:FnOK Tryz.prog 23 Tryz.f23:=⟨Tryz.func23,rfl,by kernel_rfl⟩
def e23:FuncId×TypeId×(List AV->Bool)×(List AV->Option D):=(23,3,yes,ent [34] (f1 fun x=>some (.lit (.int .i64 (W9 x)))))
theorem c23: ∀ args d,e23.2.2.2 args=some d->CallOK Tryz.prog 23 args (aj Tryz.prog 3 d):=
 mY k23 fun x d h ⟨_,hx⟩=>by
  cases h
  rw[n24]
  exact aI hm (alg 4) k23 (t23 0 x)
def S3:Tab:=e23::S0
theorem alf:EnvOK Tryz.prog (bT S3 []):=ah aj2 c23
end Tn
end
section
namespace Tn
open Go.Ev
set_option linter.unusedVariables false
/- roadbook/tree.May -/
def al3:ay:=fun _=>none
theorem t90 (N:Nat) (x0:D):aU Tryz.prog (bT S3 []) al3 N Tryz.f90 [dat 34 x0]=
 some (dat 4 (.lit (.bool ((W9 x0)!=0)))):=by kernel_rfl
/- roadbook/tree.alike -/
end Tn
end
section
namespace Tn
open Go.Ev
set_option linter.unusedVariables false
set_option linter.unusedSimpArgs false
set_option maxRecDepth 10000
theorem k90:FnOK Tryz.prog 90 Tryz.f90:=⟨Tryz.func90,rfl,by kernel_rfl⟩
def e90:FuncId×TypeId×(List AV->Bool)×(List AV->Option D):=(90,4,yes,ent [34] (f1 fun x=>some (.lit (.bool (agM x)))))
theorem c90: ∀ args d,e90.2.2.2 args=some d->CallOK Tryz.prog 90 args (aj Tryz.prog 4 d):=
 mY k90 fun x d h ⟨_,hx⟩=>by
  cases h
  rw[n24]
  exact aI hm alf k90 (t90 0 x)
end Tn
end
section
namespace Tn
open Go.Ev
set_option linter.unusedVariables false
set_option linter.unusedSimpArgs false
set_option maxRecDepth 10000
def e12 (K:Nat):FuncId×TypeId×(List AV->Bool)×(List AV->Option D):=(12,3,jU (q2 fun x y=>decide (0<=intD y)&&decide (intD y<(K:Int))&&decide (K<=101)),ent [34,3] (f2 fun x y=>some (.lit (.int .i64 (szK K x (intD y))))))
def S9 (K:Nat):Tab:=e12 K::[]
end Tn
end
section
namespace Tn
open Go.Ev
set_option linter.unusedVariables false
/- roadbook/roadbookref06.Size -/
def SE:ay:=fun i=>if i=3 then some ([0,3,4,7,8,9,10,11,12,13,14,15,16,17,18,19,20,21,22,23,24,25,26,27,28,29,30],[2],[])else none
def EU (P:Program) (fn:Func) (K:Nat) (N n:Nat) (x0:D) (x1:Int) (v5:Int) (v6:Int):Option AV:=aN (preL SE (sub [1,1,0,1,0,0] (ag fn))) (az P (bT (S9 K) []) SE N (sub [1,1,0,1,0,0] (ag fn))) n ⟨[dead,dat 3 (.lit (.int .i64 x1)),bxp 2 34,dead,dead,dat 3 (.lit (.int .i64 v5)),dat 3 (.lit (.int .i64 v6)),dead,dead,dead,dead,dead,dead,dead,dead,dead,dead,dead,dead,dead,dead,dead,dead,dead,dead,dead,dead,dead,dead,dead,dead],aZ [(2,some ⟨34,x0,0,none⟩)]⟩ (aG 0 (cZ P (bT (S9 K) []) SE N (sub [1,1,1] (ag fn)) (dJ P fn)))
theorem LV (K:Nat) (N n:Nat) (x0:D) (x1:Int) (v5:Int) (v6:Int):EU Tryz.prog Tryz.f12 K N (n+1) x0 x1 v5 v6=
 bif ((decide (v6<((ae (af x0 1)).length:Int)))==true)then
  bif decide (v5<=x1)then
   bif (decide (0<=v6)&&decide (v6<((ae (af x0 1)).length:Int)))then
    bif (decide (0<=(IntKind.wrap .i64 (x1 - v5)))&&decide ((IntKind.wrap .i64 (x1 - v5))<(K:Int))&&decide (K<=101))then
     EU Tryz.prog Tryz.f12 K N n x0 x1 (IntKind.wrap .i64 (v5+(szK K ((ae (af x0 1)).getD (v6).toNat .nil) (IntKind.wrap .i64 (x1 - v5))))) (IntKind.wrap .i64 (v6+1))
    else none
   else none
  else some (dat 3 (.lit (.int .i64 v5)))
 else some (dat 3 (.lit (.int .i64 v5))):=by kernel_rfl
theorem t12 (K:Nat) (N:Nat) (x0:D) (x1:Int):aU Tryz.prog (bT (S9 K) []) SE N Tryz.f12 [dat 34 x0,dat 3 (.lit (.int .i64 x1))]=
 EU Tryz.prog Tryz.f12 K N N x0 x1 1 0:=by kernel_rfl
end Tn
end
section
namespace Tn
open Go.Ev
set_option linter.unusedVariables false
set_option linter.unusedSimpArgs false
set_option maxRecDepth 10000
theorem k12:FnOK Tryz.prog 12 Tryz.f12:=⟨Tryz.func12,rfl,by kernel_rfl⟩
theorem sD {K N:Nat} {x0:D} {most:Int} (hK:most<(K:Int)+1) (hK2:K<=101) (hm0:0<=most) (hl:(fP x0).length<=maxLen): ∀ (n i:Nat) (c:Int),i<=(fP x0).length->(fP x0).length - i<n->1<=c->c<=most+1->
  EU Tryz.prog Tryz.f12 K N n x0 most c (i:Int)=some (dat 3 (.lit (.int .i64 (goS (szK K) most ((fP x0).drop i) c))))
 |0,i,c,_,h,_,_=>by omega
 |n+1,i,c,hi,h,hc1,hc2=>by
  rw[LV,show ae (af x0 1)=fP x0 from rfl]
  by_cases hlt:i<(fP x0).length
  ·have h1:decide ((i:Int)<((fP x0).length:Int))=true:=by simpa using hlt
   rw[List.drop_eq_getElem_cons hlt,NZ,oh hlt,h1]
   by_cases h2:c<=most
   ·have d2:decide (c<=most)=true:=by simpa using h2
    have hw:IntKind.wrap .i64 (most - c)=most - c:=wrap_in (by rw[bH];omega)
    have hp:(decide (0<=most - c)&&decide (most - c<(K:Int))&&decide (K<=101))=true:=by
     simp only[Bool.and_eq_true,decide_eq_true_eq]
     omega
    obtain⟨s1,s2⟩:=Kr K (fP x0)[i] (most - c) (by omega)
    have hw2:IntKind.wrap .i64 (c+szK K (fP x0)[i] (most - c))=c+szK K (fP x0)[i] (most - c):=wrap_in (by rw[bH];omega)
    rw[d2,hw,hp,Int.toNat_natCast,getD_lt hlt,hw2,jD hl hlt]
    exact sD hK hK2 hm0 hl n (i+1) _ (by omega) (by omega) (by omega) (by omega)
   ·have d2:decide (c<=most)=false:=by simpa using h2
    rw[d2]
    rfl
  ·have h1:decide ((i:Int)<((fP x0).length:Int))=false:=by simpa using hlt
   have h2:(fP x0).drop i=[]:=List.drop_of_length_le (by omega)
   rw[h1,h2]
   rfl
theorem c12 (K:Nat) (henv:EnvOK Tryz.prog (bT (S9 K) [])): ∀ args d,(e12 (K+1)).2.2.1 args=true->(e12 (K+1)).2.2.2 args=some d->CallOK Tryz.prog 12 args (aj Tryz.prog 3 d):=
 qG k12 fun x y d hq h ⟨_,hx⟩ ⟨_,hy⟩=>by
  cases h
  obtain⟨z,rfl,hz⟩:=iC hy
  rw[n24,n3]
  have hq:(decide (0<=z)&&decide (z<((K+1:Nat):Int))&&decide (K+1<=101))=true:=hq
  simp only[Bool.and_eq_true,decide_eq_true_eq]at hq
  obtain⟨hl,_⟩:=ab8 hx
  refine aI hm henv k12 ((t12 K ((fP x).length+1) x z).trans ?_)
  rw[m3]
  exact sD (K:=K) (by omega) (by omega) hq.1.1 hl ((fP x).length+1) 0 1 (Nat.zero_le _) (by omega) (by omega) (by omega)
theorem envS9: ∀ K:Nat,EnvOK Tryz.prog (bT (S9 K) [])
 | 0=>aO Bd (fun args d hp hd=>by
   exfalso
   have hp:q2 (fun x y=>decide (0<=intD y)&&decide (intD y<((0:Nat):Int))&&decide (0<=101)) (args.map (·.d))=true:=hp
   unfold q2 at hp
   split at hp
   ·simp only[Bool.and_eq_true,decide_eq_true_eq]at hp
    omega
   ·cases hp)
 |K+1=>aO Bd (c12 K (envS9 K))
end Tn
end
end Go.Proofs.YtpceahbengfjeaaGreatDoor
