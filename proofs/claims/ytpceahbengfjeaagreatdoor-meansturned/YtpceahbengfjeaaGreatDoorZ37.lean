/- Trees of functions, and lemmas. Nothing here is trusted. -/
import Derived.Test.YtpceahbengfjeaaGreatDoorZ36
import Derived.Test.YtpceahbengfjeaaGreatDoorZ27
import Derived.Test.YtpceahbengfjeaaGreatDoorZ30
namespace Go.Proofs.YtpceahbengfjeaaGreatDoor
section
namespace X
open Go.Ev
set_option linter.unusedVariables false
set_option linter.unusedSimpArgs false
theorem Z5 {f:FuncId} {fn:Func} {t t1 t2:TypeId} {F:D->D->Option D} {pre:List AV->Bool} {q:D->D->Bool} (hf:FnOK Tryz.prog f fn) (hpre: ∀ args,pre args=q (args.getD 0 dead).d (args.getD 1 dead).d)
  (h: ∀ x y d,q x y=true->F x y=some d->(∃ n,Ty Tryz.prog n t1 x)->(∃ n,Ty Tryz.prog n t2 y)->CallOK Tryz.prog f [dat t1 (bD Tryz.prog t1 x),dat t2 (bD Tryz.prog t2 y)] (aj Tryz.prog t d)):
  ∀ args d,pre args=true->ent [t1,t2] (f2 F) args=some d->CallOK Tryz.prog f args (aj Tryz.prog t d):=by
 intro args d hp hd
 have key:=gD (P:=Tryz.prog) (f:=f) (t:=t) (t1:=t1) (t2:=t2) (F:=fun x y=>if q x y=true then F x y else none) hf (fun x y d h' hx hy=>by
  split at h'
  ·rename_i hq;exact h x y d hq h' hx hy
  ·cases h')
 refine key args d ?_
 unfold ent at hd⊢
 split at hd
 ·rename_i hs
  rw[if_pos hs]
  match args,hd,hp with
  | [a,b],hd,hp=>
   rw[hpre]at hp
   have hp:q a.d b.d=true:=hp
   show(if q a.d b.d=true then F a.d b.d else none)=some d
   rw[if_pos hp]
   exact hd
  | [],hd,_=>cases hd
  | [_],hd,_=>cases hd
  |_::_::_::_,hd,_=>cases hd
 ·cases hd
theorem FM (g:D->Int->Int) (most:Int) (p:D) (l:List D) (n:Int):Hm g most (p::l) n=bif decide (n<=most)then Hm g most l (n+g p (most - n))else n:=rfl
theorem Dj {g:D->Int->Int} (hg: ∀ p m,0<=m->1<=g p m/\g p m<=m+1) {most:Int} : ∀ (l:List D) (n:Int),1<=n->n<=most+1->1<=Hm g most l n/\Hm g most l n<=most+1
 | [],n,h1,h2=>⟨h1,h2⟩
 |p::l,n,h1,h2=>by
  rw[FM]
  by_cases h:n<=most
  ·have hd:decide (n<=most)=true:=by simpa using h
   rw[hd,cond_true]
   obtain⟨a,b⟩:=hg p (most - n) (by omega)
   exact Dj hg l _ (by omega) (by omega)
  ·have hd:decide (n<=most)=false:=by simpa using h
   rw[hd,cond_false]
   exact⟨h1,h2⟩
theorem D8: ∀ (k:Nat) (e:D) (m:Int),0<=m->1<=Ai k e m/\Ai k e m<=m+1
 |0,e,m,h=>⟨Int.le_refl 1,by show(1:Int)<=m+1;omega⟩
 |k+1,e,m,h=>Dj (fun p m' h'=>D8 k p m' h') (kids e) 1 (by omega) (by omega)
theorem sD {K N:Nat} {x0:D} {most:Int} (hK:K<=1001) (hm0:0<=most) (hm1:most<(K:Int)+1) (hl:(kids x0).length<=maxLen): ∀ (n i:Nat) (c:Int),i<=(kids x0).length->(kids x0).length - i<n->1<=c->c<=most+1->
  zW Tryz.prog Tryz.f168 K N n x0 most c (i:Int)=some (dat 3 (.lit (.int .i64 (Hm (Ai K) most ((kids x0).drop i) c))))
 |0,i,c,_,h,_,_=>by omega
 |n+1,i,c,hi,h,hc1,hc2=>by
  rw[II,show ae (af x0 3)=kids x0 from rfl]
  by_cases hlt:i<(kids x0).length
  ·have h1:decide ((i:Int)<((kids x0).length:Int))=true:=by simpa using hlt
   rw[List.drop_eq_getElem_cons hlt,FM,oh hlt,h1]
   by_cases h2:c<=most
   ·have d2:decide (c<=most)=true:=by simpa using h2
    have hw:IntKind.wrap .i64 (most - c)=most - c:=wrap_in (by rw[bH];omega)
    have hp:(decide (0<=most - c)&&decide (most - c<(K:Int))&&decide (K<=1001))=true:=by
     simp only[Bool.and_eq_true,decide_eq_true_eq]
     omega
    obtain⟨s1,s2⟩:=D8 K (kids x0)[i] (most - c) (by omega)
    have hw2:IntKind.wrap .i64 (c+Ai K (kids x0)[i] (most - c))=c+Ai K (kids x0)[i] (most - c):=wrap_in (by rw[bH];omega)
    rw[d2,hw,hp,Int.toNat_natCast,getD_lt hlt,hw2,jD hl hlt]
    exact sD hK hm0 hm1 hl n (i+1) _ (by omega) (by omega) (by omega) (by omega)
   ·have d2:decide (c<=most)=false:=by simpa using h2
    rw[d2]
    rfl
  ·have h1:decide ((i:Int)<((kids x0).length:Int))=false:=by simpa using hlt
   have h2:(kids x0).drop i=[]:=List.drop_of_length_le (by omega)
   rw[h1,h2]
   rfl
theorem Pe {K N:Nat} {x0:D} {c:Int} (hl:(kids x0).length<=maxLen) (hok: ∀ p∈kids x0,okK K p=true): ∀ (n i:Nat),i<=(kids x0).length->(kids x0).length - i<n->
  rV Tryz.prog Tryz.f174 K N n x0 c (i:Int)=some (dat 4 (.lit (.bool (((kids x0).drop i).any fun p=>hasK K p c))))
 |0,i,_,h=>by omega
 |n+1,i,hi,h=>by
  rw[Ig,show ae (af x0 3)=kids x0 from rfl]
  by_cases hlt:i<(kids x0).length
  ·have h1:decide ((i:Int)<((kids x0).length:Int))=true:=by simpa using hlt
   rw[List.drop_eq_getElem_cons hlt,List.any_cons,oh hlt,h1,cond_true,cond_true,Int.toNat_natCast,getD_lt hlt,hok _ (List.getElem_mem hlt),cond_true,jD hl hlt]
   cases hh:hasK K (kids x0)[i] c with
   |true=>rfl
   |false=>
    rw[cond_false,Bool.false_or]
    exact Pe hl hok n (i+1) (by omega) (by omega)
  ·have h1:decide ((i:Int)<((kids x0).length:Int))=false:=by simpa using hlt
   have h2:(kids x0).drop i=[]:=List.drop_of_length_le (by omega)
   rw[h1,h2]
   rfl
theorem ael:FnOK Tryz.prog 168 Tryz.f168:=⟨Tryz.func168,rfl,by kernel_rfl⟩
theorem ae0:FnOK Tryz.prog 174 Tryz.f174:=⟨Tryz.func174,rfl,by kernel_rfl⟩
theorem c168 (K:Nat) (henv:EnvOK Tryz.prog (bT (U7 K) [])): ∀ args d,(e168 (K+1)).2.2.1 args=true->(e168 (K+1)).2.2.2 args=some d->CallOK Tryz.prog 168 args (aj Tryz.prog 3 d):=
 Z5 ael (q:=fun x y=>decide (0<=intD y)&&decide (intD y<((K+1:Nat):Int))&&decide (K+1<=1001)) (fun _=>rfl) fun x y d hq h ⟨_,hx⟩ ⟨_,hy⟩=>by
  cases h
  rw[n26,n3]
  simp only[Bool.and_eq_true,decide_eq_true_eq]at hq
  obtain⟨z,rfl,_⟩:=iC hy
  have hq:(0<=z/\z<((K+1:Nat):Int))/\K+1<=1001:=hq
  obtain⟨hl,_⟩:=zi hx
  refine aI hm henv ael ((t168 K ((kids x).length+1) x z).trans ?_)
  rw[m3]
  exact sD (K:=K) (by omega) hq.1.1 (by omega) hl ((kids x).length+1) 0 1 (Nat.zero_le _) (by omega) (by omega) (by omega)
theorem agJ (K:Nat) (henv:EnvOK Tryz.prog (bT (U7 K) [])): ∀ args d,(aeI (K+1)).2.2.1 args=true->(aeI (K+1)).2.2.2 args=some d->CallOK Tryz.prog 174 args (aj Tryz.prog 4 d):=
 Z5 ae0 (q:=fun x y=>okK (K+1) x) (fun _=>rfl) fun x y d hq h ⟨_,hx⟩ ⟨_,hy⟩=>by
  cases h
  rw[n26,n3]
  simp only[wE,Bool.and_eq_true,List.all_eq_true]at hq
  obtain⟨z,rfl,_⟩:=iC hy
  obtain⟨hl,_⟩:=zi hx
  refine aI hm henv ae0 ((afI K ((kids x).length+1) x z).trans ?_)
  rw[m4]
  have hloop:=Pe (K:=K) (N:=(kids x).length+1) (c:=z) hl hq.2 ((kids x).length+1) 0 (Nat.zero_le _) (by omega)
  rw[show intD (af x 0)=opI x from rfl,show intD (af x 1)=rM x from rfl]
  show _=some (dat 4 (.lit (.bool ((opI x==1&&rM x==z)||(kids x).any fun p=>hasK K p z))))
  have hloop:rV Tryz.prog Tryz.f174 K ((kids x).length+1) ((kids x).length+1) x z 0=some (dat 4 (.lit (.bool ((kids x).any fun p=>hasK K p z)))):=hloop
  rw[hloop]
  cases (opI x==1)<;>cases (rM x==z)<;>rfl
theorem aap: ∀ K:Nat,EnvOK Tryz.prog (bT (U7 K) [])
 |0=>aO (aO V9 (fun args d hp _=>by
    exfalso
    simp only[Bool.and_eq_true,decide_eq_true_eq]at hp
    have:(0:Int)<=intD (args.getD 1 dead).d:=hp.1.1
    have:intD (args.getD 1 dead).d<((0:Nat):Int):=hp.1.2
    omega)) (fun args d hp _=>by
    have hp:false=true:=hp
    cases hp)
 |K+1=>aO (aO V9 (c168 K (aap K))) (agJ K (aap K))
def fewB (e:D) (n:Int):Bool:=decide (Ai 1001 e n<=n)
end X
end
section
namespace X
open Go.Ev
set_option linter.unusedVariables false
/- roadbook/roadbookref02.Few -/
def alm:ay:=fun _=>none
theorem amK (N:Nat) (x0:D) (x1:Int):aU Tryz.prog (bT (U7 1001) []) alm N Tryz.f133 [dat 61 x0,dat 3 (.lit (.int .i64 x1))]=
 bif (decide (0<=x1)&&decide (x1<(1001:Int))&&decide (1001<=1001))then
  some (dat 4 (.lit (.bool (decide ((Ai 1001 x0 x1)<=x1)))))
 else none:=by kernel_rfl
end X
end
section
namespace X
open Go.Ev
set_option linter.unusedVariables false
set_option linter.unusedSimpArgs false
def e133:FuncId×TypeId×(List AV->Bool)×(List AV->Option D):=(133,4,fun xs=>decide (0<=intD (xs.getD 1 dead).d)&&decide (intD (xs.getD 1 dead).d<=1000),ent [61,3] (f2 fun x y=>some (.lit (.bool (fewB x (intD y))))))
theorem amg:FnOK Tryz.prog 133 Tryz.f133:=⟨Tryz.func133,rfl,by kernel_rfl⟩
theorem c133: ∀ args d,e133.2.2.1 args=true->e133.2.2.2 args=some d->CallOK Tryz.prog 133 args (aj Tryz.prog 4 d):=
 Z5 amg (q:=fun x y=>decide (0<=intD y)&&decide (intD y<=1000)) (fun _=>rfl) fun x y d hq h _ ⟨_,hy⟩=>by
  cases h
  rw[n26,n3]
  simp only[Bool.and_eq_true,decide_eq_true_eq]at hq
  obtain⟨z,rfl,_⟩:=iC hy
  have hq:0<=z/\z<=1000:=hq
  refine aI hm (aap 1001) amg ((amK 1 x z).trans ?_)
  rw[m4]
  have h1:(decide (0<=z)&&decide (z<(1001:Int))&&decide (1001<=1001))=true:=by
   simp only[Bool.and_eq_true,decide_eq_true_eq]
   omega
  rw[h1]
  rfl
def U9:Tab:=e133::aeI 7::U6
theorem aem:EnvOK Tryz.prog (bT U9 []):=aO (aO V9 (agJ 6 (aap 6))) c133
end X
end
section
open Go.Ev
set_option linter.unusedVariables false
def B8:Tab:=X.e126::X.e129::X.e133::B7
theorem abn:EnvOK Tryz.prog (ak B7 [] [] []):=
 ⟨ZP.p,(vk).h,(vk).r,(vk).f,(vk).g⟩
theorem Ym:EnvOK Tryz.prog (ak B8 [] [] []):=ah (ah (aO abn X.c133) X.c129) X.c126
def e81:FuncId×TypeId×(List AV->Bool)×(List AV->Option D):=(81,4,yes,ent [29,28,67] (f3 fun x y z=>some (.lit (.bool (nM (ae x) (ae y) (ae z))))))
def e75:FuncId×TypeId×(List AV->Bool)×(List AV->Option D):=(75,67,jU (q2 fun x y=>pX (ae x) (ae y)),ent [67,28] (f2 fun x y=>some (.slice (jZ (ae x) (ae y)) [])))
def B9:Tab:=e81::e75::B8
def e31:FuncId×TypeId×(List AV->Bool)×(List AV->Option D):=(31,37,jU (q2 fun x _=>iY x),ent [37,29] (f2 fun x y=>some (oQ x (ae y))))
def e27:FuncId×TypeId×(List AV->Bool)×(List AV->Option D):=(27,43,yes,ent [37,28] (f2 fun x y=>some (.agg [gI x (ae y),.lit (.bool (gy x (ae y)))])))
end
section
open Go.Ev
set_option linter.unusedVariables false
/- roadbook/bag.Keep -/
def yU:ay:=fun i=>if i=3 then some ([0,3,6,7,8,12,13,14,15,16,17,18,19,20,21,22,23,24,25,26,27,28,29,30],[2,4,5,24,900000],[])else none
def nG (P:Program) (fn:Func) (N n:Nat) (x0:D) (x1:D) (v11:Int) (b5:List D):Option AV:=aN (preL yU (sub [1,1,0,1,0,0] (ag fn))) (az P (ak B9 [] [] []) yU N (sub [1,1,0,1,0,0] (ag fn))) n ⟨[dead,dat 29 x1,bxp 2 37,dead,bxp 4 37,bxp 5 35,dead,dead,dead,dat 35 (af x0 1),dat 3 (.lit (.int .i64 ((ae (af x0 1)).length:Int))),dat 3 (.lit (.int .i64 v11)),dead,dead,dead,dead,dead,dead,dead,dead,dead,dead,dead,dead,dead,dead,dead,dead,dead,dead,dead],aZ [(2,some ⟨37,x0,0,none⟩),(4,some ⟨37,.agg [.slice [] [],.slice [] []],0,none⟩),(5,some ⟨35,.slice b5 [],1,none⟩),(24,none),(900000,none)]⟩ (aG 0 (cZ P (ak B9 [] [] []) yU N (sub [1,1,1] (ag fn)) (dJ P fn)))
theorem uw (N n:Nat) (x0:D) (x1:D) (v11:Int) (b5:List D):nG Tryz.prog Tryz.f31 N (n+1) x0 x1 v11 b5=
 bif decide (v11<((ae (af x0 1)).length:Int))then
  bif (decide (0<=v11)&&decide (v11<((ae (af x0 1)).length:Int)))then
   bif nM (ae x1) (ae (af x0 0)) (ae ((ae (af x0 1)).getD (v11).toNat .nil))then
    bif decide ((ae ((ae (af x0 1)).getD (v11).toNat .nil)).length<=2147483648)then
     bif decide ((b5).length+1<=2147483648)then
      nG Tryz.prog Tryz.f31 N n x0 x1 (IntKind.wrap .i64 (v11+1)) (b5++[(ae (af x0 1)).getD (v11).toNat .nil])
     else none
    else none
   else nG Tryz.prog Tryz.f31 N n x0 x1 (IntKind.wrap .i64 (v11+1)) b5
  else none
 else bif decide ((ae (af x0 0)).length<=2147483648)then
   some (dat 37 (.agg [af x0 0,.slice b5 []]))
  else none:=by kernel_rfl
theorem t31 (N:Nat) (x0:D) (x1:D):aU Tryz.prog (ak B9 [] [] []) yU N Tryz.f31 [dat 37 x0,dat 29 x1]=
 nG Tryz.prog Tryz.f31 N N x0 x1 0 []:=by kernel_rfl
/- roadbook/bag.Pick -/
def Hz:ay:=fun i=>if i=5 then some ([0,3,5,7,8,9,10,11,12,13,14,15,16,17,18,19,20,21,22,23,24,25,26,27,28,29,30,34,35,36,37,38,39,40,41,42,43,44,45,46,47,48,49,50,51,52,53,54,55,56,57,58,59,60,61,62,63,64,65,66,67,68],[2,4,30],[])else if i=11 then some ([0,2,3,5,7,8,10,11,12,13,14,15,16,17,18,19,20,21,22,23,24,25,26,27,28,29,30,31,32,33,34,35,36,37,38,39,40,41,42,43,44,45,46,47,48,49,50,54,55,56,57,58,59,60,61,62,63,64,65,66,67,68],[4,49],[6])else none
def Eu (P:Program) (fn:Func) (N n:Nat) (x0:D) (x1:D) (v33:Int) (b30:List D):Option AV:=aN (preL Hz (sub [1,1,1,0,1,0,0] (ag fn))) (az P (ak B9 [] [] []) Hz N (sub [1,1,1,0,1,0,0] (ag fn))) n ⟨[dead,dat 28 x1,bxp 2 37,dead,bxp 4 37,dead,bxp 30 28,dead,dead,dead,dead,dead,dead,dead,dead,dead,dead,dead,dead,dead,dead,dead,dead,dead,dead,dead,dead,dead,dead,dead,dead,dat 28 x1,dat 3 (.lit (.int .i64 ((ae x1).length:Int))),dat 3 (.lit (.int .i64 v33)),dead,dead,dead,dead,dead,dead,dead,dead,dead,dead,dead,dead,dead,dead,dead,dead,dead,dead,dead,dead,dead,dead,dead,dead,dead,dead,dead,dead,dead,dead,dead,dead,dead,dead,dead],aZ [(2,some ⟨37,x0,0,none⟩),(4,some ⟨37,.agg [.slice [] [],.slice [] []],0,none⟩),(30,some ⟨28,.slice b30 [],2,none⟩)]⟩ (aG 0 (cZ P (ak B9 [] [] []) Hz N (sub [1,1,1,1] (ag fn)) (dJ P fn)))
def zh (P:Program) (fn:Func) (N n:Nat) (x0:D) (x1:D) (v33:Int) (b30:List D) (m0:Nat) (v53:Int) (b49:List D):Option AV:=aN (preL Hz (sub [1,1,1,1,1,0,1,0,0] (ag fn))) (az P (ak B9 [] [] []) Hz N (sub [1,1,1,1,1,0,1,0,0] (ag fn))) n ⟨[dead,dat 28 x1,dead,dead,bxp 4 37,dead,dat 28 (.slice b30 []),dead,dead,bxp 49 35,dead,dead,dead,dead,dead,dead,dead,dead,dead,dead,dead,dead,dead,dead,dead,dead,dead,dead,dead,dead,dead,dead,dead,dead,dead,dead,dead,dead,dead,dead,dead,dead,dead,dead,dead,dead,dead,dead,dead,dead,dead,dat 35 (af x0 1),dat 3 (.lit (.int .i64 ((ae (af x0 1)).length:Int))),dat 3 (.lit (.int .i64 v53)),dead,dead,dead,dead,dead,dead,dead,dead,dead,dead,dead,dead,dead,dead,dead],aZ [(4,some ⟨37,.agg [.slice [] [],.slice [] []],0,none⟩),(49,some ⟨35,.slice b49 [],2,none⟩)]⟩ (aG 2 (cZ P (ak B9 [] [] []) Hz N (sub [1,1,1,1,1,1] (ag fn)) (dJ P fn)))
theorem Ii (N n:Nat) (x0:D) (x1:D) (v33:Int) (b30:List D) (m0:Nat) (v53:Int) (b49:List D):zh Tryz.prog Tryz.f27 N (n+1) x0 x1 v33 b30 m0 v53 b49=
 bif decide (v53<((ae (af x0 1)).length:Int))then
  bif (decide (0<=v53)&&decide (v53<((ae (af x0 1)).length:Int)))then
   bif pX (ae ((ae (af x0 1)).getD (v53).toNat .nil)) b30 then
    bif (decide (0<=v53)&&decide (v53<(b49.length:Int)))then
     zh Tryz.prog Tryz.f27 N n x0 x1 v33 b30 m0 (IntKind.wrap .i64 (v53+1)) (b49.set (v53).toNat (.slice (jZ (ae ((ae (af x0 1)).getD (v53).toNat .nil)) b30) []))
    else none
   else none
  else none
 else bif decide ((ae x1).length<=2147483648)then
   some (aL [37,4] (.agg [.agg [x1,.slice b49 []],.lit (.bool true)]))
  else none:=by kernel_rfl
theorem LY (N n:Nat) (x0:D) (x1:D) (v33:Int) (b30:List D):Eu Tryz.prog Tryz.f27 N (n+1) x0 x1 v33 b30=
 bif decide (v33<((ae x1).length:Int))then
  bif (decide (0<=v33)&&decide (v33<((ae x1).length:Int)))then
   bif (decide (0<=v33)&&decide (v33<(b30.length:Int)))then
    Eu Tryz.prog Tryz.f27 N n x0 x1 (IntKind.wrap .i64 (v33+1)) (b30.set (v33).toNat (.lit (.int .i64 (Lib.idxOf ((ae (af x0 0)).map intD) (intD ((ae x1).getD (v33).toNat .nil))))))
   else none
  else none
 else bif (decide (0<=((ae (af x0 1)).length:Int))&&decide (((ae (af x0 1)).length:Int)<=2147483648))then
   zh Tryz.prog Tryz.f27 N N x0 x1 v33 b30 n 0 (List.replicate (((ae (af x0 1)).length:Int)).toNat (.slice [] []:D))
  else none:=by kernel_rfl
theorem t27 (N:Nat) (x0:D) (x1:D):aU Tryz.prog (ak B9 [] [] []) Hz N Tryz.f27 [dat 37 x0,dat 28 x1]=
 bif ((!(bn x0))==false)then
  bif ((!(dm (ae x1)))==false)then
   bif (!(gG (ae (af x0 0)) (ae x1)))then
    some (aL [37,4] (.agg [.agg [.slice [] [],.slice [] []],.lit (.bool false)]))
   else bif (decide (0<=((ae x1).length:Int))&&decide (((ae x1).length:Int)<=2147483648))then
     Eu Tryz.prog Tryz.f27 N N x0 x1 0 (List.replicate (((ae x1).length:Int)).toNat (.lit (.int .i64 0):D))
    else none
  else some (aL [37,4] (.agg [.agg [.slice [] [],.slice [] []],.lit (.bool false)]))
 else some (aL [37,4] (.agg [.agg [.slice [] [],.slice [] []],.lit (.bool false)])):=by kernel_rfl
end
section
open Go.Ev
set_option linter.unusedVariables false
/- roadbook/roadbookref03.Place -/
def ahW:ay:=fun i=>if i=2 then some ([2,3,4,6,7,8,9,10,11,12,13,14,15,16,17,18],[],[])else none
def Gt (P:Program) (fn:Func) (N n:Nat) (x0:D) (x1:Int) (v5:Int):Option AV:=aN (preL ahW (sub [1,0,1,0,0] (ag fn))) (az P (ak B8 [] [] []) ahW N (sub [1,0,1,0,0] (ag fn))) n ⟨[dat 28 x0,dat 3 (.lit (.int .i64 x1)),dead,dead,dead,dat 3 (.lit (.int .i64 v5)),dead,dead,dead,dead,dead,dead,dead,dead,dead,dead,dead,dead,dead],aZ []⟩ (aG 0 (cZ P (ak B8 [] [] []) ahW N (sub [1,1] (ag fn)) (dJ P fn)))
theorem Iq (N n:Nat) (x0:D) (x1:Int) (v5:Int):Gt Tryz.prog Tryz.f109 N (n+1) x0 x1 v5=
 bif decide (v5<((ae x0).length:Int))then
  bif (decide (0<=v5)&&decide (v5<((ae x0).length:Int)))then
   bif ((intD ((ae x0).getD (v5).toNat .nil))==x1)then
    some (dat 3 (.lit (.int .i64 v5)))
   else Gt Tryz.prog Tryz.f109 N n x0 x1 (IntKind.wrap .i64 (v5+1))
  else none
 else some (dat 3 (.lit (.int .i64 (-1)))):=by kernel_rfl
/- roadbook/bag.allKeep -/
def RX:ay:=fun i=>if i=2 then some ([0,3,4,5,6,7,8,12,13,14,15,16,17,18,19,20],[],[])else none
def zN (P:Program) (fn:Func) (N n:Nat) (x0:D) (x1:D) (x2:D) (v11:Int):Option AV:=aN (preL RX (sub [1,0,1,0,0] (ag fn))) (az P (ak B8 [] [] []) RX N (sub [1,0,1,0,0] (ag fn))) n ⟨[dead,dat 28 x1,dat 67 x2,dead,dead,dead,dead,dead,dead,dat 29 x0,dat 3 (.lit (.int .i64 ((ae x0).length:Int))),dat 3 (.lit (.int .i64 v11)),dead,dead,dead,dead,dead,dead,dead,dead,dead],aZ []⟩ (aG 0 (cZ P (ak B8 [] [] []) RX N (sub [1,1] (ag fn)) (dJ P fn)))
theorem Ar (N n:Nat) (x0:D) (x1:D) (x2:D) (v11:Int):zN Tryz.prog Tryz.f81 N (n+1) x0 x1 x2 v11=
 bif decide (v11<((ae x0).length:Int))then
  bif (decide (0<=v11)&&decide (v11<((ae x0).length:Int)))then
   bif (!(BF ((ae x0).getD (v11).toNat .nil) (ae x1) (ae x2)))then
    some (dat 4 (.lit (.bool false)))
   else zN Tryz.prog Tryz.f81 N n x0 x1 x2 (IntKind.wrap .i64 (v11+1))
  else none
 else some (dat 4 (.lit (.bool true))):=by kernel_rfl
theorem t81 (N:Nat) (x0:D) (x1:D) (x2:D):aU Tryz.prog (ak B8 [] [] []) RX N Tryz.f81 [dat 29 x0,dat 28 x1,dat 67 x2]=
 zN Tryz.prog Tryz.f81 N N x0 x1 x2 0:=by kernel_rfl
/- roadbook/bag.picked -/
def SS:ay:=fun i=>if i=3 then some ([1,2,3,4,6,7,8,9,10,14,15,16,17,18,19,20,21,22,23,24,25,26],[10],[])else none
def EL (P:Program) (fn:Func) (N n:Nat) (x0:D) (x1:D) (v13:Int) (b10:List D):Option AV:=aN (preL SS (sub [1,1,0,1,0,0] (ag fn))) (az P (ak B8 [] [] []) SS N (sub [1,1,0,1,0,0] (ag fn))) n ⟨[dat 67 x0,dead,dead,dead,dead,bxp 10 67,dead,dead,dead,dead,dead,dat 28 x1,dat 3 (.lit (.int .i64 ((ae x1).length:Int))),dat 3 (.lit (.int .i64 v13)),dead,dead,dead,dead,dead,dead,dead,dead,dead,dead,dead,dead,dead],aZ [(10,some ⟨67,.slice b10 [],2,none⟩)]⟩ (aG 0 (cZ P (ak B8 [] [] []) SS N (sub [1,1,1] (ag fn)) (dJ P fn)))
theorem KF (N n:Nat) (x0:D) (x1:D) (v13:Int) (b10:List D):EL Tryz.prog Tryz.f75 N (n+1) x0 x1 v13 b10=
 bif decide (v13<((ae x1).length:Int))then
  bif (decide (0<=v13)&&decide (v13<((ae x1).length:Int)))then
   bif (decide (0<=(intD ((ae x1).getD (v13).toNat .nil)))&&decide ((intD ((ae x1).getD (v13).toNat .nil))<((ae x0).length:Int)))then
    bif (decide (0<=v13)&&decide (v13<(b10.length:Int)))then
     EL Tryz.prog Tryz.f75 N n x0 x1 (IntKind.wrap .i64 (v13+1)) (b10.set (v13).toNat ((ae x0).getD (intD ((ae x1).getD (v13).toNat .nil)).toNat .nil))
    else none
   else none
  else none
 else some (dat 67 (.slice b10 [])):=by kernel_rfl
theorem t75 (N:Nat) (x0:D) (x1:D):aU Tryz.prog (ak B8 [] [] []) SS N Tryz.f75 [dat 67 x0,dat 28 x1]=
 bif (decide (0<=((ae x1).length:Int))&&decide (((ae x1).length:Int)<=2147483648))then
  EL Tryz.prog Tryz.f75 N N x0 x1 0 (List.replicate (((ae x1).length:Int)).toNat (.agg [.lit (.int .i64 0),.lit (.int .i64 0)]:D))
 else none:=by kernel_rfl
end
section
open Go.Ev
set_option linter.unusedVariables false
set_option maxRecDepth 10000
set_option linter.unusedSimpArgs false
theorem PS {N:Nat} {x0:D} {x1:Int} (hl:(ae x0).length<=maxLen): ∀ (n i:Nat),i<=(ae x0).length->(ae x0).length - i<n->
  Gt Tryz.prog Tryz.f109 N n x0 x1 (i:Int)=some (dat 3 (.lit (.int .i64 (Lib.idxFrom (((ae x0).drop i).map intD) x1 i))))
 |0,i,_,h=>by omega
 |n+1,i,hi,h=>by
  rw[Iq]
  by_cases hlt:i<(ae x0).length
  ·rw[bG hlt,eY hlt,cond_true,cond_true,List.drop_eq_getElem_cons hlt,List.map_cons,Int.toNat_natCast,dA hlt,Lib.idxFrom,fE hl hlt,PS hl n (i+1) (by omega) (by omega)]
   by_cases he:intD (ae x0)[i]=x1
   ·have:(intD (ae x0)[i]==x1)=true:=by simp[he]
    rw[this,cond_true,if_pos he]
   ·have:(intD (ae x0)[i]==x1)=false:=by rw[beq_eq_false_iff_ne];exact he
    rw[this,cond_false,if_neg he]
  ·rw[fB hlt,cond_false,List.drop_of_length_le (by omega)]
   rfl
theorem nX (x:D):bD Tryz.prog 29 x=x:=by kernel_rfl
theorem afZ {n:Nat} {x:D} (hx:Ty Tryz.prog n 29 x):(ae x).length<=maxLen:=by
 cases n with
 |zero=>exact hx.elim
 |succ n=>
  unfold Ty at hx
  rw[X.u24]at hx
  split at hx<;>try (exact hx.elim)
  all_goals try (simp_all;done)
  rename_i e es sp heq
  cases heq
  obtain⟨rfl,hl,_⟩:=hx
  exact hl
theorem afq {N:Nat} {x0 x1 x2:D} (hl:(ae x0).length<=maxLen) (hN:(ae x0).length<N):zN Tryz.prog Tryz.f81 N N x0 x1 x2 0=some (dat 4 (.lit (.bool (nM (ae x0) (ae x1) (ae x2))))):=by
 have:=jl (fun n v=>zN Tryz.prog Tryz.f81 N n x0 x1 x2 v) (ae x0).length (fun i=>!BF ((ae x0).getD i .nil) (ae x1) (ae x2)) (some (dat 4 (.lit (.bool false)))) (some (dat 4 (.lit (.bool true))))
  (fun n i hi=>by rw[Ar,bG hi,eY hi,cond_true,cond_true,Int.toNat_natCast,fE hl hi])
  (fun n=>by rw[Ar,fB (by omega),cond_false]) N 0 (Nat.zero_le _) (by omega)
 refine this.trans ?_
 rw[Nat.sub_zero,rO (ae x0) (fun e=>!BF e (ae x1) (ae x2))]
 have e:nM (ae x0) (ae x1) (ae x2)=!((ae x0).any fun e=>!BF e (ae x1) (ae x2)):=by
  unfold nM
  rw[List.all_eq_not_any_not]
 rw[e]
 cases (ae x0).any _<;>rfl
theorem k81:FnOK Tryz.prog 81 Tryz.f81:=⟨Tryz.func81,rfl,by kernel_rfl⟩
theorem c81: ∀ args d,e81.2.2.2 args=some d->CallOK Tryz.prog 81 args (aj Tryz.prog 4 d):=
 O7 k81 fun x y z d h ⟨_,hx⟩ _ _=>by
  cases h
  rw[nX,nI,n28]
  refine aI hm Ym k81 ((t81 ((ae x).length+1) x y z).trans ?_)
  rw[m4]
  exact afq (afZ hx) (by omega)
theorem DU {N:Nat} {x0 x1:D} (hb:(ae x1).length<=2147483648) (hin: ∀ q∈ae x1,0<=intD q/\intD q<((ae x0).length:Int)): ∀ (n i:Nat) (tl:List D),i<=(ae x1).length->(ae x1).length - i<n->tl.length=(ae x1).length - i->
  EL Tryz.prog Tryz.f75 N n x0 x1 (i:Int) (((ae x1).take i).map (fun q=>(ae x0).getD (intD q).toNat .nil)++tl)=some (dat 67 (.slice (jZ (ae x0) (ae x1)) []))
 |0,i,tl,_,h,_=>by omega
 |n+1,i,tl,hi,h,ht=>by
  rw[KF]
  by_cases hlt:i<(ae x1).length
  ·have hl2:(((ae x1).take i).map (fun q=>(ae x0).getD (intD q).toNat .nil)++tl).length=(ae x1).length:=by simp;omega
   have hc:(decide (0<=intD (ae x1)[i])&&decide (intD (ae x1)[i]<((ae x0).length:Int)))=true:=by
    simp only[Bool.and_eq_true,decide_eq_true_eq];exact hin _ (List.getElem_mem hlt)
   have w1:IntKind.wrap .i64 ((i:Int)+1)=((i+1:Nat):Int):=by rw[aH (l_in (by omega) (by omega))];omega
   rw[hl2,bG hlt,eY hlt,cond_true,cond_true,Int.toNat_natCast,dA hlt,hc,cond_true,cond_true,w1,Gw (fun q=>(ae x0).getD (intD q).toNat .nil) hlt ht]
   exact DU hb hin n (i+1) (tl.drop 1) (by omega) (by omega) (by simp;omega)
  ·have hi2:i=(ae x1).length:=by omega
   have htl:tl=[]:=List.length_eq_zero_iff.1 (by omega)
   rw[fB hlt,cond_false,htl,hi2,List.take_length,List.append_nil]
   rfl
theorem k75:FnOK Tryz.prog 75 Tryz.f75:=⟨Tryz.func75,rfl,by kernel_rfl⟩
theorem c75: ∀ args d,e75.2.2.1 args=true->e75.2.2.2 args=some d->CallOK Tryz.prog 75 args (aj Tryz.prog 67 d):=
 qG k75 fun x y d hq h _ _=>by
  cases h
  rw[n28,nI]
  simp only[pX,Bool.and_eq_true,decide_eq_true_eq,List.all_eq_true]at hq
  refine aI hm Ym k75 ((t75 ((ae y).length+1) x y).trans ?_)
  rw[m28]
  have c1:(decide (0<=((ae y).length:Int))&&decide (((ae y).length:Int)<=2147483648))=true:=by
   have:=hq.1
   simp only[Bool.and_eq_true,decide_eq_true_eq];omega
  rw[c1,cond_true,Int.toNat_natCast]
  exact DU (N:=(ae y).length+1) hq.1 hq.2 ((ae y).length+1) 0 _ (Nat.zero_le _) (by omega) (by simp)
theorem aag:EnvOK Tryz.prog (ak B9 [] [] []):=ah (aO Ym c75) c81
end
section
open Go.Ev
set_option linter.unusedVariables false
set_option maxRecDepth 10000
set_option linter.unusedSimpArgs false
theorem BC {N:Nat} {cs rs:List D} {x1:D} (hc:cs.length<=2147483648) (hb:rs.length<=2147483648) (hr: ∀ r∈rs,(ae r).length<=2147483648): ∀ (n i:Nat) (acc:List D),i<=rs.length->rs.length - i<n->acc.length<=i->
  nG Tryz.prog Tryz.f31 N n (aX cs rs) x1 (i:Int) acc=some (dat 37 (aX cs (acc++jX (ae x1) cs (rs.drop i))))
 |0,i,acc,_,h,_=>by omega
 |n+1,i,acc,hi,h,ha=>by
  rw[uw,show ae (af (aX cs rs) 1)=rs from rfl,show ae (af (aX cs rs) 0)=cs from rfl]
  by_cases hlt:i<rs.length
  ·have w1:IntKind.wrap .i64 ((i:Int)+1)=((i+1:Nat):Int):=by rw[aH (l_in (by omega) (by omega))];omega
   have g1:decide ((ae rs[i]).length<=2147483648)=true:=by rw[decide_eq_true_eq];exact hr _ (List.getElem_mem hlt)
   have g2:decide (acc.length+1<=2147483648)=true:=by rw[decide_eq_true_eq];omega
   rw[bG hlt,eY hlt,cond_true,cond_true,Int.toNat_natCast,dA hlt,w1,g1,g2]
   simp only[cond_true]
   have hd:rs.drop i=rs[i]::rs.drop (i+1):=List.drop_eq_getElem_cons hlt
   cases hk:nM (ae x1) cs (ae rs[i])with
   |true=>
    rw[cond_true,BC hc hb hr n (i+1) (acc++[rs[i]]) (by omega) (by omega) (by simp;omega),hd]
    have:jX (ae x1) cs (rs[i]::rs.drop (i+1))=rs[i]::jX (ae x1) cs (rs.drop (i+1)):=by
     unfold jX
     rw[List.filter_cons,if_pos hk]
    rw[this,List.append_assoc]
    rfl
   |false=>
    rw[cond_false,BC hc hb hr n (i+1) acc (by omega) (by omega) (by omega),hd]
    have:jX (ae x1) cs (rs[i]::rs.drop (i+1))=jX (ae x1) cs (rs.drop (i+1)):=by
     unfold jX
     rw[List.filter_cons,if_neg (by rw[hk];simp)]
    rw[this]
  ·have g1:decide (cs.length<=2147483648)=true:=by rw[decide_eq_true_eq];exact hc
   rw[fB hlt,cond_false,g1,cond_true,List.drop_of_length_le (by omega)]
   show _=some (dat 37 (aX cs (acc++[])))
   rw[List.append_nil]
   rfl
theorem k31:FnOK Tryz.prog 31 Tryz.f31:=⟨Tryz.func31,rfl,by kernel_rfl⟩
theorem c31: ∀ args d,e31.2.2.1 args=true->e31.2.2.2 args=some d->CallOK Tryz.prog 31 args (aj Tryz.prog 37 d):=
 qG k31 fun x y d hq h ⟨_,hx⟩ _=>by
  cases h
  rw[nB,nX]
  obtain⟨cs,rs,rfl,h1,h2,h3,h4⟩:=tyB hx
  simp only[iY,Bool.and_eq_true,decide_eq_true_eq,List.all_eq_true]at hq
  obtain⟨⟨g1,g2⟩,g3⟩:=hq
  refine aI hm aag k31 ((t31 (rs.length+1) (aX cs rs) y).trans ?_)
  rw[mB]
  exact BC (N:=rs.length+1) (cs:=cs) (rs:=rs) (x1:=y) g2 g1 g3 (rs.length+1) 0 [] (Nat.zero_le _) (by omega) (by simp)
theorem Ny {N:Nat} {cs rs ps:List D} {x1:D} {v33:Int} {m0:Nat} (hc:(ae x1).length<=2147483648) (hb:rs.length<=2147483648) (hr: ∀ r∈rs,pX (ae r) ps=true): ∀ (n i:Nat) (tl:List D),i<=rs.length->rs.length - i<n->tl.length=rs.length - i->
  zh Tryz.prog Tryz.f27 N n (aX cs rs) x1 v33 ps m0 (i:Int) ((rs.take i).map (fun r=>(DataW.slice (jZ (ae r) ps) []:D))++tl)=
   some (aL [37,4] (.agg [.agg [x1,.slice (rs.map fun r=>.slice (jZ (ae r) ps) []) []],.lit (.bool true)]))
 |0,i,tl,_,h,_=>by omega
 |n+1,i,tl,hi,h,ht=>by
  rw[Ii,show ae (af (aX cs rs) 1)=rs from rfl]
  by_cases hlt:i<rs.length
  ·have hl2:((rs.take i).map (fun r=>(DataW.slice (jZ (ae r) ps) []:D))++tl).length=rs.length:=by simp;omega
   have w1:IntKind.wrap .i64 ((i:Int)+1)=((i+1:Nat):Int):=by rw[aH (l_in (by omega) (by omega))];omega
   rw[hl2,bG hlt,eY hlt,cond_true,cond_true,Int.toNat_natCast,dA hlt,hr _ (List.getElem_mem hlt),cond_true,cond_true,w1,Gw (fun r=>(DataW.slice (jZ (ae r) ps) []:D)) hlt ht]
   exact Ny hc hb hr n (i+1) (tl.drop 1) (by omega) (by omega) (by simp;omega)
  ·have hi2:i=rs.length:=by omega
   have htl:tl=[]:=List.length_eq_zero_iff.1 (by omega)
   have g1:decide ((ae x1).length<=2147483648)=true:=by rw[decide_eq_true_eq];exact hc
   rw[fB hlt,cond_false,g1,cond_true,htl,hi2,List.take_length,List.append_nil]
theorem Ru {N:Nat} {cs rs:List D} {x1:D} (hN:rs.length<N) (hc:(ae x1).length<=2147483648) (hb:rs.length<=2147483648) (hr: ∀ r∈rs,pX (ae r) (uL (aX cs rs) (ae x1))=true): ∀ (n i:Nat) (tl:List D),i<=(ae x1).length->(ae x1).length - i<n->tl.length=(ae x1).length - i->
  Eu Tryz.prog Tryz.f27 N n (aX cs rs) x1 (i:Int) (((ae x1).take i).map (fun c=>fO (bC cs (intD c)))++tl)=
   some (aL [37,4] (.agg [.agg [x1,.slice (rs.map fun r=>.slice (jZ (ae r) (uL (aX cs rs) (ae x1))) []) []],.lit (.bool true)]))
 |0,i,tl,_,h,_=>by omega
 |n+1,i,tl,hi,h,ht=>by
  rw[LY,show ae (af (aX cs rs) 1)=rs from rfl,show ae (af (aX cs rs) 0)=cs from rfl]
  by_cases hlt:i<(ae x1).length
  ·have hl2:(((ae x1).take i).map (fun c=>fO (bC cs (intD c)))++tl).length=(ae x1).length:=by simp;omega
   have w1:IntKind.wrap .i64 ((i:Int)+1)=((i+1:Nat):Int):=by rw[aH (l_in (by omega) (by omega))];omega
   have e1:(DataW.lit (.int .i64 (Lib.idxOf (cs.map intD) (intD (ae x1)[i]))):D)=(fun c=>fO (bC cs (intD c))) (ae x1)[i]:=rfl
   rw[hl2,bG hlt,eY hlt,cond_true,cond_true,cond_true,Int.toNat_natCast,dA hlt,w1,e1,Gw (fun c=>fO (bC cs (intD c))) hlt ht]
   exact Ru hN hc hb hr n (i+1) (tl.drop 1) (by omega) (by omega) (by simp;omega)
  ·have hi2:i=(ae x1).length:=by omega
   have htl:tl=[]:=List.length_eq_zero_iff.1 (by omega)
   have g2:(decide (0<=(rs.length:Int))&&decide ((rs.length:Int)<=2147483648))=true:=by simp only[Bool.and_eq_true,decide_eq_true_eq];omega
   rw[fB hlt,cond_false,g2,cond_true,htl,hi2,List.take_length,List.append_nil,Int.toNat_natCast]
   exact Ny (N:=N) (cs:=cs) (rs:=rs) (ps:=uL (aX cs rs) (ae x1)) (x1:=x1) hc hb hr N 0 _ (Nat.zero_le _) (by omega) (by simp)
theorem k27:FnOK Tryz.prog 27 Tryz.f27:=⟨Tryz.func27,rfl,by kernel_rfl⟩
theorem c27: ∀ args d,e27.2.2.2 args=some d->CallOK Tryz.prog 27 args (aj Tryz.prog 43 d):=
 gD k27 fun x y d h ⟨_,hx⟩ ⟨_,hy⟩=>by
  cases h
  rw[nB,nI]
  obtain⟨cs,rs,rfl,h1,h2,h3,h4⟩:=tyB hx
  obtain⟨ys,rfl,_,_⟩:=tyI hy
  refine aI hm aag k27 ((t27 (rs.length+ys.length+1) (aX cs rs) (.slice ys [])).trans ?_)
  rw[Ua]
  have hys:ae (DataW.slice ys []:D)=ys:=rfl
  rw[show ae (af (aX cs rs) 0)=cs from rfl,hys]
  cases q1:bn (aX cs rs)with
  |false=>
   have:gy (aX cs rs) ys=false:=by unfold gy;rw[q1];rfl
   rw[gI,this];rfl
  |true=>
   cases q2:dm ys with
   |false=>
    have:gy (aX cs rs) ys=false:=by unfold gy;rw[q1,q2];rfl
    rw[gI,this];rfl
   |true=>
    cases q3:gG cs ys with
    |false=>
     have:gy (aX cs rs) ys=false:=by unfold gy;rw[q1,q2,show aQ (aX cs rs)=cs from rfl,q3];rfl
     rw[gI,this];rfl
    |true=>
     have hok:gy (aX cs rs) ys=true:=by unfold gy;rw[q1,q2,show aQ (aX cs rs)=cs from rfl,q3];rfl
     have hmb:=AZ q1
     have h16:=pM q2
     have hn:=hmb.n
     have g1:(decide (0<=(ys.length:Int))&&decide ((ys.length:Int)<=2147483648))=true:=by simp only[Bool.and_eq_true,decide_eq_true_eq];omega
     have hr: ∀ r∈rs,pX (ae r) (uL (aX cs rs) ys)=true:=by
      intro r hr
      simp only[pX,Bool.and_eq_true,decide_eq_true_eq,List.all_eq_true,uL,List.length_map,List.mem_map]
      refine⟨by omega,?_⟩
      rintro q ⟨c,hc,rfl⟩
      simp only[gG,List.all_eq_true]at q3
      obtain⟨a,b⟩:=Ha (q3 _ (List.mem_map_of_mem hc))
      have hl:=hmb.l r hr
      show 0<=bC cs (intD c)/\bC cs (intD c)<((ae r).length:Int)
      omega
     rw[g1,gI,hok]
     have key:=Ru (N:=rs.length+ys.length+1) (cs:=cs) (rs:=rs) (x1:=.slice ys []) (by omega) (by rw[hys];omega) (by omega) hr (rs.length+ys.length+1) 0 (List.replicate ys.length (.lit (.int .i64 0))) (Nat.zero_le _) (by rw[hys];omega) (by rw[hys];simp)
     have e1:((ys.length:Int)).toNat=ys.length:=Int.toNat_natCast _
     rw[e1]
     exact key
end
section
namespace X
open Go.Ev
set_option linter.unusedVariables false
set_option linter.unusedSimpArgs false
theorem xR (d:Array Int): ∀ (m j:Nat),j<m->d[j]! ∈Lib.compactUpTo d m
 |0,j,h=>by omega
 |m+1,j,h=>by
  rw[Lib.compactUpTo_succ,List.mem_append]
  by_cases hj:j<m
  ·exact .inl (xR d m j hj)
  ·have:j=m:=by omega
   subst this
   by_cases hk:Lib.keeps d j=true
   ·right;rw[if_pos hk];simp
   ·left
    unfold Lib.keeps at hk
    simp only[ne_eq,decide_eq_true_eq,not_or,Decidable.not_not]at hk
    rw[hk.2]
    exact xR d j (j - 1) (by omega)
theorem ahS (d:Array Int) (hd: ∀ i j:Nat,i<=j->j<d.size->d[i]! <=d[j]!): ∀ (m:Nat),m<=d.size->(Lib.compactUpTo d m).Pairwise (· < ·)/\ ∀ x∈Lib.compactUpTo d m,x<=d[m - 1]! /\0<m
 |0,_=>by simp[Lib.compactUpTo]
 |m+1,h=>by
  obtain⟨h1,h2⟩:=ahS d hd m (by omega)
  rw[Lib.compactUpTo_succ]
  have hle: ∀ x∈Lib.compactUpTo d m,x<=d[m]! :=fun x hx=>by
   obtain⟨a,b⟩:=h2 x hx
   exact Int.le_trans a (hd (m - 1) m (by omega) (by omega))
  refine⟨?_,?_⟩
  ·rw[List.pairwise_append]
   by_cases hk:Lib.keeps d m=true
   ·rw[if_pos hk]
    refine⟨h1,by simp,fun x hx y hy=>?_⟩
    rw[List.mem_singleton]at hy
    subst hy
    obtain⟨a,b⟩:=h2 x hx
    have hc:=hd (m - 1) m (by omega) (by omega)
    unfold Lib.keeps at hk
    simp only[ne_eq,decide_eq_true_eq]at hk
    rcases hk with hk|hk
    ·omega
    ·omega
   ·rw[if_neg hk]
    exact⟨h1,by simp,by simp⟩
  ·intro x hx
   rw[List.mem_append]at hx
   refine⟨?_,by omega⟩
   rw[Nat.add_sub_cancel]
   rcases hx with hx|hx
   ·exact hle x hx
   ·split at hx
    ·rw[List.mem_singleton]at hx
     rw[hx]
     exact Int.le_refl _
    ·cases hx
def ahX (l:List Int):List Int:=Lib.compact (zA l)
theorem ahV (l:List Int):(zA l).Pairwise (· <= ·):=by
 have:=List.pairwise_mergeSort (le:=fun x y:Int=>decide (x<=y)) (fun a b c h1 h2=>by simp at h1 h2⊢;omega) (fun a b=>by simp;omega) l
 unfold zA
 exact this.imp (by simp)
theorem ah5 (l:List Int):(ahX l).Pairwise (· < ·):=by
 unfold ahX Lib.compact
 refine(ahS _ ?_ _ (by simp)).1
 intro i j hij hj
 have hs:=ahV l
 have hj':j<(zA l).length:=by simpa using hj
 by_cases he:i=j
 ·subst he;exact Int.le_refl _
 ·rw[List.pairwise_iff_getElem]at hs
  have:=hs i j (by omega) hj' (by omega)
  rw[getElem!_pos (zA l).toArray i (by simp;omega),getElem!_pos (zA l).toArray j hj]
  simpa using this
theorem mem_cset {l:List Int} {z:Int} :z∈ahX l↔z∈l:=by
 refine⟨fun h=>Bo.1 (mem_compact h),fun h=>?_⟩
 obtain⟨j,hj,rfl⟩:=List.getElem_of_mem (Bo.2 h)
 unfold ahX Lib.compact
 have:=xR (zA l).toArray (zA l).length j hj
 rw[getElem!_pos (zA l).toArray j (by simpa using hj)]at this
 simpa using this
theorem ahZ: ∀ {a b:List Int},a.Nodup->a ⊆ b->a.length<=b.length
 | [],b,_,_=>Nat.zero_le _
 |x::a,b,h,hs=>by
  rw[List.nodup_cons]at h
  have hx:x∈b:=hs (List.mem_cons_self ..)
  have h1:a ⊆ b.erase x:=fun y hy=>by
   have hne:y≠x:=fun he=>h.1 (he▸hy)
   exact(List.mem_erase_of_ne hne).2 (hs (List.mem_cons_of_mem _ hy))
  have h2:=ahZ h.2 h1
  rw[List.length_erase_of_mem hx]at h2
  have:0<b.length:=List.length_pos_of_mem hx
  simp only[List.length_cons]
  omega
theorem QL (l:List Int):(ahX l).Nodup:=(ah5 l).imp (fun h=>by omega)
theorem VZ (l:List Int):(l.map fO).map intD=l:=by
 rw[List.map_map]
 have:intD∘fO=id:=rfl
 rw[this,List.map_id]
def ahQ (K:Nat) (e:D):List Int:=(kR K e).map intD
theorem colsE_eq {e:D} (h:BB e=true):mg e=(ahX (ahQ 7 e)).map fO:=by
 unfold mg jc lT ahX ahQ
 rw[h,cond_true,VZ]
theorem TU {e:D} (h:BB e=false):mg e=[]:=by
 unfold mg
 rw[h,cond_false]
theorem PU (k:Nat) (e:D):ahQ (k+1) e=(bif opI e==1 then [rM e]else [])++(kids e).flatMap (ahQ k):=by
 unfold ahQ
 rw[uF,List.map_append,List.map_flatMap]
 cases (opI e==1)<;>rfl
theorem eval_same {c r c' r':List D} : ∀ (K:Nat) (e:D),(∀ z∈ahQ K e,atD z c r=atD z c' r')->oD c r K e=oD c' r' K e
 |0,e,_=>rfl
 |K+1,e,h=>by
  rw[Qa,Qa]
  have:(kids e).map (oD c r K)=(kids e).map (oD c' r' K):=List.map_congr_left fun p hp=>eval_same K p fun z hz=>h z (by
   rw[PU,List.mem_append,List.mem_flatMap]
   exact .inr ⟨p,hp,hz⟩)
  rw[this]
  cases h1:(opI e==1)with
  |true=>
   rw[cond_true,cond_true,h (rM e) (by rw[PU,h1];simp)]
  |false=>rfl
end X
end
section
namespace X
open Go.Ev
set_option linter.unusedVariables false
set_option linter.unusedSimpArgs false
abbrev UP:Tab:=U9
theorem JB:EnvOK Tryz.prog (bT UP []):=aem
end X
end
section
namespace X
open Go.Ev
set_option linter.unusedVariables false
set_option linter.unusedSimpArgs false
theorem Dk: ∀ (K:Nat) (e:D),okK K e=true-> ∀ z∈ahQ K e,0<=z/\z<16
 |0,e,h=>by cases h
 |K+1,e,h=>by
  rw[wE,Bool.and_eq_true,List.all_eq_true]at h
  intro z hz
  rw[PU,List.mem_append,List.mem_flatMap]at hz
  rcases hz with hz|⟨p,hp,hz⟩
  ·cases ho:(opI e==1)with
   |true=>
    rw[ho,cond_true,List.mem_singleton]at hz
    obtain⟨_,_,h1,h2,_⟩:=Tt h.1
    omega
   |false=>rw[ho,cond_false]at hz;cases hz
  ·exact Dk K p (h.2 p hp) z hz
theorem pM (e:D):(mg e).length<=16:=by
 cases hm:BB e with
 |false=>rw[TU hm];exact Nat.zero_le _
 |true=>
  rw[colsE_eq hm,List.length_map]
  have:=ahZ (b:=(List.range 16).map Int.ofNat) (QL (ahQ 7 e)) (fun z hz=>by
   have:=Dk 7 e (LC hm) z (mem_cset.1 hz)
   rw[List.mem_map]
   exact⟨z.toNat,by rw[List.mem_range];omega,by rw[Int.ofNat_eq_natCast];omega⟩)
  simpa using this
end X
end
section
namespace X
open Go.Ev
set_option linter.unusedVariables false
/- roadbook/data.below -/
def Qx:ay:=fun _=>none
theorem t124 (N:Nat) (x0:Int) (x1:Int):aU Tryz.prog (ak UP [] [] []) Qx N Tryz.f124 [dat 3 (.lit (.int .i64 x0)),dat 3 (.lit (.int .i64 x1))]=
 bif ((decide (x0>=0))==true)then
  some (dat 4 (.lit (.bool (decide (x0<x1)))))
 else some (dat 4 (.lit (.bool false))):=by kernel_rfl
/- roadbook/query.below -/
def aaK:ay:=fun _=>none
theorem ahl (N:Nat) (x0:Int) (x1:Int):aU Tryz.prog (ak UP [] [] []) aaK N Tryz.f128 [dat 3 (.lit (.int .i64 x0)),dat 3 (.lit (.int .i64 x1))]=
 bif ((decide (x0>=0))==true)then
  some (dat 4 (.lit (.bool (decide (x0<x1)))))
 else some (dat 4 (.lit (.bool false))):=by kernel_rfl
/- roadbook/data.orZero -/
def PL:ay:=fun _=>none
theorem t127 (N:Nat) (x0:D):aU Tryz.prog (ak UP [] [] []) PL N Tryz.f127 [dat 111 x0]=
 bif ((decide ((intD (af x0 0))<1))==false)then
  bif ((decide ((intD (af x0 0))>4))==false)then
   bif ((decide ((intD (af x0 1))<1))==false)then
    bif decide ((intD (af x0 1))>1000000)then
     some (dat 111 (.agg [.lit (.int .i64 0),.lit (.int .i64 0)]))
    else some (dat 111 x0)
   else some (dat 111 (.agg [.lit (.int .i64 0),.lit (.int .i64 0)]))
  else some (dat 111 (.agg [.lit (.int .i64 0),.lit (.int .i64 0)]))
 else some (dat 111 (.agg [.lit (.int .i64 0),.lit (.int .i64 0)])):=by kernel_rfl
/- roadbook/roadbooklaw04.Two -/
def VN:ay:=fun _=>none
theorem t34 (N:Nat):aU Tryz.prog (ak UP [] [] []) VN N Tryz.f34 []=
 some (aL [24,27] (.agg [.agg [.slice [.agg [.lit (.int .i64 2),.lit (.int .i64 100)],.agg [.lit (.int .i64 1),.lit (.int .i64 10)]] []],.agg [.slice [.slice [.slice [.agg [.lit (.int .i64 0),.lit (.int .i64 1)],.agg [.lit (.int .i64 0),.lit (.int .i64 2)]] [],.slice [.agg [.lit (.int .i64 0),.lit (.int .i64 3)],.agg [.lit (.int .i64 0),.lit (.int .i64 4)]] []] [],.slice [.slice [.agg [.lit (.int .i64 0),.lit (.int .i64 4)]] []] []] []]])):=by kernel_rfl
/- slices.Contains[[]int,int] -/
def QF:ay:=fun _=>none
theorem acv (N:Nat) (x0:D) (x1:Int):aU Tryz.prog (ak UP [] [] []) QF N Tryz.f104 [dat 28 x0,dat 3 (.lit (.int .i64 x1))]=
 some (dat 4 (.lit (.bool (decide ((Lib.idxOf ((ae x0).map intD) x1)>=0))))):=by kernel_rfl
/- roadbook/query.alone -/
def alW:ay:=fun _=>none
theorem t77 (N:Nat) (x0:Int):aU Tryz.prog (ak UP [] [] []) alW N Tryz.f77 [dat 3 (.lit (.int .i64 x0))]=
 bif decide (0<=x0)then
  some (dat 108 (.lit (.int .i64 (TW .i64 1 x0))))
 else none:=by kernel_rfl
/- (roadbook/query.occs).has -/
def alb:ay:=fun _=>none
theorem amv (N:Nat) (x0:Int) (x1:Int):aU Tryz.prog (ak UP [] [] []) alb N Tryz.f76 [dat 3 (.lit (.int .i64 x0)),dat 3 (.lit (.int .i64 x1))]=
 some (dat 4 (.lit (.bool ((MG .i64 x1 x0)==0)))):=by kernel_rfl
/- (roadbook/query.occs).has -/
def alc:ay:=fun _=>none
theorem amj (N:Nat) (x0:Int) (x1:Int):aU Tryz.prog (ak UP [] [] []) alc N Tryz.f76 [dat 3 (.lit (.int .i64 x0)),dat 108 (.lit (.int .i64 x1))]=
 some (dat 4 (.lit (.bool ((MG .i64 x1 x0)==0)))):=by kernel_rfl
/- roadbook/roadbookref05.Bit -/
/- roadbook/roadbooklaw05.few -/
def akq:ay:=fun i=>if i=3 then some ([0,1,2,4,7,8,9,10,11,12,13,14,15,16,17,18,19,20,21,22,23,24,25,26,27,28,29,30,31,32,33,34,35,36,37,38,39,40,41,42,43,44,45,46,47,48,49,50,51],[3],[])else none
def aid (P:Program) (fn:Func) (N n:Nat) (x0:D) (x1:D) (v5:Bool) (v6:Int):Option AV:=aN (preL akq (sub [1,1,0,1,0,0] (ag fn))) (az P (ak UP [] [] []) akq N (sub [1,1,0,1,0,0] (ag fn))) n ⟨[dead,dead,dead,bxp 3 31,dead,dat 4 (.lit (.bool v5)),dat 3 (.lit (.int .i64 v6)),dead,dead,dead,dead,dead,dead,dead,dead,dead,dead,dead,dead,dead,dead,dead,dead,dead,dead,dead,dead,dead,dead,dead,dead,dead,dead,dead,dead,dead,dead,dead,dead,dead,dead,dead,dead,dead,dead,dead,dead,dead,dead,dead,dead,dead],aZ [(3,some ⟨31,x1,0,none⟩)]⟩ (aG 0 (cZ P (ak UP [] [] []) akq N (sub [1,1,1] (ag fn)) (dJ P fn)))
theorem ajB (N n:Nat) (x0:D) (x1:D) (v5:Bool) (v6:Int):aid Tryz.prog Tryz.f86 N (n+1) x0 x1 v5 v6=
 bif ((decide (v6<((ae (af x1 1)).length:Int)))==true)then
  bif v5 then
   bif (decide (0<=v6)&&decide (v6<((ae (af x1 1)).length:Int)))then
    bif (decide (0<=60)&&decide (60<=1000))then
     aid Tryz.prog Tryz.f86 N n x0 x1 (fewB ((ae (af x1 1)).getD (v6).toNat .nil) 60) (IntKind.wrap .i64 (v6+1))
    else none
   else none
  else some (dat 4 (.lit (.bool v5)))
 else some (dat 4 (.lit (.bool v5))):=by kernel_rfl
theorem t86 (N:Nat) (x0:D) (x1:D):aU Tryz.prog (ak UP [] [] []) akq N Tryz.f86 [dat 24 x0,dat 31 x1]=
 bif ((decide (((ae (af x0 0)).length:Int)<=10))==true)then
  bif ((decide (((ae (af x1 0)).length:Int)<=20))==true)then
   bif ((decide (((ae (af x1 1)).length:Int)<=8))==true)then
    bif ((decide (((ae (af x1 3)).length:Int)<=20))==true)then
     aid Tryz.prog Tryz.f86 N N x0 x1 (decide (((ae (af x1 4)).length:Int)<=20)) 0
    else aid Tryz.prog Tryz.f86 N N x0 x1 false 0
   else aid Tryz.prog Tryz.f86 N N x0 x1 false 0
  else aid Tryz.prog Tryz.f86 N N x0 x1 false 0
 else aid Tryz.prog Tryz.f86 N N x0 x1 false 0:=by kernel_rfl
end X
end
end Go.Proofs.YtpceahbengfjeaaGreatDoor
