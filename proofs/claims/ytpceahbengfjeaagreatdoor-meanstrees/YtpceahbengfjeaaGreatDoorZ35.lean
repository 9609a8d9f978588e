/- Trees of functions, and lemmas. Nothing here is trusted. -/
import Derived.Test.YtpceahbengfjeaaGreatDoorZ32
import Derived.Test.YtpceahbengfjeaaGreatDoorZ16
import Derived.Test.YtpceahbengfjeaaGreatDoorZ09
namespace Go.Proofs.YtpceahbengfjeaaGreatDoor
section
namespace X
open Go.Ev
set_option linter.unusedVariables false
set_option linter.unusedSimpArgs false
abbrev xP:=FuncId×TypeId×(List AV->List Ent->Bool)×(List AV->List Ent->Option (AV×List (Option Ent)))
def acD:List AV:=[dat 61 .nil,dat 3 .nil,bxp OID 3]
def ab4:List Ent:=[⟨3,.nil,0,none⟩]
def adz:List D->List D->Bool:=fun _ es=>decide (0<=intD (es.getD 0 .nil))&&decide (intD (es.getD 0 .nil)<=1000)
def ag8:List D->List D->uN
 | [e,dp,_],[n]=>some (dat 4 (.lit (.bool (rH e (intD dp) (intD n)))),[some ⟨3,fO (intD n+1),0,none⟩])
 |_,_=>none
def acL:xP:=(189,4,fD acD ab4 adz,iZ acD ab4 ag8)
theorem aeK:FnOK Tryz.prog 189 Tryz.f189:=⟨Tryz.func189,rfl,by kernel_rfl⟩
theorem ahb: ∀ args hh r h',acL.2.2.1 args hh=true->acL.2.2.2 args hh=some (r,h')->HCallOK Tryz.prog 189 args hh r h':=
 fV rfl rfl fun ds es r h' hq hg=>by
  match ds,es,hq,hg with
  | [e,dp,y],[n],hq,hg=>
   cases hg
   refine HCallOK.typed aeK.ex fun ht he=>?_
   obtain⟨_,t1⟩:=ht (dat 3 dp) (by simp[fA,acD,dat,bxp]) rfl
   obtain⟨_,t2⟩:=he ⟨3,n,0,none⟩ (by simp[kQ,ab4]) rfl rfl
   obtain⟨z,rfl,hz⟩:=iC t1
   obtain⟨q,rfl,hq2⟩:=iC t2
   have hq':0<=q/\q<=1000:=by simpa [adz,intD]using hq
   have hw:IntKind.wrap .i64 (q+1)=q+1:=wrap_in (by rw[bH];omega)
   refine gZ hm NW aeK ((agw 1 e z q).trans ?_)
   rw[hw]
   show _=some (dat 4 (.lit (.bool (bif decide (q+1<=30)then bif decide (z<=6)then vS e else false else false))),[some (⟨3,.lit (.int .i64 (q+1)),0,none⟩:Ent)])
   generalize decide (q+1<=30)=b1
   generalize decide (z<=6)=b2
   cases b1<;>cases b2<;>rfl
  | [],_,_,hg=>cases hg
  | [_],_,_,hg=>cases hg
  | [_,_],_,_,hg=>cases hg
  |_::_::_::_::_,_,_,hg=>cases hg
  | [_,_,_],[],_,hg=>cases hg
  | [_,_,_],_::_::_,_,hg=>cases hg
def a164:List AV:=[dat 61 .nil,dat 3 .nil,bxp OID 28]
def acS:List Ent:=[⟨28,.nil,0,some (bxp (OID+1) 28)⟩,⟨28,.nil,4,none⟩]
def aeR:List D->List D->Bool:=fun _ es=>decide ((ae (es.getD 1 .nil)).length<=1000)
def ahg:List D->List D->uN
 | [e,dp,_],[_,l]=>some (dat 4 (.lit (.bool true)),[some ⟨28,.nil,0,some (bxp (OID+1) 28)⟩,some ⟨28,.slice (ae l++(bif opI e==1 then [fO (rM e)]else [])) [],1,none⟩])
 |_,_=>none
def abU:xP:=(164,4,fD a164 acS aeR,iZ a164 acS ahg)
theorem Y7:FnOK Tryz.prog 164 Tryz.f164:=⟨Tryz.func164,rfl,by kernel_rfl⟩
theorem CG {P : Program} {f : FuncId} {args : List AV} {h : List Ent} {r : AV} {h' : List (Option Ent)} (hfn : ∃ fn c, P.funcs[f]? = some fn /\ fn.body = some c /\ (fn.name == "runtime.NumGoroutine") = false) {e : Ent} (he : e ∈ h) (h0 : e.row ≠ 0)
  (H:(∃ es,e.d=.slice es [])->HCallOK P f args h r h'):HCallOK P f args h r h':=by
 refine⟨hfn,fun w okA β vs htb hok hH hargs=>?_⟩
 refine(H ?_).call w okA β vs htb hok hH hargs
 obtain⟨k,hk⟩:=List.getElem?_of_mem he
 have hb:bQ h (OID+k)=some e:=by
  unfold bQ
  rw[if_neg (by omega),Nat.add_sub_cancel_left]
  exact hk
 obtain⟨_,_,_,_,h4,_⟩:=hH.row _ e hb h0
 exact h4
theorem c164: ∀ args hh r h',abU.2.2.1 args hh=true->abU.2.2.2 args hh=some (r,h')->HCallOK Tryz.prog 164 args hh r h':=
 fV rfl rfl fun ds es r h' hq hg=>by
  match ds,es,hq,hg with
  | [e,dp,y],[u,l],hq,hg=>
   cases hg
   refine HCallOK.typed Y7.ex fun ht he=>?_
   refine CG Y7.ex (e:=⟨28,l,4,none⟩) (by simp[kQ,acS]) (by simp) ?_
   rintro⟨es,hes⟩
   have hes:l=.slice es []:=hes
   subst hes
   obtain⟨_,t1⟩:=ht (dat 3 dp) (by simp[fA,a164,dat,bxp]) rfl
   obtain⟨z,rfl,hz⟩:=iC t1
   have hq':es.length<=1000:=by simpa [aeR,ae]using hq
   cases hop:(intD (af e 0)==1)with
   |true=>
    have hop':(opI e==1)=true:=hop
    refine gZ hm NW Y7 ((t164 1 e z es).trans ?_)
    have hd:decide ((es).length+1<=2147483648)=true:=by simp;omega
    rw[hop,hd,hop']
    rfl
   |false=>
    have hop':(opI e==1)=false:=hop
    have H:=(gZ hm NW Y7 (args:=[dat 61 e,dat 3 (.lit (.int .i64 z)),bxp OID 28]) (h:=[⟨28,.nil,0,some (bxp (OID+1) 28)⟩,⟨28,.slice es [],4,none⟩]) (r:=dat 4 (.lit (.bool true)))
     (h':=[some ⟨28,.nil,0,some (bxp (OID+1) 28)⟩,some ⟨28,.slice es [],4,none⟩]) ((t164 1 e z es).trans (by rw[hop];rfl))).loose
    have he2:ae (.slice es []:D)++(bif opI e==1 then [fO (rM e)]else [])=es:=by rw[hop'];simp[ae]
    rw[he2]
    exact H
  | [],_,_,hg=>cases hg
  | [_],_,_,hg=>cases hg
  | [_,_],_,_,hg=>cases hg
  |_::_::_::_::_,_,_,hg=>cases hg
  | [_,_,_],[],_,hg=>cases hg
  | [_,_,_],[_],_,hg=>cases hg
  | [_,_,_],_::_::_::_,_,hg=>cases hg
def qc (K:Nat) (deep n:Int):Bool:=decide (1<=K)&&decide (7<deep+(K:Int))&&decide (1<=deep)&&decide (deep<=7)&&decide (0<=n)&&decide (n<=30)
def jE (K:Nat) (e:D) (deep:Int) (es:List D):Bool:=okK K e&&decide (0<=deep)&&decide (deep+(K:Int)<=1000)&&decide (es.length+(kR K e).length<=100)
def uY:List AV:=[dat 61 .nil,dat 3 .nil,bxp OID 147,bxp (OID+1) 147]
def D5:List Ent:=[⟨147,.nil,0,some (clo 147 189 [OID+2])⟩,⟨147,.nil,0,some (clo 147 191 [OID,OID+1])⟩,⟨3,.nil,0,none⟩]
def DX:List Ent:=[⟨147,.nil,0,some (clo 147 164 [OID+2])⟩,⟨147,.nil,0,some (clo 147 191 [OID,OID+1])⟩,⟨28,.nil,0,some (bxp (OID+3) 28)⟩,⟨28,.nil,4,none⟩]
def Ou (K:Nat):List D->List D->Bool:=fun ds es=>qc K (intD (ds.getD 1 .nil)) (intD (es.getD 2 .nil))
def Pq (K:Nat):List D->List D->Bool:=fun ds es=>jE K (ds.getD 0 .nil) (intD (ds.getD 1 .nil)) (ae (es.getD 3 .nil))
def Ya (K:Nat):List D->List D->uN
 | [e,dp,_,_],[_,_,n]=>some (dat 4 (.lit (.bool (dX K e (intD dp) (intD n)).1)),[some ⟨147,.nil,0,some (clo 147 189 [OID+2])⟩,some ⟨147,.nil,0,some (clo 147 191 [OID,OID+1])⟩,some ⟨3,.lit (.int .i64 (dX K e (intD dp) (intD n)).2),0,none⟩])
 |_,_=>none
def Oh (K:Nat):List D->List D->uN
 | [e,dp,_,_],[_,_,_,l]=>some (dat 4 (.lit (.bool true)),[some ⟨147,.nil,0,some (clo 147 164 [OID+2])⟩,some ⟨147,.nil,0,some (clo 147 191 [OID,OID+1])⟩,some ⟨28,.nil,0,some (bxp (OID+3) 28)⟩,some ⟨28,.slice (ae l++kR K e) [],1,none⟩])
 |_,_=>none
def agB (K:Nat):xP:=(191,4,fun args h=>bif h.length==3 then fD uY D5 (Ou K) args h else fD uY DX (Pq K) args h,fun args h=>bif h.length==3 then iZ uY D5 (Ya K) args h else iZ uY DX (Oh K) args h)
def H1:uQ:=[acL,abU]
def H2 (K:Nat):uQ:=agB K::H1
theorem aai:EnvOK Tryz.prog (bT U2 H1):=bJ (bJ NW c164) ahb
end X
end
section
namespace X
open Go.Ev
set_option linter.unusedVariables false
/- roadbook/expr.through$1 -/
def AY:ay:=fun i=>if i=4 then some ([0,2,4,5,6,7,8,9,10,11,12,13,14,18,19,20,21,22,23,24,25,26,27],[1000000,1000001,1000002],[])else none
def uj (P:Program) (fn:Func) (K:Nat) (N n:Nat) (x0:D) (x1:Int) (q:Int) (v17:Int) (b1000002:Int):Option (AV×List (Option Ent)):=aN (preL AY (sub [1,1,0,1,0,0] (ag fn))) (az P (bT U2 (H2 K)) AY N (sub [1,1,0,1,0,0] (ag fn))) n ⟨[dead,dat 3 (.lit (.int .i64 x1)),dead,bxp 1000001 147,dead,dead,dead,dead,dead,dead,dead,dead,dead,dead,dead,dat 29 (af x0 3),dat 3 (.lit (.int .i64 ((ae (af x0 3)).length:Int))),dat 3 (.lit (.int .i64 v17)),dead,dead,dead,dead,dead,dead,dead,dead,dead,dead],aZ [(1000000,some ⟨147,.nil,0,some (clo 147 189 [1000002])⟩),(1000001,some ⟨147,.nil,0,some (clo 147 191 [1000000,1000001])⟩),(1000002,some ⟨3,.lit (.int .i64 b1000002),0,none⟩)]⟩ (aG 0 (cZ P (bT U2 (H2 K)) AY N (sub [1,1,1] (ag fn)) (qA P fn 3)))
theorem Ee (K:Nat) (N n:Nat) (x0:D) (x1:Int) (q:Int) (v17:Int) (b1000002:Int):uj Tryz.prog Tryz.f191 K N (n+1) x0 x1 q v17 b1000002=
 bif decide (v17<((ae (af x0 3)).length:Int))then
  bif (decide (0<=v17)&&decide (v17<((ae (af x0 3)).length:Int)))then
   bif qc K (IntKind.wrap .i64 (x1+1)) b1000002 then
    bif (!((dX K ((ae (af x0 3)).getD (v17).toNat .nil) (IntKind.wrap .i64 (x1+1)) b1000002).1))then
     some (dat 4 (.lit (.bool false)),[some ⟨147,.nil,0,some (clo 147 189 [1000002])⟩,some ⟨147,.nil,0,some (clo 147 191 [1000000,1000001])⟩,some ⟨3,.lit (.int .i64 ((dX K ((ae (af x0 3)).getD (v17).toNat .nil) (IntKind.wrap .i64 (x1+1)) b1000002).2)),0,none⟩])
    else uj Tryz.prog Tryz.f191 K N n x0 x1 q (IntKind.wrap .i64 (v17+1)) ((dX K ((ae (af x0 3)).getD (v17).toNat .nil) (IntKind.wrap .i64 (x1+1)) b1000002).2)
   else none
  else none
 else some (dat 4 (.lit (.bool true)),[some ⟨147,.nil,0,some (clo 147 189 [1000002])⟩,some ⟨147,.nil,0,some (clo 147 191 [1000000,1000001])⟩,some ⟨3,.lit (.int .i64 b1000002),0,none⟩]):=by kernel_rfl
theorem aa8 (K:Nat) (N:Nat) (x0:D) (x1:Int) (q:Int):jP Tryz.prog (bT U2 (H2 K)) AY N Tryz.f191 [dat 61 x0,dat 3 (.lit (.int .i64 x1)),bxp 1000000 147,bxp 1000001 147] [⟨147,.nil,0,some (clo 147 189 [1000002])⟩,⟨147,.nil,0,some (clo 147 191 [1000000,1000001])⟩,⟨3,.lit (.int .i64 q),0,none⟩]=
 bif (decide (0<=q)&&decide (q<=1000))then
  bif (!(rH x0 x1 q))then
   some (dat 4 (.lit (.bool false)),[some ⟨147,.nil,0,some (clo 147 189 [1000002])⟩,some ⟨147,.nil,0,some (clo 147 191 [1000000,1000001])⟩,some ⟨3,.lit (.int .i64 (q+1)),0,none⟩])
  else uj Tryz.prog Tryz.f191 K N N x0 x1 q 0 (q+1)
 else none:=by kernel_rfl
/- roadbook/expr.through$1 -/
def zl:ay:=fun i=>if i=4 then some ([0,2,4,5,6,7,8,9,10,11,12,13,14,18,19,20,21,22,23,24,25,26,27],[1000000,1000001,1000002,1000003],[])else none
def uf (P:Program) (fn:Func) (K:Nat) (N n:Nat) (x0:D) (x1:Int) (es:List D) (v17:Int) (b1000003:List D):Option (AV×List (Option Ent)):=aN (preL zl (sub [1,1,0,1,0,0] (ag fn))) (az P (bT U2 (H2 K)) zl N (sub [1,1,0,1,0,0] (ag fn))) n ⟨[dead,dat 3 (.lit (.int .i64 x1)),dead,bxp 1000001 147,dead,dead,dead,dead,dead,dead,dead,dead,dead,dead,dead,dat 29 (af x0 3),dat 3 (.lit (.int .i64 ((ae (af x0 3)).length:Int))),dat 3 (.lit (.int .i64 v17)),dead,dead,dead,dead,dead,dead,dead,dead,dead,dead],aZ [(1000000,some ⟨147,.nil,0,some (clo 147 164 [1000002])⟩),(1000001,some ⟨147,.nil,0,some (clo 147 191 [1000000,1000001])⟩),(1000002,some ⟨28,.nil,0,some (bxp 1000003 28)⟩),(1000003,some ⟨28,.slice b1000003 [],1,none⟩)]⟩ (aG 0 (cZ P (bT U2 (H2 K)) zl N (sub [1,1,1] (ag fn)) (qA P fn 4)))
theorem Ed (K:Nat) (N n:Nat) (x0:D) (x1:Int) (es:List D) (v17:Int) (b1000003:List D):uf Tryz.prog Tryz.f191 K N (n+1) x0 x1 es v17 b1000003=
 bif decide (v17<((ae (af x0 3)).length:Int))then
  bif (decide (0<=v17)&&decide (v17<((ae (af x0 3)).length:Int)))then
   bif jE K ((ae (af x0 3)).getD (v17).toNat .nil) (IntKind.wrap .i64 (x1+1)) b1000003 then
    uf Tryz.prog Tryz.f191 K N n x0 x1 es (IntKind.wrap .i64 (v17+1)) (b1000003++kR K ((ae (af x0 3)).getD (v17).toNat .nil))
   else none
  else none
 else some (dat 4 (.lit (.bool true)),[some ⟨147,.nil,0,some (clo 147 164 [1000002])⟩,some ⟨147,.nil,0,some (clo 147 191 [1000000,1000001])⟩,some ⟨28,.nil,0,some (bxp 1000003 28)⟩,some ⟨28,.slice b1000003 [],1,none⟩]):=by kernel_rfl
theorem abd (K:Nat) (N:Nat) (x0:D) (x1:Int) (es:List D):jP Tryz.prog (bT U2 (H2 K)) zl N Tryz.f191 [dat 61 x0,dat 3 (.lit (.int .i64 x1)),bxp 1000000 147,bxp 1000001 147] [⟨147,.nil,0,some (clo 147 164 [1000002])⟩,⟨147,.nil,0,some (clo 147 191 [1000000,1000001])⟩,⟨28,.nil,0,some (bxp 1000003 28)⟩,⟨28,.slice es [],4,none⟩]=
 bif decide (es.length<=1000)then
  uf Tryz.prog Tryz.f191 K N N x0 x1 es 0 (es++(bif opI x0==1 then [fO (rM x0)]else []))
 else none:=by kernel_rfl
end X
end
section
namespace X
open Go.Ev
set_option linter.unusedVariables false
set_option linter.unusedSimpArgs false
theorem zM (g:D->Int->Bool×Int) (p:D) (l:List D) (n:Int):goL g (p::l) n=bif (g p n).1 then goL g l (g p n).2 else(false,(g p n).2):=rfl
theorem qH (k:Nat) (e:D) (deep n:Int):dX (k+1) e deep n=bif rH e deep n then goL (fun p m=>dX k p (deep+1) m) (kids e) (n+1)else(false,n+1):=rfl
theorem uF (k:Nat) (e:D):kR (k+1) e=(bif opI e==1 then [fO (rM e)]else [])++(kids e).flatMap (kR k):=rfl
theorem wE (k:Nat) (e:D):okK (k+1) e=(vS e&&(kids e).all (okK k)):=rfl
theorem Jy {g:D->Int->Bool×Int} (hg: ∀ p m,0<=m->m<=30->(g p m).1=true->0<=(g p m).2/\(g p m).2<=30): ∀ (l:List D) (m:Int),0<=m->m<=30->(goL g l m).1=true->0<=(goL g l m).2/\(goL g l m).2<=30
 | [],m,h0,h1,_=>⟨h0,h1⟩
 |p::l,m,h0,h1,h=>by
  rw[zM]at h⊢
  cases hp:(g p m).1 with
  |false=>rw[hp]at h;cases h
  |true=>
   rw[hp,cond_true]at h
   rw[cond_true]
   obtain⟨b0,b1⟩:=hg p m h0 h1 hp
   exact Jy hg l _ b0 b1 h
theorem FK {e:D} {deep n:Int} (h:rH e deep n=true):n+1<=30/\deep<=6/\vS e=true:=by
 unfold rH at h
 by_cases h1:n+1<=30
 ·have d1:decide (n+1<=30)=true:=by simpa using h1
  rw[d1,cond_true]at h
  by_cases h2:deep<=6
  ·have d2:decide (deep<=6)=true:=by simpa using h2
   rw[d2,cond_true]at h
   exact⟨h1,h2,h⟩
  ·have d2:decide (deep<=6)=false:=by simpa using h2
   rw[d2]at h
   cases h
 ·have d1:decide (n+1<=30)=false:=by simpa using h1
  rw[d1]at h
  cases h
theorem tK: ∀ (K:Nat) (e:D) (deep n:Int),0<=n->n<=30->(dX K e deep n).1=true->0<=(dX K e deep n).2/\(dX K e deep n).2<=30
 |0,e,deep,n,h0,h1,h=>by cases h
 |K+1,e,deep,n,h0,h1,h=>by
  rw[qH]at h⊢
  cases hs:rH e deep n with
  |false=>rw[hs]at h;cases h
  |true=>
   rw[hs,cond_true]at h
   rw[cond_true]
   exact Jy (fun p m=>tK K p (deep+1) m) _ _ (by omega) (FK hs).1 h
theorem N8 {K N:Nat} {x0:D} {x1 q:Int} (hl:(kids x0).length<=maxLen) (hx:1<=x1) (hx6:x1<=6) (hK:7<x1+1+(K:Int)): ∀ (n i:Nat) (b:Int),i<=(kids x0).length->(kids x0).length - i<n->0<=b->b<=30->
  uj Tryz.prog Tryz.f191 K N n x0 x1 q (i:Int) b=some (dat 4 (.lit (.bool (goL (fun p m=>dX K p (x1+1) m) ((kids x0).drop i) b).1)),
   [some ⟨147,.nil,0,some (clo 147 189 [1000002])⟩,some ⟨147,.nil,0,some (clo 147 191 [1000000,1000001])⟩,some ⟨3,.lit (.int .i64 (goL (fun p m=>dX K p (x1+1) m) ((kids x0).drop i) b).2),0,none⟩])
 |0,i,b,_,h,_,_=>by omega
 |n+1,i,b,hi,h,h0,h30=>by
  rw[Ee,show ae (af x0 3)=kids x0 from rfl]
  have hw:IntKind.wrap .i64 (x1+1)=x1+1:=wrap_in (by rw[bH];omega)
  have hpre:qc K (x1+1) b=true:=by simp only[qc,Bool.and_eq_true,decide_eq_true_eq];omega
  rw[hw,hpre]
  by_cases hlt:i<(kids x0).length
  ·have h1:decide ((i:Int)<((kids x0).length:Int))=true:=by simpa using hlt
   rw[oh hlt,h1,cond_true,cond_true,cond_true,Int.toNat_natCast,getD_lt hlt,List.drop_eq_getElem_cons hlt,zM]
   cases hb:(dX K (kids x0)[i] (x1+1) b).1 with
   |false=>
    rw[Bool.not_false,cond_true,cond_false]
   |true=>
    obtain⟨b0,b1⟩:=tK K _ _ _ h0 h30 hb
    rw[Bool.not_true,cond_false,cond_true,jD hl hlt]
    exact N8 hl hx hx6 hK n (i+1) _ (by omega) (by omega) b0 b1
  ·have h1:decide ((i:Int)<((kids x0).length:Int))=false:=by simpa using hlt
   have h2:(kids x0).drop i=[]:=List.drop_of_length_le (by omega)
   rw[h1,h2,cond_false]
   rfl
theorem rP {K N:Nat} {x0:D} {x1:Int} {es:List D} (hl:(kids x0).length<=maxLen) (hx:0<=x1) (hx6:x1+1+(K:Int)<=1000) (hok: ∀ p∈kids x0,okK K p=true): ∀ (n i:Nat) (l:List D),i<=(kids x0).length->(kids x0).length - i<n->
  l.length+(((kids x0).drop i).flatMap (kR K)).length<=100->
  uf Tryz.prog Tryz.f191 K N n x0 x1 es (i:Int) l=some (dat 4 (.lit (.bool true)),
   [some ⟨147,.nil,0,some (clo 147 164 [1000002])⟩,some ⟨147,.nil,0,some (clo 147 191 [1000000,1000001])⟩,some ⟨28,.nil,0,some (bxp 1000003 28)⟩,some ⟨28,.slice (l++((kids x0).drop i).flatMap (kR K)) [],1,none⟩])
 |0,i,l,_,h,_=>by omega
 |n+1,i,l,hi,h,hlen=>by
  rw[Ed,show ae (af x0 3)=kids x0 from rfl]
  have hw:IntKind.wrap .i64 (x1+1)=x1+1:=wrap_in (by rw[bH];omega)
  rw[hw]
  by_cases hlt:i<(kids x0).length
  ·have h1:decide ((i:Int)<((kids x0).length:Int))=true:=by simpa using hlt
   rw[List.drop_eq_getElem_cons hlt,List.flatMap_cons,List.length_append]at hlen
   have hpre:jE K (kids x0)[i] (x1+1) l=true:=by
    simp only[jE,Bool.and_eq_true,decide_eq_true_eq]
    exact⟨⟨⟨hok _ (List.getElem_mem hlt),by omega⟩,by omega⟩,by omega⟩
   rw[oh hlt,h1,cond_true,cond_true,Int.toNat_natCast,getD_lt hlt,hpre,cond_true,jD hl hlt,List.drop_eq_getElem_cons hlt,List.flatMap_cons,<-List.append_assoc]
   exact rP hl hx hx6 hok n (i+1) _ (by omega) (by omega) (by rw[List.length_append];omega)
  ·have h1:decide ((i:Int)<((kids x0).length:Int))=false:=by simpa using hlt
   have h2:(kids x0).drop i=[]:=List.drop_of_length_le (by omega)
   rw[h1,h2,cond_false]
   simp
theorem Wp:FnOK Tryz.prog 191 Tryz.f191:=⟨Tryz.func191,rfl,by kernel_rfl⟩
theorem afa (K:Nat) (henv:EnvOK Tryz.prog (bT U2 (H2 K))): ∀ args hh r h',fD uY D5 (Ou (K+1)) args hh=true->iZ uY D5 (Ya (K+1)) args hh=some (r,h')->HCallOK Tryz.prog 191 args hh r h':=
 fV rfl rfl fun ds es r h' hq hg=>by
  match ds,es,hq,hg with
  | [e,dp,y1,y2],[u1,u2,n],hq,hg=>
   cases hg
   refine HCallOK.typed Wp.ex fun ht he=>?_
   obtain⟨_,t0⟩:=ht (dat 61 e) (by simp[fA,uY,dat,bxp]) rfl
   obtain⟨_,t1⟩:=ht (dat 3 dp) (by simp[fA,uY,dat,bxp]) rfl
   obtain⟨_,t2⟩:=he ⟨3,n,0,none⟩ (by simp[kQ,D5]) rfl rfl
   obtain⟨z,rfl,hz⟩:=iC t1
   obtain⟨q,rfl,hq2⟩:=iC t2
   have hpre:qc (K+1) z q=true:=hq
   simp only[qc,Bool.and_eq_true,decide_eq_true_eq]at hpre
   obtain⟨⟨⟨⟨⟨p1,p2⟩,p3⟩,p4⟩,p5⟩,p6⟩:=hpre
   have t0:Ty Tryz.prog _ 61 e:=t0
   obtain⟨hl,_⟩:=zi t0
   refine gZ hm henv Wp ((aa8 K ((kids e).length+1) e z q).trans ?_)
   have hd:(decide (0<=q)&&decide (q<=1000))=true:=by simp only[Bool.and_eq_true,decide_eq_true_eq];omega
   rw[hd,cond_true]
   show _=some (dat 4 (.lit (.bool (dX (K+1) e z q).1)),[some (⟨147,.nil,0,some (clo 147 189 [1000002])⟩:Ent),some ⟨147,.nil,0,some (clo 147 191 [1000000,1000001])⟩,some ⟨3,.lit (.int .i64 (dX (K+1) e z q).2),0,none⟩])
   rw[qH]
   cases hs:rH e z q with
   |false=>rfl
   |true=>
    obtain⟨s1,s2,_⟩:=FK hs
    rw[Bool.not_true,cond_false,cond_true]
    have:=N8 (K:=K) (N:=(kids e).length+1) (q:=q) hl p3 s2 (by omega) ((kids e).length+1) 0 (q+1) (Nat.zero_le _) (by omega) (by omega) s1
    simpa using this
  | [],_,_,hg=>cases hg
  | [_],_,_,hg=>cases hg
  | [_,_],_,_,hg=>cases hg
  | [_,_,_],_,_,hg=>cases hg
  |_::_::_::_::_::_,_,_,hg=>cases hg
  | [_,_,_,_],[],_,hg=>cases hg
  | [_,_,_,_],[_],_,hg=>cases hg
  | [_,_,_,_],[_,_],_,hg=>cases hg
  | [_,_,_,_],_::_::_::_::_,_,hg=>cases hg
theorem UA {K:Nat} {ds es:List D} {r:AV} {h':List (Option Ent)} (hg:Oh K ds es=some (r,h')): ∃ e dp y1 y2 u1 u2 u3 l,ds=[e,dp,y1,y2]/\es=[u1,u2,u3,l]/\r=dat 4 (.lit (.bool true))/\
  h'=[some ⟨147,.nil,0,some (clo 147 164 [OID+2])⟩,some ⟨147,.nil,0,some (clo 147 191 [OID,OID+1])⟩,some ⟨28,.nil,0,some (bxp (OID+3) 28)⟩,some ⟨28,.slice (ae l++kR K e) [],1,none⟩]:=by
 unfold Oh at hg
 split at hg
 ·injection hg with hg
  injection hg with h1 h2
  exact⟨_,_,_,_,_,_,_,_,rfl,rfl,h1.symm,h2.symm⟩
 ·cases hg
theorem adg (K:Nat) (henv:EnvOK Tryz.prog (bT U2 (H2 K))): ∀ args hh r h',fD uY DX (Pq (K+1)) args hh=true->iZ uY DX (Oh (K+1)) args hh=some (r,h')->HCallOK Tryz.prog 191 args hh r h':=
 fV rfl rfl fun ds es r h' hq hg=>by
  obtain⟨e,dp,y1,y2,u1,u2,u3,l,rfl,rfl,rfl,rfl⟩:=UA hg
  refine HCallOK.typed Wp.ex fun ht he=>?_
  refine CG Wp.ex (e:=⟨28,l,4,none⟩) (by simp[kQ,DX]) (by simp) ?_
  rintro⟨es,hes⟩
  have hes:l=.slice es []:=hes
  subst hes
  obtain⟨_,t0⟩:=ht (dat 61 e) (by simp[fA,uY,dat,bxp]) rfl
  obtain⟨_,t1⟩:=ht (dat 3 dp) (by simp[fA,uY,dat,bxp]) rfl
  obtain⟨z,rfl,hz⟩:=iC t1
  have hpre:jE (K+1) e z es=true:=hq
  simp only[jE,Bool.and_eq_true,decide_eq_true_eq,wE,List.all_eq_true]at hpre
  obtain⟨⟨⟨⟨p0,p1⟩,p2⟩,p3⟩,p4⟩:=hpre
  have t0:Ty Tryz.prog _ 61 e:=t0
  obtain⟨hl,_⟩:=zi t0
  refine gZ hm henv Wp ((abd K ((kids e).length+1) e z es).trans ?_)
  rw[uF]at p4
  simp only[List.length_append]at p4
  have hd:decide (es.length<=1000)=true:=by simp only[decide_eq_true_eq];omega
  rw[hd,cond_true]
  show _=some (dat 4 (.lit (.bool true)),[some (⟨147,.nil,0,some (clo 147 164 [1000002])⟩:Ent),some ⟨147,.nil,0,some (clo 147 191 [1000000,1000001])⟩,some ⟨28,.nil,0,some (bxp 1000003 28)⟩,some ⟨28,.slice (es++kR (K+1) e) [],1,none⟩])
  rw[uF,<-List.append_assoc]
  have:=rP (K:=K) (N:=(kids e).length+1) (es:=es) hl p2 (by omega) p1 ((kids e).length+1) 0 (es++(bif opI e==1 then [fO (rM e)]else [])) (Nat.zero_le _) (by omega) (by simp only[List.length_append,List.drop_zero];omega)
  simpa using this
theorem NL: ∀ K:Nat,EnvOK Tryz.prog (bT U2 (H2 K))
 | 0=>bJ aai (fun args hh r h' hp _=>by
   exfalso
   revert hp
   cases (hh.length==3)with
   |true=>
    intro hp
    have hp:fD uY D5 (Ou 0) args hh=true:=hp
    unfold fD at hp
    rw[Bool.and_eq_true]at hp
    have:=hp.2
    simp[Ou,qc]at this
   |false=>
    intro hp
    have hp:fD uY DX (Pq 0) args hh=true:=hp
    unfold fD at hp
    rw[Bool.and_eq_true]at hp
    have:=hp.2
    simp[Pq,jE,okK]at this)
 | K+1=>bJ aai (fun args hh r h' hp hd=>by
   have hp:(bif hh.length==3 then fD uY D5 (Ou (K+1)) args hh else fD uY DX (Pq (K+1)) args hh)=true:=hp
   have hd:(bif hh.length==3 then iZ uY D5 (Ya (K+1)) args hh else iZ uY DX (Oh (K+1)) args hh)=some (r,h'):=hd
   cases hlen:(hh.length==3)with
   |true=>
    rw[hlen,cond_true]at hp hd
    exact afa K (NL K) args hh r h' hp hd
   |false=>
    rw[hlen,cond_false]at hp hd
    exact adg K (NL K) args hh r h' hp hd)
end X
end
section
namespace X
open Go.Ev
set_option linter.unusedVariables false
/- roadbook/expr.through -/
def Vz:ay:=fun _=>none
theorem ab9 (N:Nat) (x0:D) (q:Int):jP Tryz.prog (bT U2 (H2 7)) Vz N Tryz.f163 [dat 61 x0,clo 147 189 [1000000]] [⟨3,.lit (.int .i64 q),0,none⟩]=
 bif qc 7 1 q then
  some (dat 4 (.lit (.bool ((dX 7 x0 1 q).1))),[some ⟨3,.lit (.int .i64 ((dX 7 x0 1 q).2)),0,none⟩])
 else none:=by kernel_rfl
/- roadbook/expr.through -/
def XR:ay:=fun _=>none
theorem acJ (N:Nat) (x0:D) (es:List D):jP Tryz.prog (bT U2 (H2 7)) XR N Tryz.f163 [dat 61 x0,clo 147 164 [1000000]] [⟨28,.nil,0,some (bxp 1000001 28)⟩,⟨28,.slice es [],4,none⟩]=
 bif jE 7 x0 1 es then
  some (dat 4 (.lit (.bool true)),[some ⟨28,.nil,0,some (bxp 1000001 28)⟩,some ⟨28,.slice (es++kR 7 x0) [],1,none⟩])
 else none:=by kernel_rfl
end X
end
section
namespace X
open Go.Ev
set_option linter.unusedVariables false
set_option linter.unusedSimpArgs false
def JH:List AV:=[dat 61 .nil,clo 147 189 [OID]]
def Jf:List AV:=[dat 61 .nil,clo 147 164 [OID]]
def GX:List Ent:=[⟨3,.nil,0,none⟩]
def FO:List Ent:=[⟨28,.nil,0,some (bxp (OID+1) 28)⟩,⟨28,.nil,4,none⟩]
def Xn:List D->List D->Bool:=fun ds es=>qc 7 1 (intD (es.getD 0 .nil))
def Xk:List D->List D->Bool:=fun ds es=>jE 7 (ds.getD 0 .nil) 1 (ae (es.getD 1 .nil))
def Pi:List D->List D->uN
 | [e,_],[n]=>some (dat 4 (.lit (.bool (dX 7 e 1 (intD n)).1)),[some ⟨3,.lit (.int .i64 (dX 7 e 1 (intD n)).2),0,none⟩])
 |_,_=>none
def NR:List D->List D->uN
 | [e,_],[_,l]=>some (dat 4 (.lit (.bool true)),[some ⟨28,.nil,0,some (bxp (OID+1) 28)⟩,some ⟨28,.slice (ae l++kR 7 e) [],1,none⟩])
 |_,_=>none
def ahC:xP:=(163,4,fun args h=>bif h.length==1 then fD JH GX Xn args h else fD Jf FO Xk args h,fun args h=>bif h.length==1 then iZ JH GX Pi args h else iZ Jf FO NR args h)
def H3:uQ:=ahC::H2 7
theorem YS:FnOK Tryz.prog 163 Tryz.f163:=⟨Tryz.func163,rfl,by kernel_rfl⟩
theorem Ud {ds es:List D} {r:AV} {h':List (Option Ent)} (hg:Pi ds es=some (r,h')): ∃ e y n,ds=[e,y]/\es=[n]/\r=dat 4 (.lit (.bool (dX 7 e 1 (intD n)).1))/\
  h'=[some ⟨3,.lit (.int .i64 (dX 7 e 1 (intD n)).2),0,none⟩]:=by
 unfold Pi at hg
 split at hg
 ·injection hg with hg
  injection hg with h1 h2
  exact⟨_,_,_,rfl,rfl,h1.symm,h2.symm⟩
 ·cases hg
theorem UJ {ds es:List D} {r:AV} {h':List (Option Ent)} (hg:NR ds es=some (r,h')): ∃ e y u l,ds=[e,y]/\es=[u,l]/\r=dat 4 (.lit (.bool true))/\
  h'=[some ⟨28,.nil,0,some (bxp (OID+1) 28)⟩,some ⟨28,.slice (ae l++kR 7 e) [],1,none⟩]:=by
 unfold NR at hg
 split at hg
 ·injection hg with hg
  injection hg with h1 h2
  exact⟨_,_,_,_,rfl,rfl,h1.symm,h2.symm⟩
 ·cases hg
theorem adP: ∀ args hh r h',fD JH GX Xn args hh=true->iZ JH GX Pi args hh=some (r,h')->HCallOK Tryz.prog 163 args hh r h':=
 fV rfl rfl fun ds es r h' hq hg=>by
  obtain⟨e,y,n,rfl,rfl,rfl,rfl⟩:=Ud hg
  refine HCallOK.typed YS.ex fun ht he=>?_
  obtain⟨_,t2⟩:=he ⟨3,n,0,none⟩ (by simp[kQ,GX]) rfl rfl
  obtain⟨q,rfl,hq2⟩:=iC t2
  have hpre:qc 7 1 q=true:=hq
  refine gZ hm (NL 7) YS ((ab9 1 e q).trans ?_)
  rw[hpre]
  rfl
theorem afd: ∀ args hh r h',fD Jf FO Xk args hh=true->iZ Jf FO NR args hh=some (r,h')->HCallOK Tryz.prog 163 args hh r h':=
 fV rfl rfl fun ds es r h' hq hg=>by
  obtain⟨e,y,u,l,rfl,rfl,rfl,rfl⟩:=UJ hg
  refine CG YS.ex (e:=⟨28,l,4,none⟩) (by simp[kQ,FO]) (by simp) ?_
  rintro⟨es,hes⟩
  have hes:l=.slice es []:=hes
  subst hes
  have hpre:jE 7 e 1 es=true:=hq
  refine gZ hm (NL 7) YS ((acJ 1 e es).trans ?_)
  rw[hpre]
  rfl
theorem aam:EnvOK Tryz.prog (bT U2 H3):=bJ (NL 7) (fun args hh r h' hp hd=>by
   have hp:(bif hh.length==1 then fD JH GX Xn args hh else fD Jf FO Xk args hh)=true:=hp
   have hd:(bif hh.length==1 then iZ JH GX Pi args hh else iZ Jf FO NR args hh)=some (r,h'):=hd
   cases hlen:(hh.length==1)with
   |true=>
    rw[hlen,cond_true]at hp hd
    exact adP args hh r h' hp hd
   |false=>
    rw[hlen,cond_false]at hp hd
    exact afd args hh r h' hp hd)
def aeh:List AV:=[bxp OID 28]
def Uh (args:List AV) (h:List Ent):Bool:=allA aeh args&&(match h with| [e]=>e.ty==28&&e.c.isNone&&(e.row==3||e.row==4)|_=>false)
def acK:xP:=(165,0,fun args h=>Uh args h&&decide ((ae (h.getD 0 ⟨0,.nil,0,none⟩).d).length<=1000000),fun args h=>match h with| [e]=>some (aL [] (.agg []),[some ⟨28,.slice (lT (ae e.d)) [],e.row,none⟩])|_=>none)
def abY:xP:=(166,28,fun args h=>Uh args h,fun args h=>match h with| [e]=>some (bxp OID 28,[some ⟨28,.slice (jc (ae e.d)) [],if e.row==3 then 2 else 1,none⟩])|_=>none)
theorem agn:FnOK Tryz.prog 165 Tryz.f165:=⟨Tryz.func165,rfl,by kernel_rfl⟩
theorem ahy:FnOK Tryz.prog 166 Tryz.f166:=⟨Tryz.func166,rfl,by kernel_rfl⟩
theorem cells27:Tryz.prog.cellsOf 28=1:=by kernel_rfl
theorem cells3:Tryz.prog.cellsOf 3=1:=by kernel_rfl
theorem OI {args:List AV} {h:List Ent} (hq:Uh args h=true):args=[bxp OID 28]/\ ∃ e:Ent,h=[e]/\e.ty=28/\e.c=none/\(e.row=3\/e.row=4):=by
 unfold Uh at hq
 rw[Bool.and_eq_true]at hq
 refine⟨?_,?_⟩
 ·have ha:=EF hq.1 (fun t ht _=>by
   rcases List.mem_singleton.1 ht with rfl
   rfl)
  have hl:args.length=1:=by
   have h1:=hq.1
   match args,h1 with
   | [],h1=>cases h1
   | [_],_=>rfl
   |_::_::_,h1=>simp[allA,aeh]at h1
  match args,hl with
  | [x],_=>exact ha
 ·match h,hq.2 with
  | [e],h2=>
   simp only[Bool.and_eq_true,beq_iff_eq,Bool.or_eq_true,Option.isNone_iff_eq_none]at h2
   exact⟨e,rfl,h2.1.1,h2.1.2,h2.2⟩
theorem afk: ∀ args hh r h',acK.2.2.1 args hh=true->acK.2.2.2 args hh=some (r,h')->HCallOK Tryz.prog 165 args hh r h':=by
 intro args hh r h' hp hd
 have hp:(Uh args hh&&decide ((ae (hh.getD 0 ⟨0,.nil,0,none⟩).d).length<=1000000))=true:=hp
 rw[Bool.and_eq_true]at hp
 obtain⟨rfl,e,rfl,h1,h2,h3⟩:=OI hp.1
 have hlen:(ae e.d).length<=1000000:=by
  have:=hp.2
  simpa using this
 have hd:some (aL [] (.agg []),[some (⟨28,.slice (lT (ae e.d)) [],e.row,none⟩:Ent)])=some (r,h'):=hd
 rw[Option.some.injEq,Prod.mk.injEq]at hd
 rw[<-hd.1,<-hd.2]
 exact ZI agn.ex (fun blk off cap zs w a b c=>Tryz.slices_Sort_int blk off cap zs w a b c) (fun p cap w=>Tryz.slices_Sort_int_none p cap w) u27 cells27 u3 cells3 h1 h2 h3 hlen
theorem agI: ∀ args hh r h',abY.2.2.1 args hh=true->abY.2.2.2 args hh=some (r,h')->HCallOK Tryz.prog 166 args hh r h':=by
 intro args hh r h' hp hd
 have hp:Uh args hh=true:=hp
 obtain⟨rfl,e,rfl,h1,h2,h3⟩:=OI hp
 have hd:some (bxp OID 28,[some (⟨28,.slice (jc (ae e.d)) [],if e.row==3 then 2 else 1,none⟩:Ent)])=some (r,h'):=hd
 rw[Option.some.injEq,Prod.mk.injEq]at hd
 rw[<-hd.1,<-hd.2]
 exact QH ahy.ex (fun blk off cap zs w a b c=>Tryz.slices_Compact_int blk off cap zs w a b c) (fun p cap w=>Tryz.slices_Compact_int_empty p cap w) u27 cells27 u3 cells3 h1 h2 h3
def H4:uQ:=abY::acK::H3
theorem O8:EnvOK Tryz.prog (bT U2 H4):=bJ (bJ aam afk) agI
def e162:FuncId×TypeId×(List AV->Bool)×(List AV->Option D):=(162,4,yes,ent [61] (f1 fun x=>some (.lit (.bool (BB x)))))
def U3:Tab:=e162::U2
end X
end
section
namespace X
open Go.Ev
set_option linter.unusedVariables false
/- roadbook/expr.May -/
def aa2:ay:=fun _=>none
theorem t162 (N:Nat) (x0:D):aU Tryz.prog (bT U2 H3) aa2 N Tryz.f162 [dat 61 x0]=
 bif qc 7 1 0 then
  some (dat 4 (.lit (.bool ((dX 7 x0 1 0).1))))
 else none:=by kernel_rfl
/- roadbook/expr.Cols -/
def abN:ay:=fun _=>none
theorem afy (N:Nat) (x0:D):aU Tryz.prog (bT U3 H4) abN N Tryz.f129 [dat 61 x0]=
 bif (!(BB x0))then
  some (dat 28 (.slice [] []))
 else bif jE 7 x0 1 []then
   bif decide (([]++kR 7 x0).length<=1000000)then
    some (dat 28 (.slice (jc (lT ([]++kR 7 x0))) []))
   else none
  else none:=by kernel_rfl
end X
end
section
namespace X
open Go.Ev
set_option linter.unusedVariables false
set_option linter.unusedSimpArgs false
theorem aeM:FnOK Tryz.prog 162 Tryz.f162:=⟨Tryz.func162,rfl,by kernel_rfl⟩
theorem c162: ∀ args d,e162.2.2.2 args=some d->CallOK Tryz.prog 162 args (aj Tryz.prog 4 d):=
 mY aeM fun x d h _=>by
  cases h
  rw[n26]
  refine aI hm aam aeM ((t162 1 x).trans ?_)
  rw[m4]
  rfl
theorem adl:EnvOK Tryz.prog (bT U3 []):=ah NW c162
theorem ZE:EnvOK Tryz.prog (bT U3 H4):=ah O8 c162
theorem Jp {g:D->Int->Bool×Int} {c:D->List D} (hg: ∀ p m,(g p m).1=true->m+((c p).length:Int)<=(g p m).2): ∀ (l:List D) (m:Int),(goL g l m).1=true->m+((l.flatMap c).length:Int)<=(goL g l m).2
 | [],m,_=>by simp[goL]
 |p::l,m,h=>by
  rw[zM]at h⊢
  cases hp:(g p m).1 with
  |false=>rw[hp]at h;cases h
  |true=>
   rw[hp,cond_true]at h
   rw[cond_true,List.flatMap_cons,List.length_append]
   have h1:=hg p m hp
   have h2:=Jp hg l _ h
   omega
theorem SK {g:D->Int->Bool×Int} : ∀ (l:List D) (m:Int),(goL g l m).1=true-> ∀ p∈l,∃ k,(g p k).1=true
 | [],m,_=>by simp
 |p::l,m,h=>by
  rw[zM]at h
  cases hp:(g p m).1 with
  |false=>rw[hp]at h;cases h
  |true=>
   rw[hp,cond_true]at h
   intro q hq
   rcases List.mem_cons.1 hq with rfl|hq
   ·exact⟨m,hp⟩
   ·exact SK l _ h q hq
theorem Jk: ∀ (K:Nat) (e:D) (deep n:Int),(dX K e deep n).1=true->okK K e=true
 |0,e,deep,n,h=>by cases h
 |K+1,e,deep,n,h=>by
  rw[qH]at h
  cases hs:rH e deep n with
  |false=>rw[hs]at h;cases h
  |true=>
   rw[hs,cond_true]at h
   rw[wE,(FK hs).2.2,Bool.true_and,List.all_eq_true]
   intro p hp
   obtain⟨k,hk⟩:=SK _ _ h p hp
   exact Jk K p _ k hk
theorem Ah: ∀ (K:Nat) (e:D) (deep n:Int),(dX K e deep n).1=true->n+((kR K e).length:Int)<=(dX K e deep n).2
 |0,e,deep,n,h=>by cases h
 |K+1,e,deep,n,h=>by
  rw[qH]at h⊢
  cases hs:rH e deep n with
  |false=>rw[hs]at h;cases h
  |true=>
   rw[hs,cond_true]at h
   rw[cond_true,uF,List.length_append]
   have h1:=Jp (c:=kR K) (fun p m=>Ah K p (deep+1) m) _ _ h
   have h2:(bif opI e==1 then [fO (rM e)]else []).length<=1:=by cases (opI e==1)<;>simp
   omega
theorem LC {e:D} (h:BB e=true):okK 7 e=true:=Jk 7 e 1 0 h
theorem Kq {e:D} (h:BB e=true):(kR 7 e).length<=30:=by
 have h1:=Ah 7 e 1 0 h
 have h2:=tK 7 e 1 0 (by omega) (by omega) h
 omega
theorem XX {e:D} (h:BB e=true):jE 7 e 1 []=true:=by
 simp only[jE,Bool.and_eq_true,decide_eq_true_eq]
 have:=Kq h
 exact⟨⟨⟨LC h,by omega⟩,by omega⟩,by simp;omega⟩
def e129:FuncId×TypeId×(List AV->Bool)×(List AV->Option D):=(129,28,yes,ent [61] (f1 fun x=>some (.slice (mg x) [])))
theorem adK:FnOK Tryz.prog 129 Tryz.f129:=⟨Tryz.func129,rfl,by kernel_rfl⟩
theorem c129: ∀ args d,e129.2.2.2 args=some d->CallOK Tryz.prog 129 args (aj Tryz.prog 28 d):=
 mY adK fun x d h _=>by
  cases h
  rw[n26]
  refine aI hm ZE adK ((afy 1 x).trans ?_)
  rw[m27]
  unfold mg
  cases hmay:BB x with
  |false=>rfl
  |true=>
   have hl:=Kq hmay
   have hd:decide (([]++kR 7 x).length<=1000000)=true:=by simp;omega
   rw[XX hmay,hd]
   rfl
def U4:Tab:=e129::U3
theorem Xz:EnvOK Tryz.prog (bT U4 []):=ah adl c129
def Vr:List AV:=[dat 61 .nil,bxp OID 28,bxp (OID+1) 67,bxp (OID+2) 177]
def VA:List Ent:=[⟨28,.nil,0,none⟩,⟨67,.nil,0,none⟩,⟨177,.nil,0,some (clo 177 185 [OID,OID+1,OID+2])⟩]
def Y5 (K:Nat):List D->List D->Bool:=fun ds es=>okK K (ds.getD 0 .nil)
def YF (K:Nat):List D->List D->uN
 | [e,_,_,_],[c,r,_]=>some (dat 59 (oD (ae c) (ae r) K e),[some ⟨28,c,0,none⟩,some ⟨67,r,0,none⟩,some ⟨177,.nil,0,some (clo 177 185 [OID,OID+1,OID+2])⟩])
 |_,_=>none
def agS (K:Nat):xP:=(185,59,fD Vr VA (Y5 K),iZ Vr VA (YF K))
def H5 (K:Nat):uQ:=[agS K]
theorem XM {K:Nat} {ds es:List D} {r:AV} {h':List (Option Ent)} (hg:YF K ds es=some (r,h')): ∃ e y1 y2 y3 c v u,ds=[e,y1,y2,y3]/\es=[c,v,u]/\r=dat 59 (oD (ae c) (ae v) K e)/\
  h'=[some ⟨28,c,0,none⟩,some ⟨67,v,0,none⟩,some ⟨177,.nil,0,some (clo 177 185 [OID,OID+1,OID+2])⟩]:=by
 unfold YF at hg
 split at hg
 ·injection hg with hg
  injection hg with h1 h2
  exact⟨_,_,_,_,_,_,_,rfl,rfl,h1.symm,h2.symm⟩
 ·cases hg
end X
end
section
namespace X
open Go.Ev
set_option linter.unusedVariables false
/- roadbook/expr.Eval$1 -/
def KR:ay:=fun i=>if i=8 then some ([0,1,2,7,8,9,10,11,12,13,14,15,16,17,18,19,20,21,22,23,24,25,26,30,31,32,33,34,35,36,37,38,39,40,41,42,43,44,45],[4,5,25,1000000,1000001,1000002],[])else none
def AO (P:Program) (fn:Func) (K:Nat) (N n:Nat) (x0:D) (cols:D) (row:D) (v29:Int) (b25:List D):Option (AV×List (Option Ent)):=aN (preL KR (sub [1,1,1,0,1,0,0] (ag fn))) (az P (bT U4 (H5 K)) KR N (sub [1,1,1,0,1,0,0] (ag fn))) n ⟨[dead,dead,dead,bxp 1000002 177,bxp 4 61,bxp 5 59,bxp 25 67,dead,dead,dead,dead,dead,dead,dead,dead,dead,dead,dead,dead,dead,dead,dead,dead,dead,dead,dead,dead,dat 29 (af x0 3),dat 3 (.lit (.int .i64 ((ae (af x0 3)).length:Int))),dat 3 (.lit (.int .i64 v29)),dead,dead,dead,dead,dead,dead,dead,dead,dead,dead,dead,dead,dead,dead,dead,dead],aZ [(4,some ⟨61,x0,0,none⟩),(5,some ⟨59,.agg [.lit (.int .i64 0),.lit (.int .i64 0)],0,none⟩),(25,some ⟨67,.slice b25 [],2,none⟩),(1000000,some ⟨28,cols,0,none⟩),(1000001,some ⟨67,row,0,none⟩),(1000002,some ⟨177,.nil,0,some (clo 177 185 [1000000,1000001,1000002])⟩)]⟩ (aG 1 (cZ P (bT U4 (H5 K)) KR N (sub [1,1,1,1] (ag fn)) (qA P fn 3)))
theorem IG (K:Nat) (N n:Nat) (x0:D) (cols:D) (row:D) (v29:Int) (b25:List D):AO Tryz.prog Tryz.f185 K N (n+1) x0 cols row v29 b25=
 bif decide (v29<((ae (af x0 3)).length:Int))then
  bif (decide (0<=v29)&&decide (v29<((ae (af x0 3)).length:Int)))then
   bif okK K ((ae (af x0 3)).getD (v29).toNat .nil)then
    bif (decide (0<=v29)&&decide (v29<(b25.length:Int)))then
     AO Tryz.prog Tryz.f185 K N n x0 cols row (IntKind.wrap .i64 (v29+1)) (b25.set (v29).toNat (oD (ae cols) (ae row) K ((ae (af x0 3)).getD (v29).toNat .nil)))
    else none
   else none
  else none
 else bif (decide (0<=(intD (af x0 0)))&&decide ((intD (af x0 0))<11))then
   bif xY (nV (intD (af x0 0))) (.slice b25 [])then
    some (dat 59 (Gh (nV (intD (af x0 0))) (.slice b25 [])),[some ⟨28,cols,0,none⟩,some ⟨67,row,0,none⟩,some ⟨177,.nil,0,some (clo 177 185 [1000000,1000001,1000002])⟩])
   else none
  else none:=by kernel_rfl
theorem afx (K:Nat) (N:Nat) (x0:D) (cols:D) (row:D):jP Tryz.prog (bT U4 (H5 K)) KR N Tryz.f185 [dat 61 x0,bxp 1000000 28,bxp 1000001 67,bxp 1000002 177] [⟨28,cols,0,none⟩,⟨67,row,0,none⟩,⟨177,.nil,0,some (clo 177 185 [1000000,1000001,1000002])⟩]=
 bif ((intD (af x0 0))==0)then
  some (dat 59 (af x0 2),[some ⟨28,cols,0,none⟩,some ⟨67,row,0,none⟩,some ⟨177,.nil,0,some (clo 177 185 [1000000,1000001,1000002])⟩])
 else bif ((intD (af x0 0))==1)then
   some (dat 59 (atD (intD (af x0 1)) (ae cols) (ae row)),[some ⟨28,cols,0,none⟩,some ⟨67,row,0,none⟩,some ⟨177,.nil,0,some (clo 177 185 [1000000,1000001,1000002])⟩])
  else bif (decide (0<=((ae (af x0 3)).length:Int))&&decide (((ae (af x0 3)).length:Int)<=2147483648))then
    AO Tryz.prog Tryz.f185 K N N x0 cols row 0 (List.replicate (((ae (af x0 3)).length:Int)).toNat (.agg [.lit (.int .i64 0),.lit (.int .i64 0)]:D))
   else none:=by kernel_rfl
end X
end
section
namespace X
open Go.Ev
set_option linter.unusedVariables false
set_option linter.unusedSimpArgs false
theorem KZ {α β:Type} (F:α->β) {ks:List α} {tl:List β} {i:Nat} (h:i<ks.length) (ht:tl.length=ks.length - i):
  ((ks.take i).map F++tl).set i (F ks[i])=(ks.take (i+1)).map F++tl.drop 1:=by
 cases tl with
 |nil=>simp at ht;omega
 |cons b tl=>
  rw[List.set_append_right _ _ (by simp;omega)]
  have:i - ((ks.take i).map F).length=0:=by simp;omega
  rw[this,List.take_succ_eq_append_getElem h,List.map_append]
  simp
theorem Jw {K N:Nat} {x0 cols row:D} (hl:(kids x0).length<=maxLen) (h2:2<=opI x0) (h11:opI x0<11) (htk:vG (opI x0) ((kids x0).length:Int)=true) (hok: ∀ p∈kids x0,okK K p=true): ∀ (n i:Nat) (tl:List D),i<=(kids x0).length->(kids x0).length - i<n->tl.length=(kids x0).length - i->
  AO Tryz.prog Tryz.f185 K N n x0 cols row (i:Int) (((kids x0).take i).map (oD (ae cols) (ae row) K)++tl)=some (dat 59 (opV (opI x0) ((kids x0).map (oD (ae cols) (ae row) K))),
   [some ⟨28,cols,0,none⟩,some ⟨67,row,0,none⟩,some ⟨177,.nil,0,some (clo 177 185 [1000000,1000001,1000002])⟩])
 |0,i,tl,_,h,_=>by omega
 |n+1,i,tl,hi,h,htl=>by
  rw[IG,show ae (af x0 3)=kids x0 from rfl,show intD (af x0 0)=opI x0 from rfl]
  by_cases hlt:i<(kids x0).length
  ·have h1:decide ((i:Int)<((kids x0).length:Int))=true:=by simpa using hlt
   have hlen:(((kids x0).take i).map (oD (ae cols) (ae row) K)++tl).length=(kids x0).length:=by simp;omega
   rw[hlen,oh hlt,h1,cond_true,cond_true,Int.toNat_natCast,getD_lt hlt,hok _ (List.getElem_mem hlt),cond_true,cond_true,jD hl hlt,KZ _ hlt htl]
   exact Jw hl h2 h11 htk hok n (i+1) (tl.drop 1) (by omega) (by omega) (by simp;omega)
  ·have h1:decide ((i:Int)<((kids x0).length:Int))=false:=by simpa using hlt
   have hi2:i=(kids x0).length:=by omega
   have htl0:tl=[]:=List.length_eq_zero_iff.1 (by omega)
   have d1:(decide (0<=opI x0)&&decide (opI x0<11))=true:=by simp only[Bool.and_eq_true,decide_eq_true_eq];omega
   subst htl0
   rw[h1,cond_false,hi2,List.take_length,List.append_nil,d1,cond_true]
   obtain⟨o1,o2⟩:=Zf h2 h11
   have hcome:xY (nV (opI x0)) (.slice ((kids x0).map (oD (ae cols) (ae row) K)) [])=true:=by
    unfold xY
    rw[o2,Fq (by omega) h11]
    show(true&&vG (opI x0) (((kids x0).map (oD (ae cols) (ae row) K)).length:Int))=true
    rw[List.length_map,htk]
    rfl
   have hcd:Gh (nV (opI x0)) (.slice ((kids x0).map (oD (ae cols) (ae row) K)) [])=opV (opI x0) ((kids x0).map (oD (ae cols) (ae row) K)):=by
    unfold Gh
    rw[o1]
    rfl
   rw[hcome,cond_true,hcd]
theorem UW {op n:Int} (h:vG op n=true):n<=4:=by
 unfold vG at h
 cases h1:(op==10)with
 |true=>rw[h1,cond_true,beq_iff_eq]at h;omega
 |false=>
  cases h2:(op==0||op==1)with
  |true=>rw[h1,h2,cond_false,cond_true,beq_iff_eq]at h;omega
  |false=>
   cases h3:(op==8||op==9)with
   |true=>rw[h1,h2,h3,cond_false,cond_false,cond_true,decide_eq_true_eq]at h;omega
   |false=>rw[h1,h2,h3,cond_false,cond_false,cond_false,beq_iff_eq]at h;omega
theorem Qa (cols row:List D) (k:Nat) (e:D):oD cols row (k+1) e=bif opI e==0 then af e 2 else bif opI e==1 then atD (rM e) cols row else opV (opI e) ((kids e).map (oD cols row k)):=rfl
theorem ae2:FnOK Tryz.prog 185 Tryz.f185:=⟨Tryz.func185,rfl,by kernel_rfl⟩
theorem af0 (K:Nat) (henv:EnvOK Tryz.prog (bT U4 (H5 K))): ∀ args hh r h',fD Vr VA (Y5 (K+1)) args hh=true->iZ Vr VA (YF (K+1)) args hh=some (r,h')->HCallOK Tryz.prog 185 args hh r h':=
 fV rfl rfl fun ds es r h' hq hg=>by
  obtain⟨e,y1,y2,y3,c,v,u,rfl,rfl,rfl,rfl⟩:=XM hg
  refine HCallOK.typed ae2.ex fun ht he=>?_
  obtain⟨_,t0⟩:=ht (dat 61 e) (by simp[fA,Vr,dat,bxp]) rfl
  have t0:Ty Tryz.prog _ 61 e:=t0
  obtain⟨hl,_⟩:=zi t0
  have hpre:okK (K+1) e=true:=hq
  simp only[wE,Bool.and_eq_true,List.all_eq_true]at hpre
  obtain⟨hfit,hall⟩:=hpre
  obtain⟨f0,f1,_,_,_,f2⟩:=Tt hfit
  refine gZ hm henv ae2 ((afx K ((kids e).length+1) e c v).trans ?_)
  show _=some (dat 59 (oD (ae c) (ae v) (K+1) e),[some (⟨28,c,0,none⟩:Ent),some ⟨67,v,0,none⟩,some ⟨177,.nil,0,some (clo 177 185 [1000000,1000001,1000002])⟩])
  rw[Qa,show ae (af e 3)=kids e from rfl,show intD (af e 0)=opI e from rfl,show intD (af e 1)=rM e from rfl]
  cases h0:(opI e==0)with
  |true=>rfl
  |false=>
   rw[cond_false,cond_false]
   cases h1:(opI e==1)with
   |true=>rfl
   |false=>
    rw[cond_false,cond_false]
    have h0':opI e≠0:=by simpa using h0
    have h1':opI e≠1:=by simpa using h1
    have hd:(decide (0<=((kids e).length:Int))&&decide (((kids e).length:Int)<=2147483648))=true:=by
     simp only[Bool.and_eq_true,decide_eq_true_eq]
     have:=UW f2
     omega
    rw[hd,cond_true,Int.toNat_natCast]
    have:=Jw (K:=K) (N:=(kids e).length+1) (cols:=c) (row:=v) hl (by omega) f1 f2 hall ((kids e).length+1) 0 (List.replicate (kids e).length (.agg [.lit (.int .i64 0),.lit (.int .i64 0)])) (Nat.zero_le _) (by omega) (by simp)
    simpa using this
theorem Nh: ∀ K:Nat,EnvOK Tryz.prog (bT U4 (H5 K))
 | 0=>bJ Xz (fun args hh r h' hp _=>by
   exfalso
   have hp:fD Vr VA (Y5 0) args hh=true:=hp
   unfold fD at hp
   rw[Bool.and_eq_true]at hp
   have:=hp.2
   simp[Y5,okK]at this)
 |K+1=>bJ Xz (fun args hh r h' hp hd=>af0 K (Nh K) args hh r h' hp hd)
def e161:FuncId×TypeId×(List AV->Bool)×(List AV->Option D):=(161,59,yes,ent [61,28,67] (f3 fun x y z=>some (Rh x (ae y) (ae z))))
def U5:Tab:=e161::U4
end X
end
section
namespace X
open Go.Ev
set_option linter.unusedVariables false
/- roadbook/expr.Eval -/
def acg:ay:=fun _=>none
theorem ag3 (N:Nat) (x0:D) (x1:D) (x2:D):aU Tryz.prog (bT U4 (H5 7)) acg N Tryz.f161 [dat 61 x0,dat 28 x1,dat 67 x2]=
 bif (!(BB x0))then
  some (dat 59 (.agg [.lit (.int .i64 2),.lit (.int .i64 0)]))
 else bif okK 7 x0 then
   some (dat 59 (oD (ae x1) (ae x2) 7 x0))
  else none:=by kernel_rfl
/- roadbook/expr.Keeps -/
def abC:ay:=fun _=>none
theorem ahz (N:Nat) (x0:D) (x1:D) (x2:D):aU Tryz.prog (bT U5 []) abC N Tryz.f126 [dat 61 x0,dat 28 x1,dat 67 x2]=
 some (dat 4 (.lit (.bool (sS (Rh x0 (ae x1) (ae x2)))))):=by kernel_rfl
end X
end
section
namespace X
open Go.Ev
set_option linter.unusedVariables false
set_option linter.unusedSimpArgs false
theorem aeN:FnOK Tryz.prog 161 Tryz.f161:=⟨Tryz.func161,rfl,by kernel_rfl⟩
theorem age: ∀ args d,e161.2.2.2 args=some d->CallOK Tryz.prog 161 args (aj Tryz.prog 59 d):=
 O7 aeN fun x y z d h _ _ _=>by
  cases h
  rw[n26,n27,n28]
  refine aI hm (Nh 7) aeN ((ag3 1 x y z).trans ?_)
  rw[m23]
  unfold Rh
  cases hmay:BB x with
  |false=>rfl
  |true=>
   rw[LC hmay]
   rfl
theorem aav:EnvOK Tryz.prog (bT U5 []):=ah Xz age
def e126:FuncId×TypeId×(List AV->Bool)×(List AV->Option D):=(126,4,yes,ent [61,28,67] (f3 fun x y z=>some (.lit (.bool (BF x (ae y) (ae z))))))
theorem acW:FnOK Tryz.prog 126 Tryz.f126:=⟨Tryz.func126,rfl,by kernel_rfl⟩
theorem c126: ∀ args d,e126.2.2.2 args=some d->CallOK Tryz.prog 126 args (aj Tryz.prog 4 d):=
 O7 acW fun x y z d h _ _ _=>by
  cases h
  rw[n26,n27,n28]
  refine aI hm aav acW ((ahz 1 x y z).trans ?_)
  rw[m4]
  rfl
def U6:Tab:=e126::U5
theorem V9:EnvOK Tryz.prog (bT U6 []):=ah aav c126
def e168 (K:Nat):FuncId×TypeId×(List AV->Bool)×(List AV->Option D):=(168,3,fun xs=>decide (0<=intD (xs.getD 1 dead).d)&&decide (intD (xs.getD 1 dead).d<(K:Int))&&decide (K<=1001),ent [61,3] (f2 fun x y=>some (.lit (.int .i64 (Ai K x (intD y))))))
def aeI (K:Nat):FuncId×TypeId×(List AV->Bool)×(List AV->Option D):=(174,4,fun xs=>okK K (xs.getD 0 dead).d,ent [61,3] (f2 fun x y=>some (.lit (.bool (hasK K x (intD y))))))
def U7 (K:Nat):Tab:=aeI K::e168 K::U6
end X
end
section
namespace X
open Go.Ev
set_option linter.unusedVariables false
/- roadbook/roadbookref02.size -/
def MH:ay:=fun i=>if i=3 then some ([0,3,4,7,8,9,10,11,12,13,14,15,16,17,18,19,20,21,22,23,24,25,26,27,28,29,30],[2],[])else none
def zW (P:Program) (fn:Func) (K:Nat) (N n:Nat) (x0:D) (x1:Int) (v5:Int) (v6:Int):Option AV:=aN (preL MH (sub [1,1,0,1,0,0] (ag fn))) (az P (bT (U7 K) []) MH N (sub [1,1,0,1,0,0] (ag fn))) n ⟨[dead,dat 3 (.lit (.int .i64 x1)),bxp 2 61,dead,dead,dat 3 (.lit (.int .i64 v5)),dat 3 (.lit (.int .i64 v6)),dead,dead,dead,dead,dead,dead,dead,dead,dead,dead,dead,dead,dead,dead,dead,dead,dead,dead,dead,dead,dead,dead,dead,dead],aZ [(2,some ⟨61,x0,0,none⟩)]⟩ (aG 0 (cZ P (bT (U7 K) []) MH N (sub [1,1,1] (ag fn)) (dJ P fn)))
theorem II (K:Nat) (N n:Nat) (x0:D) (x1:Int) (v5:Int) (v6:Int):zW Tryz.prog Tryz.f168 K N (n+1) x0 x1 v5 v6=
 bif ((decide (v6<((ae (af x0 3)).length:Int)))==true)then
  bif decide (v5<=x1)then
   bif (decide (0<=v6)&&decide (v6<((ae (af x0 3)).length:Int)))then
    bif (decide (0<=(IntKind.wrap .i64 (x1 - v5)))&&decide ((IntKind.wrap .i64 (x1 - v5))<(K:Int))&&decide (K<=1001))then
     zW Tryz.prog Tryz.f168 K N n x0 x1 (IntKind.wrap .i64 (v5+(Ai K ((ae (af x0 3)).getD (v6).toNat .nil) (IntKind.wrap .i64 (x1 - v5))))) (IntKind.wrap .i64 (v6+1))
    else none
   else none
  else some (dat 3 (.lit (.int .i64 v5)))
 else some (dat 3 (.lit (.int .i64 v5))):=by kernel_rfl
theorem t168 (K:Nat) (N:Nat) (x0:D) (x1:Int):aU Tryz.prog (bT (U7 K) []) MH N Tryz.f168 [dat 61 x0,dat 3 (.lit (.int .i64 x1))]=
 zW Tryz.prog Tryz.f168 K N N x0 x1 1 0:=by kernel_rfl
/- roadbook/roadbookref02.Has -/
def MM:ay:=fun i=>if i=4 then some ([0,3,4,6,7,8,9,10,11,12,13,14,15,16,17,18,19,20,21,22,23,24,25,26,27,28,29,30],[2],[])else none
def rV (P:Program) (fn:Func) (K:Nat) (N n:Nat) (x0:D) (x1:Int) (v5:Int):Option AV:=aN (preL MM (sub [1,1,0,1,0,0] (ag fn))) (az P (bT (U7 K) []) MM N (sub [1,1,0,1,0,0] (ag fn))) n ⟨[dead,dat 3 (.lit (.int .i64 x1)),bxp 2 61,dead,dead,dat 3 (.lit (.int .i64 v5)),dead,dead,dead,dead,dead,dead,dead,dead,dead,dead,dead,dead,dead,dead,dead,dead,dead,dead,dead,dead,dead,dead,dead,dead,dead],aZ [(2,some ⟨61,x0,0,none⟩)]⟩ (aG 0 (cZ P (bT (U7 K) []) MM N (sub [1,1,1] (ag fn)) (dJ P fn)))
theorem Ig (K:Nat) (N n:Nat) (x0:D) (x1:Int) (v5:Int):rV Tryz.prog Tryz.f174 K N (n+1) x0 x1 v5=
 bif decide (v5<((ae (af x0 3)).length:Int))then
  bif (decide (0<=v5)&&decide (v5<((ae (af x0 3)).length:Int)))then
   bif okK K ((ae (af x0 3)).getD (v5).toNat .nil)then
    bif hasK K ((ae (af x0 3)).getD (v5).toNat .nil) x1 then
     some (dat 4 (.lit (.bool true)))
    else rV Tryz.prog Tryz.f174 K N n x0 x1 (IntKind.wrap .i64 (v5+1))
   else none
  else none
 else some (dat 4 (.lit (.bool false))):=by kernel_rfl
theorem afI (K:Nat) (N:Nat) (x0:D) (x1:Int):aU Tryz.prog (bT (U7 K) []) MM N Tryz.f174 [dat 61 x0,dat 3 (.lit (.int .i64 x1))]=
 bif (((intD (af x0 0))==1)==true)then
  bif ((intD (af x0 1))==x1)then
   some (dat 4 (.lit (.bool true)))
  else rV Tryz.prog Tryz.f174 K N N x0 x1 0
 else rV Tryz.prog Tryz.f174 K N N x0 x1 0:=by kernel_rfl
end X
end
end Go.Proofs.YtpceahbengfjeaaGreatDoor
