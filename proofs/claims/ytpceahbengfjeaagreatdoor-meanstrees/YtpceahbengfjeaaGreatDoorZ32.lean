/- Trees of functions, and lemmas. Nothing here is trusted. -/
import Derived.Test.YtpceahbengfjeaaGreatDoorZ20
import Derived.Test.YtpceahbengfjeaaGreatDoorZ29
namespace Go.Proofs.YtpceahbengfjeaaGreatDoor
section
namespace X
open Go.Ev
set_option linter.unusedVariables false
/- slices.Index[[]int,int] -/
def yJ:ay:=fun i=>if i=2 then some ([2,3,4,5,6,9,10,11,12,13,14,15,16,17,18],[],[])else none
def oJ (P:Program) (fn:Func) (N n:Nat) (x0:D) (x1:Int) (v8:Int):Option AV:=aN (preL yJ (sub [1,0,1,0,0] (ag fn))) (az P (bT T7 []) yJ N (sub [1,0,1,0,0] (ag fn))) n ⟨[dat 28 x0,dat 3 (.lit (.int .i64 x1)),dead,dead,dead,dead,dead,dat 3 (.lit (.int .i64 ((ae x0).length:Int))),dat 3 (.lit (.int .i64 v8)),dead,dead,dead,dead,dead,dead,dead,dead,dead,dead],aZ []⟩ (aG 0 (cZ P (bT T7 []) yJ N (sub [1,1] (ag fn)) (dJ P fn)))
theorem ug (N n:Nat) (x0:D) (x1:Int) (v8:Int):oJ Tryz.prog Tryz.f60 N (n+1) x0 x1 v8=
 bif decide (v8<((ae x0).length:Int))then
  bif (decide (0<=v8)&&decide (v8<((ae x0).length:Int)))then
   bif (x1==(intD ((ae x0).getD (v8).toNat .nil)))then
    some (dat 3 (.lit (.int .i64 v8)))
   else oJ Tryz.prog Tryz.f60 N n x0 x1 (IntKind.wrap .i64 (v8+1))
  else none
 else some (dat 3 (.lit (.int .i64 (-1)))):=by kernel_rfl
theorem t60 (N:Nat) (x0:D) (x1:Int):aU Tryz.prog (bT T7 []) yJ N Tryz.f60 [dat 28 x0,dat 3 (.lit (.int .i64 x1))]=
 oJ Tryz.prog Tryz.f60 N N x0 x1 0:=by kernel_rfl
/- roadbook/expr.formOf -/
def acM:ay:=fun _=>none
theorem af8 (N:Nat) (x0:Int):aU Tryz.prog (bT T7 []) acM N Tryz.f187 [dat 3 (.lit (.int .i64 x0))]=
 bif (decide (0<=x0)&&decide (x0<(11:Int)))then
  some (dat 181 (af (.agg [.agg [.held .nilFunc,.held .nilFunc,.held .nilFunc],.agg [.held .nilFunc,.held .nilFunc,.held .nilFunc],.agg [.held .nilFunc,.held (.func (.func 211) #[] #[]),.held .nilFunc],.agg [.held .nilFunc,.held (.func (.func 212) #[] #[]),.held .nilFunc],.agg [.held .nilFunc,.held (.func (.func 213) #[] #[]),.held .nilFunc],.agg [.held .nilFunc,.held (.func (.func 214) #[] #[]),.held .nilFunc],.agg [.held .nilFunc,.held (.func (.func 215) #[] #[]),.held .nilFunc],.agg [.held .nilFunc,.held (.func (.func 216) #[] #[]),.held .nilFunc],.agg [.held .nilFunc,.held .nilFunc,.held (.func (.func 217) #[] #[])],.agg [.held .nilFunc,.held .nilFunc,.held (.func (.func 218) #[] #[])],.agg [.held (.func (.func 219) #[] #[]),.held .nilFunc,.held .nilFunc]]) (x0).toNat))
 else none:=by kernel_rfl
/- (roadbook/expr.form).takes -/
def aaJ:ay:=fun _=>none
theorem aga (N:Nat) (x0:D) (x1:Int):aU Tryz.prog (bT T7 []) aaJ N Tryz.f220 [dat 181 x0,dat 3 (.lit (.int .i64 x1))]=
 bif (!(eX (af x0 0)))then
  some (dat 4 (.lit (.bool (x1==1))))
 else bif (!(eX (af x0 1)))then
   some (dat 4 (.lit (.bool (x1==2))))
  else bif (!(eX (af x0 2)))then
    some (dat 4 (.lit (.bool (decide (x1<=4)))))
   else some (dat 4 (.lit (.bool (x1==0)))):=by kernel_rfl
/- roadbook/roadbookref02.Ints -/
def yK:ay:=fun i=>if i=4 then some ([2,3,4,6,7,8,9,10,11,12,13,14,15,16,17,18,19,20,21,22,23,24,25],[],[])else none
def oZ (P:Program) (fn:Func) (N n:Nat) (x0:D) (x1:D) (v5:Int):Option AV:=aN (preL yK (sub [1,1,0,1,0,0] (ag fn))) (az P (bT T7 []) yK N (sub [1,1,0,1,0,0] (ag fn))) n ⟨[dat 28 x0,dat 28 x1,dead,dead,dead,dat 3 (.lit (.int .i64 v5)),dead,dead,dead,dead,dead,dead,dead,dead,dead,dead,dead,dead,dead,dead,dead,dead,dead,dead,dead,dead],aZ []⟩ (aG 0 (cZ P (bT T7 []) yK N (sub [1,1,1] (ag fn)) (dJ P fn)))
theorem oW (N n:Nat) (x0:D) (x1:D) (v5:Int):oZ Tryz.prog Tryz.f55 N (n+1) x0 x1 v5=
 bif decide (v5<((ae x0).length:Int))then
  bif (decide (0<=v5)&&decide (v5<((ae x0).length:Int)))then
   bif (decide (0<=v5)&&decide (v5<((ae x1).length:Int)))then
    bif ((intD ((ae x0).getD (v5).toNat .nil))!=(intD ((ae x1).getD (v5).toNat .nil)))then
     some (dat 4 (.lit (.bool false)))
    else oZ Tryz.prog Tryz.f55 N n x0 x1 (IntKind.wrap .i64 (v5+1))
   else none
  else none
 else some (dat 4 (.lit (.bool true))):=by kernel_rfl
theorem t55 (N:Nat) (x0:D) (x1:D):aU Tryz.prog (bT T7 []) yK N Tryz.f55 [dat 28 x0,dat 28 x1]=
 bif (((ae x0).length:Int)!=((ae x1).length:Int))then
  some (dat 4 (.lit (.bool false)))
 else oZ Tryz.prog Tryz.f55 N N x0 x1 0:=by kernel_rfl
/- (roadbook/expr.form).come -/
def VH:ay:=fun _=>none
theorem aaQ (N:Nat) (x1:D):aU Tryz.prog (bT T7 []) VH N Tryz.f188 [dat 181 (.agg [.held .nilFunc,.held (.func (.func 211) #[] #[]),.held .nilFunc]),dat 67 x1]=
 bif (decide (0<=(0:Int))&&decide ((0:Int)<((ae x1).length:Int)))then
  bif (decide (0<=(1:Int))&&decide ((1:Int)<((ae x1).length:Int)))then
   some (dat 59 (WM ((ae x1).getD 0 .nil) ((ae x1).getD 1 .nil)))
  else none
 else none:=by kernel_rfl
/- (roadbook/expr.form).come -/
def WT:ay:=fun _=>none
theorem aaY (N:Nat) (x1:D):aU Tryz.prog (bT T7 []) WT N Tryz.f188 [dat 181 (.agg [.held .nilFunc,.held (.func (.func 212) #[] #[]),.held .nilFunc]),dat 67 x1]=
 bif (decide (0<=(0:Int))&&decide ((0:Int)<((ae x1).length:Int)))then
  bif (decide (0<=(1:Int))&&decide ((1:Int)<((ae x1).length:Int)))then
   some (dat 59 (Xq ((ae x1).getD 0 .nil) ((ae x1).getD 1 .nil)))
  else none
 else none:=by kernel_rfl
/- (roadbook/expr.form).come -/
def Xa:ay:=fun _=>none
theorem ab6 (N:Nat) (x1:D):aU Tryz.prog (bT T7 []) Xa N Tryz.f188 [dat 181 (.agg [.held .nilFunc,.held (.func (.func 213) #[] #[]),.held .nilFunc]),dat 67 x1]=
 bif (decide (0<=(0:Int))&&decide ((0:Int)<((ae x1).length:Int)))then
  bif (decide (0<=(1:Int))&&decide ((1:Int)<((ae x1).length:Int)))then
   some (dat 59 (We ((ae x1).getD 0 .nil) ((ae x1).getD 1 .nil)))
  else none
 else none:=by kernel_rfl
/- (roadbook/expr.form).come -/
def XQ:ay:=fun _=>none
theorem acy (N:Nat) (x1:D):aU Tryz.prog (bT T7 []) XQ N Tryz.f188 [dat 181 (.agg [.held .nilFunc,.held (.func (.func 214) #[] #[]),.held .nilFunc]),dat 67 x1]=
 bif (decide (0<=(0:Int))&&decide ((0:Int)<((ae x1).length:Int)))then
  bif (decide (0<=(1:Int))&&decide ((1:Int)<((ae x1).length:Int)))then
   some (dat 59 (Xp ((ae x1).getD 0 .nil) ((ae x1).getD 1 .nil)))
  else none
 else none:=by kernel_rfl
/- (roadbook/expr.form).come -/
def VJ:ay:=fun _=>none
theorem aaC (N:Nat) (x1:D):aU Tryz.prog (bT T7 []) VJ N Tryz.f188 [dat 181 (.agg [.held .nilFunc,.held (.func (.func 215) #[] #[]),.held .nilFunc]),dat 67 x1]=
 bif (decide (0<=(0:Int))&&decide ((0:Int)<((ae x1).length:Int)))then
  bif (decide (0<=(1:Int))&&decide ((1:Int)<((ae x1).length:Int)))then
   some (dat 59 (eqV ((ae x1).getD 0 .nil) ((ae x1).getD 1 .nil)))
  else none
 else none:=by kernel_rfl
/- (roadbook/expr.form).come -/
def Yb:ay:=fun _=>none
theorem acs (N:Nat) (x1:D):aU Tryz.prog (bT T7 []) Yb N Tryz.f188 [dat 181 (.agg [.held .nilFunc,.held (.func (.func 216) #[] #[]),.held .nilFunc]),dat 67 x1]=
 bif (decide (0<=(0:Int))&&decide ((0:Int)<((ae x1).length:Int)))then
  bif (decide (0<=(1:Int))&&decide ((1:Int)<((ae x1).length:Int)))then
   some (dat 59 (ltV ((ae x1).getD 0 .nil) ((ae x1).getD 1 .nil)))
  else none
 else none:=by kernel_rfl
/- (roadbook/expr.form).come -/
def WI:ay:=fun _=>none
theorem aa0 (N:Nat) (x1:D):aU Tryz.prog (bT T7 []) WI N Tryz.f188 [dat 181 (.agg [.held .nilFunc,.held .nilFunc,.held (.func (.func 217) #[] #[])]),dat 67 x1]=
 some (dat 59 (Zx (ae x1))):=by kernel_rfl
/- (roadbook/expr.form).come -/
def WB:ay:=fun _=>none
theorem abK (N:Nat) (x1:D):aU Tryz.prog (bT T7 []) WB N Tryz.f188 [dat 181 (.agg [.held .nilFunc,.held .nilFunc,.held (.func (.func 218) #[] #[])]),dat 67 x1]=
 some (dat 59 (orD (ae x1))):=by kernel_rfl
/- (roadbook/expr.form).come -/
def Uc:ay:=fun _=>none
theorem Zc (N:Nat) (x1:D):aU Tryz.prog (bT T7 []) Uc N Tryz.f188 [dat 181 (.agg [.held (.func (.func 219) #[] #[]),.held .nilFunc,.held .nilFunc]),dat 67 x1]=
 bif (decide (0<=(0:Int))&&decide ((0:Int)<((ae x1).length:Int)))then
  some (dat 59 (Y4 ((ae x1).getD 0 .nil)))
 else none:=by kernel_rfl
end X
end
section
namespace X
open Go.Ev
set_option linter.unusedVariables false
set_option linter.unusedSimpArgs false
theorem n27 (x:D):bD Tryz.prog 28 x=x:=by kernel_rfl
theorem n26 (x:D):bD Tryz.prog 61 x=x:=by kernel_rfl
theorem n56 (x:D):bD Tryz.prog 181 x=x:=by kernel_rfl
theorem m56 (x:D):aj Tryz.prog 181 x=dat 181 x:=by kernel_rfl
theorem m27 (x:D):aj Tryz.prog 28 x=dat 28 x:=by kernel_rfl
theorem u27:Tryz.prog.underlying 28=some (.slice 3):=by kernel_rfl
theorem u24:Tryz.prog.underlying 29=some (.slice 61):=by kernel_rfl
theorem Zv {n:Nat} {x:D} (h:Ty Tryz.prog n 28 x): ∃ es,x=.slice es []/\es.length<=maxLen/\ ∀ y∈es,∃ z,y=fO z/\inR z=true:=by
 cases n with
 |zero=>exact h.elim
 |succ n=>
  unfold Ty at h
  rw[u27]at h
  split at h<;>try (exact h.elim)
  all_goals try (simp_all;done)
  rename_i e es sp heq
  cases heq
  obtain⟨rfl,hl,hp⟩:=h
  exact⟨es,rfl,hl,fun y hy=>iC (hp y hy)⟩
theorem XB {n:Nat} {x:D} (hx:Ty Tryz.prog n 28 x):(ae x).length<=maxLen:=by
 obtain⟨es,rfl,hl,_⟩:=Zv hx
 exact hl
theorem jD {i n:Nat} (hn:n<=maxLen) (h:i<n):IntKind.wrap .i64 ((i:Int)+1)=((i+1:Nat):Int):=by
 rw[wrap_in]
 ·omega
 ·rw[bH];unfold maxLen at hn;omega
theorem getD_lt {l:List D} {i:Nat} (h:i<l.length):l.getD i .nil=l[i]:=by simp[List.getD,h]
theorem vY {N:Nat} {x0:D} {x1:Int} (hl:(ae x0).length<=maxLen): ∀ (n i:Nat),i<=(ae x0).length->(ae x0).length - i<n->
  oJ Tryz.prog Tryz.f60 N n x0 x1 (i:Int)=some (dat 3 (.lit (.int .i64 (Lib.idxFrom (((ae x0).drop i).map intD) x1 i))))
 |0,i,_,h=>by omega
 |n+1,i,hi,h=>by
  rw[ug]
  by_cases hlt:i<(ae x0).length
  ·have h1:decide ((i:Int)<((ae x0).length:Int))=true:=by simpa using hlt
   rw[oh hlt,h1,cond_true,cond_true,List.drop_eq_getElem_cons hlt,List.map_cons,Int.toNat_natCast,getD_lt hlt,Lib.idxFrom]
   rw[jD hl hlt,vY hl n (i+1) (by omega) (by omega)]
   by_cases he:intD (ae x0)[i]=x1
   ·have:(x1==intD (ae x0)[i])=true:=by simp[he]
    rw[this,cond_true,if_pos he]
   ·have:(x1==intD (ae x0)[i])=false:=by
     rw[beq_eq_false_iff_ne];exact fun hh=>he hh.symm
    rw[this,cond_false,if_neg he]
  ·have h1:decide ((i:Int)<((ae x0).length:Int))=false:=by simpa using hlt
   have h2:(ae x0).drop i=[]:=List.drop_of_length_le (by omega)
   rw[h1,h2,cond_false]
   rfl
def e60:FuncId×TypeId×(List AV->Bool)×(List AV->Option D):=(60,3,yes,ent [28,3] (f2 fun x y=>some (.lit (.int .i64 (Lib.idxOf ((ae x).map intD) (intD y))))))
theorem k60:FnOK Tryz.prog 60 Tryz.f60:=⟨Tryz.func60,rfl,by kernel_rfl⟩
theorem c60: ∀ args d,e60.2.2.2 args=some d->CallOK Tryz.prog 60 args (aj Tryz.prog 3 d):=
 gD k60 fun x y d h ⟨_,hx⟩ _=>by
  cases h
  rw[n27,n3]
  refine aI hm PQ k60 ((t60 ((ae x).length+1) x (intD y)).trans ?_)
  rw[m3]
  have:=vY (N:=(ae x).length+1) (x1:=intD y) (XB hx) ((ae x).length+1) 0 (Nat.zero_le _) (by omega)
  simpa [Lib.idxOf,intD]using this
theorem IZ {N:Nat} {x0 x1:D} (hl:(ae x0).length<=maxLen) (hs:(ae x0).length=(ae x1).length): ∀ (n i:Nat),i<=(ae x0).length->(ae x0).length - i<n->
  oZ Tryz.prog Tryz.f55 N n x0 x1 (i:Int)=some (dat 4 (.lit (.bool (ik ((ae x0).drop i) ((ae x1).drop i)))))
 |0,i,_,h=>by omega
 |n+1,i,hi,h=>by
  rw[oW]
  by_cases hlt:i<(ae x0).length
  ·have hlt1:i<(ae x1).length:=by omega
   have h1:decide ((i:Int)<((ae x0).length:Int))=true:=by simpa using hlt
   rw[oh hlt,oh hlt1,h1,cond_true,cond_true,cond_true,List.drop_eq_getElem_cons hlt,List.drop_eq_getElem_cons hlt1,Int.toNat_natCast,getD_lt hlt,getD_lt hlt1]
   rw[jD hl hlt,IZ hl hs n (i+1) (by omega) (by omega)]
   unfold ik
   simp only[List.map_cons]
   by_cases he:intD (ae x0)[i]=intD (ae x1)[i]
   ·have:(intD (ae x0)[i]!=intD (ae x1)[i])=false:=by simp[he]
    rw[this,cond_false]
    simp[he]
   ·have:(intD (ae x0)[i]!=intD (ae x1)[i])=true:=by simp[he]
    rw[this,cond_true]
    have:(intD (ae x0)[i]::((ae x0).drop (i+1)).map intD==intD (ae x1)[i]::((ae x1).drop (i+1)).map intD)=false:=by
     rw[beq_eq_false_iff_ne]
     intro hh
     injection hh with hh _
     exact he hh
    rw[this]
  ·have h1:decide ((i:Int)<((ae x0).length:Int))=false:=by simpa using hlt
   have h2:(ae x0).drop i=[]:=List.drop_of_length_le (by omega)
   have h3:(ae x1).drop i=[]:=List.drop_of_length_le (by omega)
   rw[h1,h2,h3,cond_false]
   rfl
def e55:FuncId×TypeId×(List AV->Bool)×(List AV->Option D):=(55,4,yes,ent [28,28] (f2 fun x y=>some (.lit (.bool (ik (ae x) (ae y))))))
theorem k55:FnOK Tryz.prog 55 Tryz.f55:=⟨Tryz.func55,rfl,by kernel_rfl⟩
theorem c55: ∀ args d,e55.2.2.2 args=some d->CallOK Tryz.prog 55 args (aj Tryz.prog 4 d):=
 gD k55 fun x y d h ⟨_,hx⟩ _=>by
  cases h
  rw[n27,n27]
  refine aI hm PQ k55 ((t55 ((ae x).length+1) x y).trans ?_)
  rw[m4]
  by_cases hs:(ae x).length=(ae y).length
  ·have:(((ae x).length:Int)!=((ae y).length:Int))=false:=by simp[hs]
   rw[this,cond_false]
   have:=IZ (N:=(ae x).length+1) (XB hx) hs ((ae x).length+1) 0 (Nat.zero_le _) (by omega)
   simpa [gu]using this
  ·have:(((ae x).length:Int)!=((ae y).length:Int))=true:=by simp;omega
   rw[this,cond_true]
   have h2:ik (ae x) (ae y)=false:=by
    unfold ik
    rw[beq_eq_false_iff_ne]
    intro hh
    have:=congrArg List.length hh
    simp at this
    exact hs this
   rw[h2]
   rfl
def fm (k:Nat) (f:FuncId):D:=.agg ((List.range 3).map fun j=>.held (if j=k then .func (.func f) #[] #[]else .nilFunc))
def aeQ:List D:=[fm 3 0,fm 3 0,fm 1 211,fm 1 212,fm 1 213,fm 1 214,fm 1 215,fm 1 216,fm 2 217,fm 2 218,fm 0 219]
def nV (n:Int):D:=af (.agg aeQ) n.toNat
def e187:FuncId×TypeId×(List AV->Bool)×(List AV->Option D):=(187,181,fun xs=>decide (0<=intD (xs.getD 0 dead).d)&&decide (intD (xs.getD 0 dead).d<11),ent [3] (f1 fun x=>some (nV (intD x))))
theorem adm:FnOK Tryz.prog 187 Tryz.f187:=⟨Tryz.func187,rfl,by kernel_rfl⟩
theorem af6: ∀ args d,e187.2.2.1 args=true->e187.2.2.2 args=some d->CallOK Tryz.prog 187 args (aj Tryz.prog 181 d):=by
 intro args d hp hd
 have key: ∀ args d,ent [3] (f1 fun x=>if(decide (0<=intD x)&&decide (intD x<11))=true then some (nV (intD x))else none) args=some d->CallOK Tryz.prog 187 args (aj Tryz.prog 181 d):=
  mY adm fun x d h _=>by
   split at h
   ·rename_i hc
    cases h
    rw[n3]
    refine aI hm PQ adm ((af8 1 (intD x)).trans ?_)
    rw[hc,m56]
    rfl
   ·cases h
 refine key args d ?_
 unfold e187 ent at hd hp
 unfold ent
 simp only at hd hp
 split at hd
 ·rename_i hs
  rw[if_pos hs]
  unfold EM at hs
  match args,hs,hp,hd with
  | [x],_,hp,hd=>
   simp only[List.map_cons,List.map_nil,f1]at hd⊢
   have hp':(decide (0<=intD x.d)&&decide (intD x.d<11))=true:=hp
   rw[if_pos hp']
   exact hd
  | [],hs,_,_=>simp at hs
  |_::_::_,hs,_,_=>simp at hs
 ·cases hd
def e220:FuncId×TypeId×(List AV->Bool)×(List AV->Option D):=(220,4,yes,ent [181,3] (f2 fun x y=>some (.lit (.bool (mZ x (intD y))))))
theorem adu:FnOK Tryz.prog 220 Tryz.f220:=⟨Tryz.func220,rfl,by kernel_rfl⟩
theorem ahj: ∀ args d,e220.2.2.2 args=some d->CallOK Tryz.prog 220 args (aj Tryz.prog 4 d):=
 gD adu fun x y d h _ _=>by
  cases h
  rw[n56,n3]
  refine aI hm PQ adu ((aga 1 x (intD y)).trans ?_)
  rw[m4]
  unfold mZ
  cases eX (af x 0)<;>cases eX (af x 1)<;>cases eX (af x 2)<;>rfl
def isFn (f:FuncId):D->Bool
 | .held (.func (.func g) _ _)=>g==f
 |_=>false
def Gm (k:Nat) (f:FuncId) (x:D):Bool:=(List.range 3).all fun j=>if j=k then isFn f (af x j)else eX (af x j)
def SB:List (Int×Nat×FuncId):=[(2,1,211),(3,1,212),(4,1,213),(5,1,214),(6,1,215),(7,1,216),(8,2,217),(9,2,218),(10,0,219)]
def ad6 (x:D):Int:=((SB.find? fun c=>Gm c.2.1 c.2.2 x).map (·.1)).getD 0
def Gh (x l:D):D:=opV (ad6 x) (ae l)
def xY (x l:D):Bool:=SB.any (fun c=>Gm c.2.1 c.2.2 x)&&mZ x ((ae l).length:Int)
def YU:FuncId×TypeId×(List AV->Bool)×(List AV->Option D):=(188,59,fun xs=>xY (xs.getD 0 dead).d (xs.getD 1 dead).d,ent [181,67] (f2 fun x y=>some (Gh x y)))
theorem aeV:FnOK Tryz.prog 188 Tryz.f188:=⟨Tryz.func188,rfl,by kernel_rfl⟩
theorem u56: ∃ f g h:Field,Tryz.prog.underlying 181=some (.struct #[f,g,h])/\f.type=157/\g.type=179/\h.type=155:=⟨_,_,_,Tryz.underlying181,rfl,rfl,rfl⟩
theorem ahx: ∃ a b c,Tryz.prog.underlying 157=some (.func a b c):=⟨_,_,_,Tryz.underlying157⟩
theorem af7: ∃ a b c,Tryz.prog.underlying 179=some (.func a b c):=⟨_,_,_,Tryz.underlying179⟩
theorem ahk: ∃ a b c,Tryz.prog.underlying 155=some (.func a b c):=⟨_,_,_,Tryz.underlying155⟩
theorem tyF {n:Nat} {t:TypeId} {x:D} (hu: ∃ a b c,Tryz.prog.underlying t=some (.func a b c)) (h:Ty Tryz.prog n t x):x=.held .nilFunc\/(∃ f,x=.held (.func (.func f) #[] #[]))\/ ∃ f t0 y,x=yc f t0 y:=by
 obtain⟨a,b,c,hu⟩:=hu
 cases n with
 |zero=>exact h.elim
 |succ n=>
  unfold Ty at h
  rw[hu]at h
  split at h<;>try (exact h.elim)
  all_goals first
   |(simp_all;done)
   | (rcases h with rfl|⟨f,rfl⟩
      ·exact .inl rfl
      ·exact .inr (.inl ⟨f,rfl⟩))
   |(obtain⟨f,t0,y,e1,_⟩:=h;subst e1;exact .inr (.inr ⟨f,t0,y,rfl⟩))
theorem afn {n:Nat} {x:D} (h:Ty Tryz.prog n 181 x): ∃ a b c,x=.agg [a,b,c]/\(∀ y∈[a,b,c],y=.held .nilFunc\/(∃ f,y=.held (.func (.func f) #[] #[]))\/ ∃ f t0 z,y=yc f t0 z):=by
 obtain⟨f,g,h',hu,hf,hg,hh⟩:=u56
 cases n with
 |zero=>exact h.elim
 |succ n=>
  unfold Ty at h
  rw[hu]at h
  split at h<;>try (exact h.elim)
  all_goals try (simp_all;done)
  rename_i fs ps heq
  cases heq
  obtain⟨hlen,hp⟩:=h
  match ps,hlen with
  | [a,b,c],_=>
   have h0:=hp 0 f rfl
   have h1:=hp 1 g rfl
   have h2:=hp 2 h' rfl
   rw[hf]at h0
   rw[hg]at h1
   rw[hh]at h2
   refine⟨a,b,c,rfl,fun y hy=>?_⟩
   simp only[List.mem_cons,List.not_mem_nil,or_false]at hy
   rcases hy with rfl|rfl|rfl
   ·exact tyF ahx h0
   ·exact tyF af7 h1
   ·exact tyF ahk h2
theorem jK {n:Nat} {x:D} (h:Ty Tryz.prog n 181 x) {k:Nat} {f:FuncId} (hk:k<3) (hf:Gm k f x=true):x=fm k f:=by
 obtain⟨a,b,c,rfl,hall⟩:=afn h
 have ha:=hall a (by simp)
 have hb:=hall b (by simp)
 have hc:=hall c (by simp)
 unfold Gm at hf
 rw[List.all_eq_true]at hf
 have h0:=hf 0 (by simp)
 have h1:=hf 1 (by simp)
 have h2:=hf 2 (by simp)
 have key: ∀ (j:Nat) (y:D),(y=.held .nilFunc\/(∃ f,y=.held (.func (.func f) #[] #[]))\/ ∃ f t0 z,y=yc f t0 z)->(if j=k then isFn f y else eX y)=true->y=.held (if j=k then .func (.func f) #[] #[]else .nilFunc):=by
  intro j y hy hh
  by_cases hj:j=k
  ·rw[if_pos hj]at hh⊢
   rcases hy with rfl|⟨g,rfl⟩|⟨g,t0,z,rfl⟩
   ·simp[isFn]at hh
   ·simp only[isFn,beq_iff_eq]at hh
    rw[hh]
   ·simp[isFn,yc]at hh
  ·rw[if_neg hj]at hh⊢
   rcases hy with rfl|⟨g,rfl⟩|⟨g,t0,z,rfl⟩
   ·rfl
   ·simp[eX]at hh
   ·simp[eX,yc]at hh
 have e0:=key 0 a ha h0
 have e1:=key 1 b hb h1
 have e2:=key 2 c hc h2
 rw[e0,e1,e2]
 rfl
theorem agr: ∀ args d,YU.2.2.1 args=true->YU.2.2.2 args=some d->CallOK Tryz.prog 188 args (aj Tryz.prog 59 d):=by
 intro args d hp hd
 have key: ∀ args d,ent [181,67] (f2 fun x y=>if xY x y=true then some (Gh x y)else none) args=some d->CallOK Tryz.prog 188 args (aj Tryz.prog 59 d):=
  gD aeV fun x y d h ⟨_,hx⟩ _=>by
   split at h
   ·rename_i hc
    cases h
    rw[n56,n28,m23]
    unfold xY at hc
    rw[Bool.and_eq_true,List.any_eq_true]at hc
    obtain⟨⟨c,hcm,hform⟩,htake⟩:=hc
    have two: ∀ (l:List D),(((l.length:Int))==2)=true-> ∀ (r:AV),(bif (decide (0<=(0:Int))&&decide ((0:Int)<(l.length:Int)))then bif (decide (0<=(1:Int))&&decide ((1:Int)<(l.length:Int)))then some r else none else none)=some r:=by
     intro l hl r
     rw[beq_iff_eq]at hl
     rw[hl]
     rfl
    have fin: ∀ r,aU Tryz.prog (bT T7 []) (fun _=>none) 1 Tryz.f188 [dat 181 x,dat 67 y]=some r->r=aj Tryz.prog 59 (Gh x y)->CallOK Tryz.prog 188 [dat 181 x,dat 67 y] (dat 59 (Gh x y)):=by
     intro r h1 h2
     have:=aI hm PQ aeV (h1.trans (by rw[h2]))
     rw[m23]at this
     exact this
    simp only[SB,List.mem_cons,List.not_mem_nil,or_false]at hcm
    rcases hcm with rfl|rfl|rfl|rfl|rfl|rfl|rfl|rfl|rfl
    ·have hxe:=jK hx (by decide) hform;subst hxe
     exact fin _ ((aaQ 1 y).trans (two _ htake _)) (by rw[m23];rfl)
    ·have hxe:=jK hx (by decide) hform;subst hxe
     exact fin _ ((aaY 1 y).trans (two _ htake _)) (by rw[m23];rfl)
    ·have hxe:=jK hx (by decide) hform;subst hxe
     exact fin _ ((ab6 1 y).trans (two _ htake _)) (by rw[m23];rfl)
    ·have hxe:=jK hx (by decide) hform;subst hxe
     exact fin _ ((acy 1 y).trans (two _ htake _)) (by rw[m23];rfl)
    ·have hxe:=jK hx (by decide) hform;subst hxe
     exact fin _ ((aaC 1 y).trans (two _ htake _)) (by rw[m23];rfl)
    ·have hxe:=jK hx (by decide) hform;subst hxe
     exact fin _ ((acs 1 y).trans (two _ htake _)) (by rw[m23];rfl)
    ·have hxe:=jK hx (by decide) hform;subst hxe
     exact fin _ (aa0 1 y) (by rw[m23];rfl)
    ·have hxe:=jK hx (by decide) hform;subst hxe
     exact fin _ (abK 1 y) (by rw[m23];rfl)
    ·have hxe:=jK hx (by decide) hform;subst hxe
     refine fin (dat 59 (Y4 ((ae y).getD 0 .nil))) ((Zc 1 y).trans ?_) (by rw[m23];rfl)
     have hl:(ae y).length=1:=by
      have:((ae y).length:Int)=1:=by simpa [mZ,fm,af,bF,eX]using htake
      omega
     rw[hl]
     rfl
   ·cases h
 refine key args d ?_
 unfold YU ent at hd hp
 unfold ent
 simp only at hd hp
 split at hd
 ·rename_i hs
  rw[if_pos hs]
  unfold EM at hs
  match args,hs,hp,hd with
  | [x,y],_,hp,hd=>
   simp only[List.map_cons,List.map_nil,f2]at hd⊢
   have hp':xY x.d y.d=true:=hp
   rw[if_pos hp']
   exact hd
  | [],hs,_,_=>simp at hs
  | [_],hs,_,_=>simp at hs
  |_::_::_::_,hs,_,_=>simp at hs
 ·cases hd
def U1:Tab:=e60::e55::e187::e220::YU::T7
theorem Xj:EnvOK Tryz.prog (bT U1 []):=ah (ah (aO (ah (aO PQ agr) ahj) af6) c55) c60
theorem Fq {op:Int} (h0:0<=op) (h1:op<11) (n:Int):mZ (nV op) n=vG op n:=by
 have:op=0\/op=1\/op=2\/op=3\/op=4\/op=5\/op=6\/op=7\/op=8\/op=9\/op=10:=by omega
 rcases this with rfl|rfl|rfl|rfl|rfl|rfl|rfl|rfl|rfl|rfl|rfl<;>rfl
theorem Zf {op:Int} (h0:2<=op) (h1:op<11):ad6 (nV op)=op/\SB.any (fun c=>Gm c.2.1 c.2.2 (nV op))=true:=by
 have:op=2\/op=3\/op=4\/op=5\/op=6\/op=7\/op=8\/op=9\/op=10:=by omega
 rcases this with rfl|rfl|rfl|rfl|rfl|rfl|rfl|rfl|rfl<;>exact⟨rfl,rfl⟩
end X
end
section
namespace X
open Go.Ev
set_option linter.unusedVariables false
/- roadbook/expr.at -/
def acw:ay:=fun _=>none
theorem afY (N:Nat) (x0:Int) (x1:D) (x2:D):aU Tryz.prog (bT U1 []) acw N Tryz.f186 [dat 3 (.lit (.int .i64 x0)),dat 28 x1,dat 67 x2]=
 bif ((decide ((Lib.idxOf ((ae x1).map intD) x0)<0))==false)then
  bif ((decide ((Lib.idxOf ((ae x1).map intD) x0)>=((ae x2).length:Int)))==false)then
   bif (decide (0<=(Lib.idxOf ((ae x1).map intD) x0))&&decide ((Lib.idxOf ((ae x1).map intD) x0)<((ae x2).length:Int)))then
    bif (!(iI ((ae x2).getD (Lib.idxOf ((ae x1).map intD) x0).toNat .nil)))then
     some (dat 59 (.agg [.lit (.int .i64 2),.lit (.int .i64 0)]))
    else bif (decide (0<=(Lib.idxOf ((ae x1).map intD) x0))&&decide ((Lib.idxOf ((ae x1).map intD) x0)<((ae x2).length:Int)))then
      some (dat 59 ((ae x2).getD (Lib.idxOf ((ae x1).map intD) x0).toNat .nil))
     else none
   else none
  else some (dat 59 (.agg [.lit (.int .i64 2),.lit (.int .i64 0)]))
 else some (dat 59 (.agg [.lit (.int .i64 2),.lit (.int .i64 0)])):=by kernel_rfl
/- roadbook/expr.fits -/
def abP:ay:=fun _=>none
theorem ahu (N:Nat) (x0:D):aU Tryz.prog (bT U1 []) abP N Tryz.f190 [dat 61 x0]=
 bif ((decide ((intD (af x0 0))<0))==false)then
  bif ((decide ((intD (af x0 0))>=11))==false)then
   bif ((decide ((intD (af x0 1))<0))==false)then
    bif ((decide ((intD (af x0 1))>15))==false)then
     bif (!(iI (af x0 2)))then
      some (dat 4 (.lit (.bool false)))
     else bif (((intD (af x0 1))!=0)==true)then
       bif (((intD (af x0 0))!=1)==false)then
        bif ((!(((intD (af (af x0 2) 0))==0)&&(((intD (af (af x0 2) 1))==0)&&true)))==true)then
         bif ((intD (af x0 0))!=0)then
          some (dat 4 (.lit (.bool false)))
         else bif (decide (0<=(intD (af x0 0)))&&decide ((intD (af x0 0))<11))then
           some (dat 4 (.lit (.bool (mZ (nV (intD (af x0 0))) ((ae (af x0 3)).length:Int)))))
          else none
        else bif (decide (0<=(intD (af x0 0)))&&decide ((intD (af x0 0))<11))then
          some (dat 4 (.lit (.bool (mZ (nV (intD (af x0 0))) ((ae (af x0 3)).length:Int)))))
         else none
       else some (dat 4 (.lit (.bool false)))
      else bif ((!(((intD (af (af x0 2) 0))==0)&&(((intD (af (af x0 2) 1))==0)&&true)))==true)then
        bif ((intD (af x0 0))!=0)then
         some (dat 4 (.lit (.bool false)))
        else bif (decide (0<=(intD (af x0 0)))&&decide ((intD (af x0 0))<11))then
          some (dat 4 (.lit (.bool (mZ (nV (intD (af x0 0))) ((ae (af x0 3)).length:Int)))))
         else none
       else bif (decide (0<=(intD (af x0 0)))&&decide ((intD (af x0 0))<11))then
         some (dat 4 (.lit (.bool (mZ (nV (intD (af x0 0))) ((ae (af x0 3)).length:Int)))))
        else none
    else some (dat 4 (.lit (.bool false)))
   else some (dat 4 (.lit (.bool false)))
  else some (dat 4 (.lit (.bool false)))
 else some (dat 4 (.lit (.bool false))):=by kernel_rfl
end X
end
section
namespace X
open Go.Ev
set_option linter.unusedVariables false
set_option linter.unusedSimpArgs false
theorem u26: ∃ f g h k:Field,Tryz.prog.underlying 61=some (.struct #[f,g,h,k])/\f.type=3/\g.type=3/\h.type=59/\k.type=29:=⟨_,_,_,_,Tryz.underlying61,rfl,rfl,rfl,rfl⟩
theorem afT {n:Nat} {x:D} (h:Ty Tryz.prog n 61 x): ∃ a b c d m,n=m+1/\x=.agg [.lit (.int .i64 a),.lit (.int .i64 b),c,d]/\inR a=true/\inR b=true/\Ty Tryz.prog m 59 c/\Ty Tryz.prog m 29 d:=by
 obtain⟨f,g,h',k,hu,hf,hg,hh,hk⟩:=u26
 cases n with
 |zero=>exact h.elim
 |succ n=>
  unfold Ty at h
  rw[hu]at h
  split at h<;>try (exact h.elim)
  all_goals try (simp_all;done)
  rename_i fs ps heq
  cases heq
  obtain⟨hlen,hp⟩:=h
  match ps,hlen with
  | [a,b,c,d],_=>
   have h0:=hp 0 f rfl
   have h1:=hp 1 g rfl
   have h2:=hp 2 h' rfl
   have h3:=hp 3 k rfl
   rw[hf]at h0
   rw[hg]at h1
   rw[hh]at h2
   rw[hk]at h3
   obtain⟨z,ea,hz⟩:=iC h0
   obtain⟨y,eb,hy⟩:=iC h1
   simp at ea eb
   subst ea eb
   exact⟨z,y,c,d,n,rfl,rfl,hz,hy,h2,h3⟩
theorem acO {n:Nat} {x:D} (h:Ty Tryz.prog n 29 x): ∃ es m,n=m+1/\x=.slice es []/\es.length<=maxLen/\ ∀ y∈es,Ty Tryz.prog m 61 y:=by
 cases n with
 |zero=>exact h.elim
 |succ n=>
  unfold Ty at h
  rw[u24]at h
  split at h<;>try (exact h.elim)
  all_goals simp_all
theorem zi {n:Nat} {x:D} (h:Ty Tryz.prog n 61 x):(kids x).length<=maxLen/\ ∀ y∈kids x,∃ m,Ty Tryz.prog m 61 y:=by
 obtain⟨a,b,c,d,m,rfl,rfl,_,_,_,hd⟩:=afT h
 obtain⟨es,k,rfl,rfl,hl,hall⟩:=acO hd
 exact⟨hl,fun y hy=>⟨k,hall y hy⟩⟩
theorem UC (x0:D):(bif ((decide ((intD (af x0 0))<0))==false)then
  bif ((decide ((intD (af x0 0))>=11))==false)then
   bif ((decide ((intD (af x0 1))<0))==false)then
    bif ((decide ((intD (af x0 1))>15))==false)then
     bif (!(iI (af x0 2)))then
      some (dat 4 (.lit (.bool false)))
     else bif (((intD (af x0 1))!=0)==true)then
       bif (((intD (af x0 0))!=1)==false)then
        bif ((!(((intD (af (af x0 2) 0))==0)&&(((intD (af (af x0 2) 1))==0)&&true)))==true)then
         bif ((intD (af x0 0))!=0)then
          some (dat 4 (.lit (.bool false)))
         else bif (decide (0<=(intD (af x0 0)))&&decide ((intD (af x0 0))<11))then
           some (dat 4 (.lit (.bool (mZ (nV (intD (af x0 0))) ((ae (af x0 3)).length:Int)))))
          else none
        else bif (decide (0<=(intD (af x0 0)))&&decide ((intD (af x0 0))<11))then
          some (dat 4 (.lit (.bool (mZ (nV (intD (af x0 0))) ((ae (af x0 3)).length:Int)))))
         else none
       else some (dat 4 (.lit (.bool false)))
      else bif ((!(((intD (af (af x0 2) 0))==0)&&(((intD (af (af x0 2) 1))==0)&&true)))==true)then
        bif ((intD (af x0 0))!=0)then
         some (dat 4 (.lit (.bool false)))
        else bif (decide (0<=(intD (af x0 0)))&&decide ((intD (af x0 0))<11))then
          some (dat 4 (.lit (.bool (mZ (nV (intD (af x0 0))) ((ae (af x0 3)).length:Int)))))
         else none
       else bif (decide (0<=(intD (af x0 0)))&&decide ((intD (af x0 0))<11))then
         some (dat 4 (.lit (.bool (mZ (nV (intD (af x0 0))) ((ae (af x0 3)).length:Int)))))
        else none
    else some (dat 4 (.lit (.bool false)))
   else some (dat 4 (.lit (.bool false)))
  else some (dat 4 (.lit (.bool false)))
 else some (dat 4 (.lit (.bool false))):Option AV)=some (dat 4 (.lit (.bool (vS x0)))):=by
 unfold vS opI rM kids kk nn
 generalize hop:intD (af x0 0)=op
 generalize intD (af x0 1)=col
 generalize (ae (af x0 3)).length=len
 generalize iI (af x0 2)=b5
 generalize (intD (af (af x0 2) 0)==0)=b6
 generalize (intD (af (af x0 2) 1)==0)=b7
 have e1:decide (op<0)=!decide (0<=op):=by by_cases h:0<=op<;>simp[h]<;>omega
 have e2:decide (op>=11)=!decide (op<11):=by by_cases h:op<11<;>simp[h]<;>omega
 have e3:decide (col<0)=!decide (0<=col):=by by_cases h:0<=col<;>simp[h]<;>omega
 have e4:decide (col>15)=!decide (col<=15):=by by_cases h:col<=15<;>simp[h]<;>omega
 have e5:(col !=0)=!(col==0):=rfl
 have e6:(op !=1)=!(op==1):=rfl
 have e7:(op !=0)=!(op==0):=rfl
 rw[e1,e2,e3,e4,e5,e6,e7]
 by_cases h0:0<=op
 ·by_cases h1:op<11
  ·rw[Fq h0 h1]
   have d1:decide (0<=op)=true:=by simpa using h0
   have d2:decide (op<11)=true:=by simpa using h1
   rw[d1,d2]
   generalize vG op (len:Int)=b8
   generalize decide (0<=col)=b1
   generalize decide (col<=15)=b2
   generalize (col==0)=b3
   generalize (op==1)=b4
   generalize (op==0)=b9
   cases b1<;>cases b2<;>cases b3<;>cases b4<;>cases b5<;>cases b6<;>cases b7<;>cases b8<;>cases b9<;>rfl
  ·have d1:decide (0<=op)=true:=by simpa using h0
   have d2:decide (op<11)=false:=by simpa using h1
   rw[d1,d2]
   rfl
 ·have d1:decide (0<=op)=false:=by simpa using h0
  rw[d1]
  rfl
def e190:FuncId×TypeId×(List AV->Bool)×(List AV->Option D):=(190,4,yes,ent [61] (f1 fun x=>some (.lit (.bool (vS x)))))
theorem aeE:FnOK Tryz.prog 190 Tryz.f190:=⟨Tryz.func190,rfl,by kernel_rfl⟩
theorem afU: ∀ args d,e190.2.2.2 args=some d->CallOK Tryz.prog 190 args (aj Tryz.prog 4 d):=
 mY aeE fun x d h _=>by
  cases h
  rw[n26]
  refine aI hm Xj aeE ((ahu 1 x).trans ?_)
  rw[m4]
  exact UC x
def ac8:FuncId×TypeId×(List AV->Bool)×(List AV->Option D):=(186,59,yes,ent [3,28,67] (f3 fun x y z=>some (atD (intD x) (ae y) (ae z))))
theorem afi:FnOK Tryz.prog 186 Tryz.f186:=⟨Tryz.func186,rfl,by kernel_rfl⟩
theorem ahv: ∀ args d,ac8.2.2.2 args=some d->CallOK Tryz.prog 186 args (aj Tryz.prog 59 d):=
 O7 afi fun x y z d h _ _ _=>by
  cases h
  rw[n3,n27,n28]
  refine aI hm Xj afi ((afY 1 (intD x) y z).trans ?_)
  rw[m23]
  unfold atD
  generalize Lib.idxOf ((ae y).map intD) (intD x)=q
  generalize hn:((ae z).length:Int)=n
  have hv:(.agg [.lit (.int .i64 2),.lit (.int .i64 0)]:D)=vv 2 0:=rfl
  rw[hv]
  by_cases h1:q<0
  ·have d1:decide (q<0)=true:=by simpa using h1
   rw[d1]
   rfl
  ·have d1:decide (q<0)=false:=by simpa using h1
   have d2:decide (0<=q)=true:=by simp;omega
   by_cases h2:q<n
   ·have d3:decide (q<n)=true:=by simpa using h2
    have d4:decide (q>=n)=false:=by simp;omega
    rw[d1,d2,d3,d4]
    cases iI ((ae z).getD q.toNat .nil)<;>rfl
   ·have d4:decide (q>=n)=true:=by simp;omega
    rw[d1,d4]
    rfl
def U2:Tab:=ac8::e190::U1
theorem NW:EnvOK Tryz.prog (bT U2 []):=ah (ah Xj afU) ahv
end X
end
section
namespace X
open Go.Ev
set_option linter.unusedVariables false
/- roadbook/expr.May$1 -/
def aa9:ay:=fun _=>none
theorem agw (N:Nat) (x0:D) (x1:Int) (q:Int):jP Tryz.prog (bT U2 []) aa9 N Tryz.f189 [dat 61 x0,dat 3 (.lit (.int .i64 x1)),bxp 1000000 3] [⟨3,.lit (.int .i64 q),0,none⟩]=
 bif ((decide ((IntKind.wrap .i64 (q+1))<=30))==true)then
  bif ((decide (x1<=6))==true)then
   some (dat 4 (.lit (.bool (vS x0))),[some ⟨3,.lit (.int .i64 (IntKind.wrap .i64 (q+1))),0,none⟩])
  else some (dat 4 (.lit (.bool false)),[some ⟨3,.lit (.int .i64 (IntKind.wrap .i64 (q+1))),0,none⟩])
 else some (dat 4 (.lit (.bool false)),[some ⟨3,.lit (.int .i64 (IntKind.wrap .i64 (q+1))),0,none⟩]):=by kernel_rfl
/- roadbook/expr.Cols$1 -/
def abf:ay:=fun _=>none
theorem t164 (N:Nat) (x0:D) (x1:Int) (es:List D):jP Tryz.prog (bT U2 []) abf N Tryz.f164 [dat 61 x0,dat 3 (.lit (.int .i64 x1)),bxp 1000000 28] [⟨28,.nil,0,some (bxp 1000001 28)⟩,⟨28,.slice es [],4,none⟩]=
 bif ((intD (af x0 0))==1)then
  bif decide ((es).length+1<=2147483648)then
   some (dat 4 (.lit (.bool true)),[some ⟨28,.nil,0,some (bxp 1000001 28)⟩,some ⟨28,.slice (es++[.lit (.int .i64 (intD (af x0 1)))]) [],1,none⟩])
  else none
 else some (dat 4 (.lit (.bool true)),[some ⟨28,.nil,0,some (bxp 1000001 28)⟩,some ⟨28,.slice es [],4,none⟩]):=by kernel_rfl
end X
end
end Go.Proofs.YtpceahbengfjeaaGreatDoor
