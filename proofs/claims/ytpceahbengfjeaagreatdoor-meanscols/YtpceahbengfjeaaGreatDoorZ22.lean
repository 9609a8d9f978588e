/- Trees of functions, and lemmas. Nothing here is trusted. -/
import Derived.Test.YtpceahbengfjeaaGreatDoorZ21
import Derived.Test.YtpceahbengfjeaaGreatDoorZ16
namespace Go.Ev
set_option linter.unusedVariables false
set_option linter.unusedSimpArgs false
section
section
variable {P:Program}
theorem pW {n:Nat} {t e:TypeId} {x:D} (h:Ty P n t x) (hu:P.underlying t=some (.slice e)): ∃ m es,x=.slice es []/\es.length<=maxLen/\ ∀ y∈es,Ty P m e y:=by
 cases n with
 |zero=>exact h.elim
 |succ n=>
  unfold Ty at h
  rw[hu]at h
  split at h<;>try (exact h.elim)
  all_goals try (simp_all;done)
  rename_i e es sp heq
  cases heq
  obtain⟨rfl,hl,hp⟩:=h
  exact⟨n,es,rfl,hl,hp⟩
theorem xH {n:Nat} {t:TypeId} {f:Field} {x:D} (h:Ty P n t x) (hu:P.underlying t=some (.struct #[f])): ∃ m a,x=.agg [a]/\Ty P m f.type a:=by
 cases n with
 |zero=>exact h.elim
 |succ n=>
  unfold Ty at h
  rw[hu]at h
  split at h<;>try (exact h.elim)
  all_goals try (simp_all;done)
  rename_i fs ps heq
  cases heq
  obtain⟨hl,hp⟩:=h
  have h0:=hp 0 f rfl
  match ps,hl,h0 with
  | [a],_,h0=>exact⟨n,a,rfl,h0⟩
theorem yC {n:Nat} {t:TypeId} {f g:Field} {x:D} (h:Ty P n t x) (hu:P.underlying t=some (.struct #[f,g])): ∃ m a b,x=.agg [a,b]/\Ty P m f.type a/\Ty P m g.type b:=by
 cases n with
 |zero=>exact h.elim
 |succ n=>
  unfold Ty at h
  rw[hu]at h
  split at h<;>try (exact h.elim)
  all_goals try (simp_all;done)
  rename_i fs ps heq
  cases heq
  obtain⟨hl,hp⟩:=h
  have h0:=hp 0 f rfl
  have h1:=hp 1 g rfl
  match ps,hl,h0,h1 with
  | [a,b],_,h0,h1=>exact⟨n,a,b,rfl,h0,h1⟩
def f4 (F:D->D->D->D->Option D):List D->Option D| [x,y,z,u]=>F x y z u|_=>none
theorem ag0 {f:FuncId} {fn:Func} {t t1 t2 t3 t4:TypeId} {F:D->D->D->D->Option D} (hf:FnOK P f fn) (h: ∀ x y z u d,F x y z u=some d->(∃ n,Ty P n t1 x)->(∃ n,Ty P n t2 y)->(∃ n,Ty P n t3 z)->(∃ n,Ty P n t4 u)->
   CallOK P f [dat t1 (bD P t1 x),dat t2 (bD P t2 y),dat t3 (bD P t3 z),dat t4 (bD P t4 u)] (aj P t d)):
  ∀ args d,ent [t1,t2,t3,t4] (f4 F) args=some d->CallOK P f args (aj P t d):=
 BO fun ds d hl hd=>match ds,hl,hd with
  | [x,y,z,u],_,hd=>CallOK.typed hf.ex (tY t d) fun hty=>(h x y z u d hd (hty (dat t1 x) (by simp)) (hty (dat t2 y) (by simp)) (hty (dat t3 z) (by simp)) (hty (dat t4 u) (by simp))).norm
end
def BV (l:List D):Bool:=l.isEmpty
theorem JZ {l:List D} (h:BV l=true):l=[]:=List.isEmpty_iff.1 h
theorem Yf (a b:Int):decide (a<b)=!decide (b<=a):=by by_cases h:b<=a<;>simp[h]<;>omega
theorem Qb (a b:Int):decide (a>b)=!decide (a<=b):=by by_cases h:a<=b<;>simp[h]<;>omega
theorem QS (a b:Int):decide (a>=b)=decide (b<=a):=rfl
theorem dT {p:Prop} [Decidable p] (h:p):decide p=true:=decide_eq_true h
theorem dF {p:Prop} [Decidable p] (h: ¬ p):decide p=false:=decide_eq_false h
def bz (n e:Int):Bool:=decide (0<=n)&&decide (n<e)
theorem dw {n e:Int} :bz n e=true↔0<=n/\n<e:=by unfold bz;rw[Bool.and_eq_true,decide_eq_true_eq,decide_eq_true_eq]
theorem mJ {n e:Int} :bz n e=false↔ ¬ (0<=n/\n<e):=by rw[<-dw,Bool.not_eq_true]
def yE (t:D):Int:=intD (af t 0)
def VP (t:D):Int:=intD (af t 1)
def Oc (c r:Int):D:=.agg [fO c,fO r]
def dR (t:D):Bool:=decide (1<=yE t)&&decide (yE t<=4)&&decide (1<=VP t)&&decide (VP t<=1000000)
theorem qw {t:D} :dR t=true↔1<=yE t/\yE t<=4/\1<=VP t/\VP t<=1000000:=by
 unfold dR
 simp only[Bool.and_eq_true,decide_eq_true_eq,and_assoc]
def lU (t:D):D:=bif dR t then t else Oc 0 0
theorem Dx (t:D):((intD (af (lU t) 0)==0)&&((intD (af (lU t) 1)==0)&&true))=!dR t:=by
 unfold lU
 cases h:dR t with
 |false=>rfl
 |true=>
  have:=(qw.1 h).1
  have e:(intD (af t 0)==0)=false:=by
   rw[beq_eq_false_iff_ne]
   unfold yE at this
   omega
  rw[cond_true,e]
  rfl
theorem D6 {ρ:Type} (t:D) (A B:ρ):
  (bif ((decide ((intD (af t 0))<1))==false)then
   bif ((decide ((intD (af t 0))>4))==false)then
    bif ((decide ((intD (af t 1))<1))==false)then
     bif decide ((intD (af t 1))>1000000)then A else B
    else A
   else A
  else A)=bif !dR t then A else B:=by
 unfold dR yE VP
 rw[Yf,Qb,Yf,Qb]
 generalize decide (1<=intD (af t 0))=a
 generalize decide (intD (af t 0)<=4)=b
 generalize decide (1<=intD (af t 1))=c
 generalize decide (intD (af t 1)<=1000000)=d
 cases a<;>cases b<;>cases c<;>cases d<;>rfl
def lV (ts:List D):D:=.agg [.slice ts []]
def tabs (c:D):List D:=ae (af c 0)
theorem iw (ts:List D):ae (af (lV ts) 0)=ts:=rfl
def lL (c:D):Bool:=decide (1<=(tabs c).length)&&decide ((tabs c).length<=4)&&(tabs c).all dR
theorem F6 {c:D} :lL c=true↔1<=(tabs c).length/\(tabs c).length<=4/\ ∀ t∈tabs c,dR t=true:=by
 unfold lL
 simp only[Bool.and_eq_true,decide_eq_true_eq,List.all_eq_true,and_assoc]
def kZ:D:=lV [Oc 2 100,Oc 1 10]
def jd:D:=lV [.slice [.slice [vv 0 1,vv 0 2] [],.slice [vv 0 3,vv 0 4] []] [],.slice [.slice [vv 0 4] []] []]
def aci (r:D):Bool:=decide (((ae r).length:Int)<=20)
def YM (t:D):Bool:=decide (((ae t).length:Int)<=20)&&(ae t).all aci
def Zl (d:D):Bool:=decide (((tabs d).length:Int)<=10)&&(tabs d).all YM
def Cj (occ col:Int):Int:=bif bz occ 4&&bz col 4 then occ*4+col else -1
theorem EP {a b:Int} (h1:0<=a/\a<4) (h2:0<=b/\b<4):Cj a b=a*4+b:=by
 unfold Cj
 rw[dw.2 h1,dw.2 h2]
 rfl
theorem yP {a b:Int} (h: ¬ ((0<=a/\a<4)/\(0<=b/\b<4))):Cj a b= -1:=by
 unfold Cj
 have:(bz a 4&&bz b 4)=false:=by
  rw[<-Bool.not_eq_true,Bool.and_eq_true,dw,dw]
  exact h
 rw[this]
 rfl
def dB (id:Int):Int:=bif bz id 16 then id.tdiv 4 else 0
def splitB (id:Int):Int:=bif bz id 16 then id.tmod 4 else 0
theorem vK {z:Int} (h:0<=z/\z<16):dB z=z / 4/\splitB z=z % 4:=by
 unfold dB splitB
 rw[dw.2 h,cond_true,cond_true,Int.tdiv_eq_ediv_of_nonneg h.1,Int.tmod_eq_emod_of_nonneg h.1]
 exact⟨rfl,rfl⟩
theorem Bq {z:Int} (h: ¬ (0<=z/\z<16)):dB z=0/\splitB z=0:=by
 unfold dB splitB
 rw[mJ.2 h]
 exact⟨rfl,rfl⟩
def Si (b:D):D:=aX (aQ b) (aK b)
def qQ (occ:Int) (i:Nat):D:=fO (Cj occ (i:Int))
def iy (n:Nat) (occ:Int):List D:=(List.range n).map (qQ occ)
def kz (t:D) (rows:List D) (occ:Int):D:=aX (iy (yE t).toNat occ) rows
def fitsRow (t r:D):Bool:=((ae r).length==(yE t).toNat)&&(ae r).all iI
def nD (t rows:D):Bool:=decide (((ae rows).length:Int)<=8)&&(ae rows).all (fitsRow t)
def xC (c d:D):Bool:=lL c&&(((tabs d).length==(tabs c).length)&&!(List.range' 0 (tabs c).length).any fun i=>!nD ((tabs c).getD i .nil) ((tabs d).getD i .nil))
theorem O9 {c d:D} :xC c d=true↔lL c=true/\(tabs d).length=(tabs c).length/\ ∀ i,i<(tabs c).length->nD ((tabs c).getD i .nil) ((tabs d).getD i .nil)=true:=by
 unfold xC
 rw[Bool.and_eq_true,Bool.and_eq_true,beq_iff_eq,Bool.not_eq_true',<-Bool.not_eq_true,List.any_eq_true]
 refine and_congr Iff.rfl (and_congr Iff.rfl ⟨fun h i hi=>?_,fun h ⟨i,hi,hh⟩=>?_⟩)
 ·cases hf:nD ((tabs c).getD i .nil) ((tabs d).getD i .nil)with
  |true=>rfl
  |false=>exact absurd ⟨i,by simpa using hi,by rw[hf];rfl⟩ h
 ·rw[h i (by simpa using hi)]at hh
  cases hh
def Ip (c d:D) (table occ:Int):Bool:=xC c d&&(bz table ((tabs c).length:Int)&&bz occ 4)
def Jv (c d:D) (table occ:Int):D:=bif Ip c d table occ then kz ((tabs c).getD table.toNat .nil) (ae ((tabs d).getD table.toNat .nil)) occ else aX [] []
theorem zy (n:Nat) (occ:Int):(iy n occ).length=n:=by unfold iy;simp
theorem Uk {n:Nat} {occ:Int} (hn:n<=4) (h:0<=occ/\occ<4):dm (iy n occ)=true:=by
 have hn':n=0\/n=1\/n=2\/n=3\/n=4:=by omega
 have ho:occ=0\/occ=1\/occ=2\/occ=3:=by omega
 rcases hn' with rfl|rfl|rfl|rfl|rfl<;>rcases ho with rfl|rfl|rfl|rfl<;>decide
theorem Oe {t:D} {rows:List D} {occ:Int} (ht:dR t=true) (hr:rows.length<=8) (h:0<=occ/\occ<4):bn (kz t rows occ)=rows.all (fitsRow t):=by
 obtain⟨h1,h2,_,_⟩:=qw.1 ht
 unfold bn
 have e1:dm (aQ (kz t rows occ))=true:=Uk (by omega) h
 have e2:decide ((aK (kz t rows occ)).length<=5000)=true:=dT (show rows.length<=5000 by omega)
 rw[e1,e2,Bool.true_and,Bool.true_and]
 unfold iQ
 show rows.all (fun r=>((ae r).length==(iy (yE t).toNat occ).length)&&(ae r).all iI)=_
 rw[zy]
 rfl
theorem UG {t:D} {rows:List D} {occ:Int} (ht:dR t=true) (hr:nD t (.slice rows [])=true):iY (kz t rows occ)=true:=by
 obtain⟨h1,h2,_,_⟩:=qw.1 ht
 unfold nD at hr
 rw[Bool.and_eq_true,decide_eq_true_eq,List.all_eq_true]at hr
 obtain⟨a,b⟩:=hr
 have a:(rows.length:Int)<=8:=a
 simp only[iY,Bool.and_eq_true,decide_eq_true_eq,List.all_eq_true]
 refine⟨⟨?_,?_⟩,fun r hm=>?_⟩
 ·show rows.length<=_
  omega
 ·show(iy _ _).length<=_
  rw[zy]
  omega
 ·have:=b r hm
  unfold fitsRow at this
  rw[Bool.and_eq_true,beq_iff_eq]at this
  omega
end
def VX (x:D):Int:=intD (af x 0)
def fP (x:D):List D:=ae (af x 1)
def ajr (n:Int):D:=.agg [.lit (.int .i64 n),.slice [] []]
def ahF (l:List D):D:=.agg [.lit (.int .i64 0),.slice l []]
def aby (n:Int):Bool:=decide (n>=0)&&decide (n<4)
def Qj:Nat->D->Int
 |0,_=>0
 |k+1,t=>bif (((fP t).length:Int)==0)&&aby (VX t)then TW .i64 1 (VX t)else
  bif (((fP t).length:Int)!=2)||(VX t !=0)then 0 else
  bif (Qj k ((fP t).getD 0 .nil)==0)||(Qj k ((fP t).getD 1 .nil)==0)||(ZL .i64 (Qj k ((fP t).getD 0 .nil)) (Qj k ((fP t).getD 1 .nil))!=0)then 0
  else orI .i64 (Qj k ((fP t).getD 0 .nil)) (Qj k ((fP t).getD 1 .nil))
def W9 (t:D):Int:=Qj 4 t
def agM (t:D):Bool:=W9 t !=0
def okT:Nat->D->Bool
 |0,_=>false
 |k+1,t=>(fP t).all (okT k)
def szT:Nat->D->Nat
 |0,_=>1
 |k+1,t=>1+((fP t).map (szT k)).sum
def smK (k:Nat) (t:D):Bool:=okT k t&&decide (szT k t<=100000)
def smT (t:D):Bool:=smK 130 t
def aiQ (n:Int):Int:=(n.tmod 2)+(n.tdiv 2).tmod 2+(n.tdiv 4).tmod 2+(n.tdiv 8).tmod 2
def goS (g:D->Int->Int) (most:Int):List D->Int->Int
 | [],n=>n
 |x::xs,n=>bif decide (n<=most)then goS g most xs (n+g x (most - n))else n
def szK:Nat->D->Int->Int
 |0,_,_=>1
 |k+1,t,most=>goS (szK k) most (fP t) 1
theorem aiu (k:Nat) (t:D):Qj (k+1) t=bif (((fP t).length:Int)==0)&&aby (VX t)then TW .i64 1 (VX t)else
  bif (((fP t).length:Int)!=2)||(VX t !=0)then 0 else
  bif (Qj k ((fP t).getD 0 .nil)==0)||(Qj k ((fP t).getD 1 .nil)==0)||(ZL .i64 (Qj k ((fP t).getD 0 .nil)) (Qj k ((fP t).getD 1 .nil))!=0)then 0
  else orI .i64 (Qj k ((fP t).getD 0 .nil)) (Qj k ((fP t).getD 1 .nil)):=rfl
theorem OJ (k:Nat) (t:D) (m:Int):szK (k+1) t m=goS (szK k) m (fP t) 1:=rfl
theorem jD {i n:Nat} (hn:n<=maxLen) (h:i<n):IntKind.wrap .i64 ((i:Int)+1)=((i+1:Nat):Int):=by
 rw[wrap_in]
 ·rfl
 ·rw[bH];unfold maxLen at hn;omega
theorem oh {i n:Nat} (h:i<n):(decide (0<=(i:Int))&&decide ((i:Int)<(n:Int)))=true:=by
 simp only[Bool.and_eq_true,decide_eq_true_eq];omega
theorem getD_lt {l:List D} {i:Nat} (h:i<l.length):l.getD i .nil=l[i]:=by simp[List.getD,h]
theorem NZ (g:D->Int->Int) (most:Int) (x:D) (xs:List D) (n:Int):goS g most (x::xs) n=bif decide (n<=most)then goS g most xs (n+g x (most - n))else n:=rfl
theorem JU {g:D->Int->Int} {most:Int} (hg: ∀ p m,0<=m->1<=g p m/\g p m<=m+1): ∀ (l:List D) (n:Int),1<=n->n<=most+1->1<=goS g most l n/\goS g most l n<=most+1
 | [],n,h1,h2=>⟨h1,h2⟩
 |x::xs,n,h1,h2=>by
  rw[NZ]
  by_cases h:n<=most
  ·have d:decide (n<=most)=true:=by simpa using h
   rw[d,cond_true]
   obtain⟨a,b⟩:=hg x (most - n) (by omega)
   exact JU hg xs _ (by omega) (by omega)
  ·have d:decide (n<=most)=false:=by simpa using h
   rw[d,cond_false]
   exact⟨h1,h2⟩
theorem Kr: ∀ (k:Nat) (t:D) (m:Int),0<=m->1<=szK k t m/\szK k t m<=m+1
 |0,t,m,h=>⟨Int.le_refl _,by show(1:Int)<=m+1;omega⟩
 |k+1,t,m,h=>by rw[OJ];exact JU (fun p m' h'=>Kr k p m' h') (fP t) 1 (by omega) (by omega)
structure aal (c d:D) (t a:Int) (T:D) (rows:List D):Prop where
 bag:Jv c d t a=kz T rows a
 may:dR T=true
 occ:0<=a/\a<4
 fit:rows.all (fitsRow T)=true
 few:rows.length<=8
 tab:0<=t/\t<((tabs d).length:Int)
 row:ae ((tabs d).getD t.toNat .nil)=rows
theorem told {c d:D} {t a:Int} (h:Ip c d t a=true):aal c d t a ((tabs c).getD t.toNat .nil) (ae ((tabs d).getD t.toNat .nil)):=by
 have h':=h
 unfold Ip at h'
 rw[Bool.and_eq_true,Bool.and_eq_true]at h'
 obtain⟨h1,h2,h3⟩:=h'
 obtain⟨f1,f2,f3⟩:=O9.1 h1
 have a1:=dw.1 h2
 have hi:t.toNat<(tabs c).length:=by omega
 have hft:=f3 _ hi
 unfold nD at hft
 rw[Bool.and_eq_true,decide_eq_true_eq]at hft
 refine⟨?_,?_,dw.1 h3,hft.2,by omega,by omega,rfl⟩
 ·unfold Jv
  rw[h]
  rfl
 ·rw[dA hi]
  exact(F6.1 f1).2.2 _ (List.getElem_mem hi)
theorem V5 {c d:D} {t a:Int} {T:D} {rows:List D} (h:aal c d t a T rows):bn (kz T rows a)=true:=by
 rw[Oe h.may h.few h.occ,h.fit]
theorem alU: ∀ x y:Fin 16,(ZL .i64 (x.val:Int) (y.val:Int)=0->(orI .i64 (x.val:Int) (y.val:Int):Int)=((x.val+y.val:Nat):Int)/\x.val+y.val<=15/\aiQ ((x.val+y.val:Nat):Int)=aiQ (x.val:Int)+aiQ (y.val:Int))/\
  ZL .i64 (x.val:Int) (y.val:Int)=ZL .i64 (y.val:Int) (x.val:Int)/\ZL .i64 (x.val:Int) (x.val:Int)=(x.val:Int)/\(aiQ (x.val:Int)>=4->x.val=15)/\ZL .i64 15 (y.val:Int)=(y.val:Int)/\0<=aiQ (x.val:Int)/\(x.val≠0->1<=aiQ (x.val:Int)):=by decide+kernel
theorem amF: ∀ n:Fin 4,1<=(TW .i64 1 (n.val:Int))/\(TW .i64 1 (n.val:Int))<=15:=by decide+kernel
def inT (x:Int):Prop:=0<=x/\x<=15
theorem aie {x:Int} (h:inT x): ∃ n:Fin 16,x=(n.val:Int):=⟨⟨x.toNat,by have:=h.1;have:=h.2;omega⟩,by have:=h.1;simp;omega⟩
structure B4 (x y:Int):Prop where
 or:ZL .i64 x y=0->orI .i64 x y=x+y/\x+y<=15/\aiQ (x+y)=aiQ x+aiQ y
 comm:ZL .i64 x y=ZL .i64 y x
 self:ZL .i64 x x=x
 full:aiQ x>=4->x=15
 all:ZL .i64 15 y=y
 pos:0<=aiQ x
 one:x≠0->1<=aiQ x
theorem b4 {x y:Int} (hx:inT x) (hy:inT y):B4 x y:=by
 obtain⟨n,rfl⟩:=aie hx
 obtain⟨m,rfl⟩:=aie hy
 obtain⟨h1,h2,h3,h4,h5,h6,h7⟩:=alU n m
 refine⟨fun h=>?_,h2,h3,fun h=>?_,h5,h6,fun h=>h7 (by omega)⟩
 ·obtain⟨a,b,c⟩:=h1 h
  exact⟨by rw[a];omega,by omega,by rw[<-c];congr 1⟩
 ·have:=h4 h;omega
theorem akp {n:Int} (h:aby n=true):1<=TW .i64 1 n/\TW .i64 1 n<=15:=by
 unfold aby at h
 rw[Bool.and_eq_true,decide_eq_true_eq,decide_eq_true_eq]at h
 have:=amF ⟨n.toNat,by omega⟩
 have e:((n.toNat:Nat):Int)=n:=by omega
 simp only[e]at this
 exact this
theorem ah9 (k:Nat) (t:D):(Qj (k+1) t=0)\/(fP t=[]/\aby (VX t)=true/\Qj (k+1) t=TW .i64 1 (VX t))\/
  (∃ a b,fP t=[a,b]/\VX t=0/\Qj k a≠0/\Qj k b≠0/\ZL .i64 (Qj k a) (Qj k b)=0/\Qj (k+1) t=orI .i64 (Qj k a) (Qj k b)):=by
 rw[aiu]
 cases h1:((((fP t).length:Int)==0)&&aby (VX t))with
 |true=>
  rw[Bool.and_eq_true]at h1
  have h0:=eq_of_beq h1.1
  exact .inr (.inl ⟨List.length_eq_zero_iff.1 (by omega),h1.2,by rw[cond_true]⟩)
 |false=>
  rw[cond_false]
  cases h2:((((fP t).length:Int)!=2)||(VX t !=0))with
  |true=>exact .inl (by rw[cond_true])
  |false=>
   rw[cond_false]
   cases h3:((Qj k ((fP t).getD 0 .nil)==0)||(Qj k ((fP t).getD 1 .nil)==0)||(ZL .i64 (Qj k ((fP t).getD 0 .nil)) (Qj k ((fP t).getD 1 .nil))!=0))with
   |true=>exact .inl (by rw[cond_true])
   |false=>
    rw[cond_false]
    rw[Bool.or_eq_false_iff]at h2
    have hl:((fP t).length:Int)=2:=by simpa using h2.1
    have ho:VX t=0:=by simpa using h2.2
    match hk:fP t,hl with
    | [a,b],_=>
     rw[hk]at h3
     simp only[Bool.or_eq_false_iff,beq_eq_false_iff_ne,bne_eq_false_iff_eq]at h3
     exact .inr (.inr ⟨a,b,rfl,ho,h3.1.1,h3.1.2,h3.2,rfl⟩)
    | [],h=>simp at h
    | [_],h=>simp at h
    |_::_::_::l,h=>simp only[List.length_cons]at h;omega
theorem ah7: ∀ (k:Nat) (t:D),inT (Qj k t)
 |0,t=>⟨Int.le_refl _,by show(0:Int)<=15;omega⟩
 |k+1,t=>by
  rcases ah9 k t with h|⟨_,h2,h⟩|⟨a,b,_,_,h1,h2,h3,h⟩
  ·rw[h];exact⟨Int.le_refl _,by omega⟩
  ·rw[h]
   have:=akp h2
   exact⟨by omega,this.2⟩
  ·have B:=b4 (ah7 k a) (ah7 k b)
   obtain⟨o1,o2,_⟩:=B.or h3
   have:=(ah7 k a).1
   have:=(ah7 k b).1
   rw[h,o1]
   exact⟨by omega,o2⟩
theorem ajt {k:Nat} {t:D} (h1:fP t=[]) (h2:aby (VX t)=true):Qj (k+1) t=TW .i64 1 (VX t):=by
 rw[aiu,h1,h2]
 rfl
theorem akC {k:Nat} {t a b:D} (h1:fP t=[a,b]) (h2:VX t=0):Qj (k+1) t=bif (Qj k a==0)||(Qj k b==0)||(ZL .i64 (Qj k a) (Qj k b)!=0)then 0 else orI .i64 (Qj k a) (Qj k b):=by
 rw[aiu,h1,h2]
 rfl
theorem aiA {k:Nat} {t a b:D} (h1:fP t=[a,b]) (h2:VX t=0) (ha:Qj k a≠0) (hb:Qj k b≠0) (h:ZL .i64 (Qj k a) (Qj k b)=0):Qj (k+1) t=orI .i64 (Qj k a) (Qj k b):=by
 rw[akC h1 h2]
 have e1:(Qj k a==0)=false:=by simpa using ha
 have e2:(Qj k b==0)=false:=by simpa using hb
 rw[e1,e2,h]
 rfl
theorem ah8: ∀ (k:Nat) (t:D),Qj k t≠0->Qj (k+1) t=Qj k t
 |0,t,h=>absurd rfl h
 |k+1,t,h=>by
  rcases ah9 k t with h0|⟨h1,h2,h3⟩|⟨a,b,hk,ho,ha,hb,hab,h3⟩
  ·exact absurd h0 h
  ·rw[ajt h1 h2,h3]
  ·have ea:=ah8 k a ha
   have eb:=ah8 k b hb
   rw[aiA hk ho (by rw[ea];exact ha) (by rw[eb];exact hb) (by rw[ea,eb];exact hab),ea,eb,h3]
theorem aiV (t:D):agM t=decide (W9 t>0):=by
 have:=ah7 4 t
 unfold agM
 by_cases h:W9 t=0
 ·rw[h];rfl
 ·have h1:(W9 t !=0)=true:=by rw[bne_iff_ne];exact h
  have h2:decide (W9 t>0)=true:=by
   rw[decide_eq_true_eq]
   have h0:0<=W9 t:=this.1
   omega
  rw[h1,h2]
end Go.Ev
