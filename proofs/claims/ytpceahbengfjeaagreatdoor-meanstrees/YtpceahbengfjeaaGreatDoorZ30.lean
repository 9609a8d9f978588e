/- Trees of functions, and lemmas. Nothing here is trusted. -/
import Derived.Test.YtpceahbengfjeaaGreatDoorZ29
import Derived.Test.YtpceahbengfjeaaGreatDoorZ21
namespace Go.Ev
set_option linter.unusedVariables false
set_option linter.unusedSimpArgs false
section
def ain:Prop:= ∀ (e:D) (C r C' r':List D),(∀ z∈mg e,atD (intD z) C r=atD (intD z) C' r')->BF e C r=BF e C' r'
theorem akN {s:Int} {n i:Nat} (h0:0<=s) (h:s<2 ^ n) (hi:n<=i):inS s i=false:=by
 by_cases h64:i<64
 ·rw[ak9 s i h64,decide_eq_false_iff_not]
  have h1:s<2 ^ i:=by
   have:(2:Int) ^ n<=2 ^ i:=by exact_mod_cast Nat.pow_le_pow_right (show 0<2 by decide) hi
   omega
  rw[Int.ediv_eq_zero_of_lt h0 h1]
  decide
 ·unfold inS
  exact BitVec.getLsbD_of_ge _ _ (by omega)
theorem ald: ∀ n:Fin 5,TW .i64 1 ((n.val:Nat):Int)=2 ^ n.val:=by decide
theorem akG {t:D} {k:Nat} (h:Qj k t≠0): ∀ m,k<=m->Qj m t=Qj k t
 | 0, hm => by have:k=0:=by omega
               subst this;rfl
 |m+1,hm=>by
  by_cases hk:k=m+1
  ·rw[hk]
  ·have ih:=akG h m (by omega)
   rw[ah8 m t (by rw[ih];exact h),ih]
theorem aiY {t:D} {k:Nat} (h:Qj k t≠0) (hk:k<=4):W9 t=Qj k t:=akG h 4 hk
def lvN:Nat->D->List Nat
 |0,_=>[]
 |k+1,t=>bif ((fP t).length:Int)==0 then [(VX t).toNat]else lvN k (k0 t)++lvN k (k1 t)
theorem akS (k:Nat) (t:D):lvN (k+1) t=bif ((fP t).length:Int)==0 then [(VX t).toNat]else lvN k (k0 t)++lvN k (k1 t):=rfl
theorem ais {k:Nat} {t:D} (h:fP t=[]):lvN (k+1) t=[(VX t).toNat]:=by unfold lvN;rw[h];rfl
theorem aik {k:Nat} {t a b:D} (h:fP t=[a,b]):lvN (k+1) t=lvN k a++lvN k b:=by rw[akS];unfold k0 k1;rw[h];rfl
theorem aig: ∀ (k:Nat) (t:D),Qj k t≠0->(lvN k t).Nodup/\ ∀ i,i∈lvN k t↔inS (Qj k t) i=true
 |0,t,h=>absurd rfl h
 |k+1,t,h=>by
  rcases ah9 k t with h0|⟨h1,h2,h3⟩|⟨a,b,hk,ho,ha,hb,hab,h3⟩
  ·exact absurd h0 h
  ·rw[ais h1,h3]
   unfold aby at h2
   simp only[Bool.and_eq_true,decide_eq_true_eq]at h2
   refine⟨List.nodup_cons.2 ⟨by simp,List.nodup_nil⟩,fun i=>?_⟩
   rw[show TW .i64 1 (VX t)=LQ (VX t)from rfl,ajw ⟨by omega,h2.2⟩,decide_eq_true_eq,List.mem_singleton]
   omega
  ·obtain⟨na,ma⟩:=aig k a ha
   obtain⟨nb,mb⟩:=aig k b hb
   rw[aik hk,h3]
   refine⟨List.nodup_append.2 ⟨na,nb,fun x hx y hy hxy=>?_⟩,fun i=>?_⟩
   ·subst hxy
    exact and_zero.1 hab x ⟨(ma x).1 hx,(mb x).1 hy⟩
   ·rw[List.mem_append,ma,mb,ajD,Bool.or_eq_true]
theorem aiG {q:D} {k:Nat} {t:D} (h:Qj k t≠0) (hn:(dQ q).length<=4) (hlt:Qj k t<TW .i64 1 ((dQ q).length:Int)):xQ q (lvN k t):=by
 intro o ho
 have h1:=((aig k t h).2 o).1 ho
 have h2:=ald ⟨(dQ q).length,by omega⟩
 simp only at h2
 rw[h2]at hlt
 by_cases hh:o<(dQ q).length
 ·exact hh
 ·rw[akN (ah7 k t).1 hlt (by omega)]at h1
  cases h1
def aiN (q:D) (s:Int):List D:=(qP q).filter fun e=>MB s (ofE e)
def akw (q:D) (a b:Int):List D:=(qP q).filter fun e=>ahf a b (ofE e)
theorem akc (f:D->Bool) (l:List D): ∀ (es:List D) (i:Nat),(∀ k,k<es.length->l.getD (i+k) .nil=es.getD k .nil)->(plc f es i).map (fun z=>l.getD (intD z).toNat .nil)=es.filter f
 | [],_,_=>rfl
 |e::es,i,h=>by
  have ih:=akc f l es (i+1) (fun k hk=>by
   have:=h (k+1) (by simp;omega)
   rw[show i+(k+1)=i+1+k by omega]at this
   exact this)
  rw[ajg,List.map_append,ih,List.filter_cons]
  have h0:=h 0 (by simp)
  cases hf:f e with
  |true=>
   rw[cond_true,if_pos rfl]
   show [l.getD (intD (fO (i:Int))).toNat .nil]++_=_
   have:(intD (fO (i:Int))).toNat=i:=by show((i:Int)).toNat=i;omega
   rw[this]
   have h0:l.getD i .nil=e:=h0
   rw[h0]
   rfl
  |false=>rw[cond_false];simp
theorem alx (q:D) (s:Int):atL q (afL q s)=aiN q s:=akc _ _ _ 0 (fun k _=>by rw[Nat.zero_add])
theorem at_new (q:D) (a b:Int):atL q (afl q a b)=akw q a b:=akc _ _ _ 0 (fun k _=>by rw[Nat.zero_add])
theorem agO {q:D} (hp:(qP q).length<=6) (f:D->Bool):acX q (plc f (qP q) 0)=true:=by
 unfold acX
 simp only[Bool.and_eq_true,decide_eq_true_eq,List.all_eq_true]
 refine⟨?_,fun x hx=>?_⟩
 ·rw[ah2]
  exact Nat.le_trans (List.countP_le_length) (by omega)
 ·obtain⟨k,hk,rfl,_⟩:=ah1.1 hx
  rw[show intD (fO ((0+k:Nat):Int))=((0+k:Nat):Int)from rfl]
  omega
theorem alD {q:D} (hp:(qP q).length<=6) (s:Int):acX q (afL q s)=true:=agO hp _
theorem alO {q:D} (hp:(qP q).length<=6) (a b:Int):acX q (afl q a b)=true:=agO hp _
variable {c d q:D}
theorem aaE (h:Asks c d q) {z:Int} (hz:jT c q z=true):(dB z).toNat<(dQ q).length/\hasB (CO c d q (dB z).toNat) z=true:=by
 unfold jT at hz
 simp only[Bool.and_eq_true,decide_eq_true_eq]at hz
 obtain⟨h1,h2,h3⟩:=hz
 have hb:=dw.1 h1
 obtain⟨s1,s2⟩:=vK (z:=z) ⟨hb.1,hb.2⟩
 have hlt:(dB z).toNat<(dQ q).length:=by omega
 refine⟨hlt,?_⟩
 have ho:=E9 h hlt
 rw[ho.seen]
 have e:(((dB z).toNat:Nat):Int)=dB z:=by omega
 rw[e]
 refine yN.2 ⟨qQ (dB z) (splitB z).toNat,?_,?_⟩
 ·unfold iy
  refine List.mem_map.2 ⟨(splitB z).toNat,List.mem_range.2 (by omega),rfl⟩
 ·show Cj (dB z) (((splitB z).toNat:Nat):Int)=z
  rw[EP (by omega) (by omega)]
  omega
theorem ajk (h:Asks c d q) {e:D} (he:e∈qP q) {s:Int} (hs:MB s (ofE e)=true) {l:List Nat} (hl: ∀ i,inS s i=true->i∈l) {z:D} (hz:z∈mg e):hasB (PC c d q l) (intD z)=true:=by
 have hc:=(h.ex e he).2
 unfold gm at hc
 rw[List.all_eq_true]at hc
 obtain⟨h1,h2⟩:=aaE h (hc z hz)
 have hin:inS (ofE e) (dB (intD z)).toNat=true:=by
  rw[alE,List.any_eq_true]
  have:=ajU (intD z)
  exact⟨z,hz,by rw[decide_eq_true_eq];omega⟩
 exact aa7.2 ⟨_,hl _ (ajh.1 hs _ hin),h2⟩
theorem aln {cs cs' x y:List D} {z:Int} (h0:hasB cs z=false) (h:hasB cs' z=true) (hl:x.length=cs.length):atD z (cs++cs') (x++y)=atD z cs' y:=by
 obtain⟨a,b⟩:=Ha h
 have e1:=aiO h0 h
 unfold bC at a b e1
 have e2:(x++y).getD ((cs.length:Int)+Lib.idxOf (cs'.map intD) z).toNat .nil=y.getD (Lib.idxOf (cs'.map intD) z).toNat .nil:=by
  have hn:((cs.length:Int)+Lib.idxOf (cs'.map intD) z).toNat=x.length+(Lib.idxOf (cs'.map intD) z).toNat:=by omega
  rw[hn,List.getD_eq_getElem?_getD,List.getD_eq_getElem?_getD,List.getElem?_append_right (by omega),Nat.add_sub_cancel_left]
 unfold atD
 rw[e1,e2]
 have f1:decide ((cs.length:Int)+Lib.idxOf (cs'.map intD) z<0)=decide (Lib.idxOf (cs'.map intD) z<0):=by rw[decide_eq_decide];omega
 have f2:decide ((cs.length:Int)+Lib.idxOf (cs'.map intD) z>=((x++y).length:Int))=decide (Lib.idxOf (cs'.map intD) z>=(y.length:Int)):=by rw[decide_eq_decide,List.length_append];omega
 rw[f1,f2]
theorem aii {es C r:List D} :nM es C r=true↔ ∀ e∈es,BF e C r=true:=by unfold nM;rw[List.all_eq_true]
theorem ajW {a b:Bool} (h:a=true↔b=true):a=b:=by cases a<;>cases b<;>simp_all
theorem aia {s:Int} {e:D} :e∈aiN q s↔e∈qP q/\MB s (ofE e)=true:=by unfold aiN;rw[List.mem_filter]
theorem ajM {a b:Int} {e:D} :e∈akw q a b↔e∈qP q/\ahf a b (ofE e)=true:=by unfold akw;rw[List.mem_filter]
theorem aiT {S:List (List D)} {p:List D->Bool} {pa pb pn:List D->Bool} : ∀ (R:List (List D)),(∀ x∈R,∀ y∈S,p (x++y)=(pa x&&pb y&&pn (x++y)))->
  ((R.filter pa).flatMap fun x=>(S.filter pb).map (x++ ·)).filter pn=(R.flatMap fun x=>S.map (x++ ·)).filter p
 | [],_=>rfl
 |x::R,h=>by
  have ih:=aiT (S:=S) (p:=p) (pa:=pa) (pb:=pb) (pn:=pn) R (fun x' hx' y hy=>h x' (by simp[hx']) y hy)
  have hx:((S.filter pb).map (x++ ·)).filter pn=if pa x then(S.map (x++ ·)).filter p else((S.filter pb).map (x++ ·)).filter pn:=by
   split
   ·rename_i hpa
    rw[List.filter_map,List.filter_map,List.filter_filter]
    congr 1
    refine List.filter_congr fun y hy=>?_
    simp only[Function.comp]
    rw[h x (by simp) y hy,hpa,Bool.true_and,Bool.and_comm]
   ·rfl
  rw[List.flatMap_cons,List.filter_append,List.filter_cons]
  split
  ·rename_i hpa
   rw[List.flatMap_cons,List.filter_append,ih,hx,if_pos hpa]
  ·rename_i hpa
   have hpa:pa x=false:=by simpa using hpa
   have hz:(S.map (x++ ·)).filter p=[]:=by
    rw[List.filter_map,List.filter_eq_nil_iff.2 (fun y hy=>by
     simp only[Function.comp]
     rw[h x (by simp) y hy,hpa]
     simp)]
    rfl
   rw[hz,List.nil_append,ih]
theorem akB (HK:ain) (h:Asks c d q) {l m:List Nat} {a b:Int} (hl:xQ q (l++m)) (hn:(l++m).Nodup) (ha: ∀ i,inS a i=true->i∈l) (hb: ∀ i,inS b i=true->i∈m):
  OZ (akw q a b) (PC c d q (l++m)) ((OZ (aiN q a) (PC c d q l) (PR c d q l)).flatMap fun x=>(OZ (aiN q b) (PC c d q m) (PR c d q m)).map (x++ ·))=OZ (aiN q (orI .i64 a b)) (PC c d q (l++m)) (PR c d q (l++m)):=by
 have hn':=List.nodup_append.1 hn
 have hl1:xQ q l:=fun o ho=>hl o (List.mem_append.2 (.inl ho))
 have hl2:xQ q m:=fun o ho=>hl o (List.mem_append.2 (.inr ho))
 have hdis: ∀ o∈m,o∉l:=fun o ho hm=>hn'.2.2 o hm o ho rfl
 unfold OZ
 rw[Yd]
 refine aiT _ fun x hx y hy=>?_
 have hxl:=(Kv h hl1 x hx).1
 have hA: ∀ e∈qP q,MB a (ofE e)=true->BF e (PC c d q l++PC c d q m) (x++y)=BF e (PC c d q l) x:=fun e he hs=>
  HK e _ _ _ _ fun z hz=>alH (ajk h he hs ha hz) hxl
 have hB: ∀ e∈qP q,MB b (ofE e)=true->BF e (PC c d q l++PC c d q m) (x++y)=BF e (PC c d q m) y:=fun e he hs=>
  HK e _ _ _ _ fun z hz=>by
   have hb1:=ajk h he hs hb hz
   refine aln ?_ hb1 hxl
   obtain⟨w,hw,ew⟩:=yN.1 hb1
   cases hh:hasB (PC c d q l) (intD z)with
   |false=>rfl
   |true=>
    obtain⟨v,hv,ev⟩:=yN.1 hh
    obtain⟨o,ho,h1⟩:=OV h hl2 hw
    obtain⟨p,hp,h2⟩:=OV h hl1 hv
    rw[ew]at h1
    rw[ev]at h2
    have:o=p:=by omega
    subst this
    exact absurd hp (hdis o ho)
 rw[aaH]
 refine ajW ?_
 rw[Bool.and_eq_true,Bool.and_eq_true,aii,aii,aii,aii]
 constructor
 ·intro H
  refine⟨⟨fun e he=>?_,fun e he=>?_⟩,fun e he=>?_⟩
  ·obtain⟨h1,h2⟩:=aia.1 he
   rw[<-hA e h1 h2]
   exact H e (aia.2 ⟨h1,akZ h2⟩)
  ·obtain⟨h1,h2⟩:=aia.1 he
   rw[<-hB e h1 h2]
   exact H e (aia.2 ⟨h1,akX h2⟩)
  ·obtain⟨h1,h2⟩:=ajM.1 he
   unfold ahf at h2
   simp only[Bool.and_eq_true]at h2
   exact H e (aia.2 ⟨h1,h2.1.1⟩)
 ·rintro⟨⟨H1,H2⟩,H3⟩ e he
  obtain⟨h1,h2⟩:=aia.1 he
  cases ha':MB a (ofE e)with
  |true=>rw[hA e h1 ha'];exact H1 e (aia.2 ⟨h1,ha'⟩)
  |false=>
   cases hb':MB b (ofE e)with
   |true=>rw[hB e h1 hb'];exact H2 e (aia.2 ⟨h1,hb'⟩)
   |false=>exact H3 e (ajM.2 ⟨h1,by unfold ahf;rw[h2,ha',hb'];rfl⟩)
theorem O3 (es C:List D) (R:List (List D)):(OZ es C R).length<=R.length:=List.length_filter_le _ _
structure aiK (c d q:D) (k:Nat) (t:D):Prop where
 asks:Asks c d q
 ne:Qj k t≠0
 lt:Qj k t<TW .i64 1 ((dQ q).length:Int)
theorem aih {k:Nat} {t:D} :aiy c d q k t=true↔aiK c d q k t:=by
 unfold aiy
 rw[Bool.and_eq_true,Bool.and_eq_true,bne_iff_ne,decide_eq_true_eq]
 refine⟨fun⟨h1,h2,h3⟩=>⟨zx h1,h2,h3⟩,fun⟨h1,h2,h3⟩=>⟨?_,h2,h3⟩⟩
 unfold iR
 rw[h1.may,h1.fit]
 rfl
theorem amn: ∀ x y:Fin 16,((x.val:Nat):Int)<=orI .i64 ((x.val:Nat):Int) ((y.val:Nat):Int)/\((y.val:Nat):Int)<=orI .i64 ((x.val:Nat):Int) ((y.val:Nat):Int):=by decide
theorem alp {x y:Int} (hx:inT x) (hy:inT y):x<=orI .i64 x y/\y<=orI .i64 x y:=by
 obtain⟨a,rfl⟩:=aie hx
 obtain⟨b,rfl⟩:=aie hy
 exact amn a b
theorem ai5 {k:Nat} {t:D} (h:aiK c d q (k+1) t):
  (fP t=[]/\ ∃ o:Nat,VX t=(o:Int)/\o<(dQ q).length/\lvN (k+1) t=[o]/\Qj (k+1) t=LQ (o:Int))\/
  (∃ a b,fP t=[a,b]/\aiK c d q k a/\aiK c d q k b/\lvN (k+1) t=lvN k a++lvN k b/\Qj (k+1) t=orI .i64 (Qj k a) (Qj k b)):=by
 have hoc:=aiG h.ne h.asks.n4 h.lt
 rcases ah9 k t with h0|⟨h1,h2,h3⟩|⟨a,b,hk,ho,ha,hb,hab,h3⟩
 ·exact absurd h0 h.ne
 ·unfold aby at h2
  simp only[Bool.and_eq_true,decide_eq_true_eq]at h2
  have e:VX t=(((VX t).toNat:Nat):Int):=by omega
  rw[ais h1]at hoc
  exact .inl ⟨h1,(VX t).toNat,e,hoc _ (by simp),ais h1,by rw[h3,<-e];rfl⟩
 ·have hle:=alp (ah7 k a) (ah7 k b)
  rw[<-h3]at hle
  have hlt:=h.lt
  exact .inr ⟨a,b,hk,⟨h.asks,ha,by omega⟩,⟨h.asks,hb,by omega⟩,aik hk,h3⟩
theorem aio (k:Nat) (t:D):XA c d q (k+1) t=bif ((fP t).length:Int)==0 then oQ (lX c d q (VX t)) (atL q (afL q (W9 t)))
  else oQ (jf (XA c d q k (k0 t)) (XA c d q k (k1 t))) (atL q (afl q (W9 (k0 t)) (W9 (k1 t)))):=rfl
theorem aiC (HK:ain): ∀ (k:Nat) (t:D),k<=4->aiK c d q k t->Vw (XA c d q k t) (PC c d q (lvN k t)) (OZ (aiN q (Qj k t)) (PC c d q (lvN k t)) (PR c d q (lvN k t)))
 |0,t,_,h=>absurd rfl h.ne
 |k+1,t,hk4,h=>by
  have hst:=aiY h.ne hk4
  rcases ai5 h with⟨h1,o,ho,hlt,hlv,hs⟩|⟨a,b,hk,ha,hb,hlv,hs⟩
  ·have e:XA c d q (k+1) t=oQ (lX c d q (o:Int)) (aiN q (Qj (k+1) t)):=by
    rw[aio,h1,hst,alx,ho]
    rfl
   rw[e,hlv,PZ,show PC c d q [o]=CO c d q o by unfold PC;simp]
   exact ZJ ⟨rfl,rfl⟩ _
  ·have va:=aiC HK k a (by omega) ha
   have vb:=aiC HK k b (by omega) hb
   have sa:=aig k a ha.ne
   have sb:=aig k b hb.ne
   have st:=aig (k+1) t h.ne
   have hoc:=aiG h.ne h.asks.n4 h.lt
   rw[hlv]at st hoc
   obtain⟨x1,x2⟩:=NP h.asks hoc st.1 va vb (fun r hr=>VD hr) (fun r hr=>VD hr) (O3 _ _ _) (O3 _ _ _)
   have e:XA c d q (k+1) t=oQ (jf (XA c d q k a) (XA c d q k b)) (akw q (Qj k a) (Qj k b)):=by
    have q1:k0 t=a:=by unfold k0;rw[hk];rfl
    have q2:k1 t=b:=by unfold k1;rw[hk];rfl
    have q3:(((fP t).length:Int)==0)=false:=by rw[hk];rfl
    rw[aio,q1,q2,q3,cond_false,aiY ha.ne (by omega),aiY hb.ne (by omega),at_new]
   have hv:=ZJ x2 (akw q (Qj k a) (Qj k b))
   rw[akB HK h.asks hoc st.1 (fun i hi=>(sa.2 i).2 hi) (fun i hi=>(sb.2 i).2 hi)]at hv
   rw[e,hlv,hs]
   exact hv
theorem ake (HK:ain) {k:Nat} {t a b:D} (hk4:k+1<=4) (h:aiK c d q (k+1) t) (hk:fP t=[a,b]) (ha:aiK c d q k a) (hb:aiK c d q k b):jM (XA c d q k a) (XA c d q k b)=true:=by
 have st:=aig (k+1) t h.ne
 have hoc:=aiG h.ne h.asks.n4 h.lt
 rw[aik hk]at st hoc
 exact(NP h.asks hoc st.1 (aiC HK k a (by omega) ha) (aiC HK k b (by omega) hb) (fun r hr=>VD hr) (fun r hr=>VD hr) (O3 _ _ _) (O3 _ _ _)).1
theorem tH {n:Nat} (h:n<=(dQ q).length):xQ q (List.range n):=fun o ho=>by have:=List.mem_range.1 ho;omega
theorem BR (h:Asks c d q): ∀ m,m<(dQ q).length->Vw (GU c d q m) (PC c d q (List.range (m+1))) (PR c d q (List.range (m+1)))
 |0,_=>by
  rw[show List.range (0+1)=[0]from rfl,PZ,show PC c d q [0]=CO c d q 0 by unfold PC;simp]
  exact⟨rfl,rfl⟩
 |m+1,hm=>by
  have ih:=BR h m (by omega)
  have h1:Vw (lX c d q ((m+1:Nat):Int)) (PC c d q [m+1]) (PR c d q [m+1]):=by
   rw[PZ,show PC c d q [m+1]=CO c d q (m+1) by unfold PC;simp]
   exact⟨rfl,rfl⟩
  have e:List.range (m+1+1)=List.range (m+1)++[m+1]:=List.range_succ
  have hn:(List.range (m+1)++[m+1]).Nodup:=by rw[<-e];exact List.nodup_range
  have ho:xQ q (List.range (m+1)++[m+1]):=by rw[<-e];exact tH (by omega)
  have:=(NP h ho hn ih h1 (fun r hr=>hr) (fun r hr=>hr) (Nat.le_refl _) (Nat.le_refl _)).2
  rw[<-Yd,<-e]at this
  exact this
theorem Qd (h:Asks c d q) {m:Nat} (hm:m+1<(dQ q).length):jM (GU c d q m) (lX c d q ((m+1:Nat):Int))=true:=by
 have ih:=BR h m (by omega)
 have h1:Vw (lX c d q ((m+1:Nat):Int)) (PC c d q [m+1]) (PR c d q [m+1]):=by
  rw[PZ,show PC c d q [m+1]=CO c d q (m+1) by unfold PC;simp]
  exact⟨rfl,rfl⟩
 have e:List.range (m+1+1)=List.range (m+1)++[m+1]:=List.range_succ
 have hn:(List.range (m+1)++[m+1]).Nodup:=by rw[<-e];exact List.nodup_range
 have ho:xQ q (List.range (m+1)++[m+1]):=by rw[<-e];exact tH (by omega)
 exact(NP h ho hn ih h1 (fun r hr=>hr) (fun r hr=>hr) (Nat.le_refl _) (Nat.le_refl _)).1
theorem G8 (h:Asks c d q):Vw (jW c d q) (PC c d q (List.range (dQ q).length)) (PR c d q (List.range (dQ q).length)):=by
 have:=BR h ((dQ q).length - 1) (by have:=h.n1;omega)
 have hn:=h.n1
 rw[show(dQ q).length - 1+1=(dQ q).length by omega]at this
 exact this
theorem Yn (h:Asks c d q):Vw (uo c d q) (PC c d q (List.range (dQ q).length)) (OZ (qP q) (PC c d q (List.range (dQ q).length)) (PR c d q (List.range (dQ q).length))):=
 ZJ (G8 h) _
theorem ZN (h:Asks c d q) {l:List Nat} (hl:xQ q l) (hn:l.Nodup) {b:D} {R:List (List D)} (hv:Vw b (PC c d q l) R) (hR: ∀ r∈R,r∈PR c d q l) (hRl:R.length<=(PR c d q l).length):bn b=true:=by
 have f1:=KX h hl
 have f2:=EK h hl hn
 exact Qr hv (KN h hl hn) (by omega) fun r hr=>Kv h hl r (hR r hr)
theorem QU {b:D} (h:bn b=true):iY b=true:=by
 obtain⟨h1,h2,h3⟩:=o5.1 h
 have h4:=pM h1
 unfold iY
 simp only[Bool.and_eq_true,decide_eq_true_eq,List.all_eq_true]
 exact⟨⟨by omega,by omega⟩,fun r hr=>by rw[(h3 r hr).1];omega⟩
end
section
variable {c d q:D}
theorem Uw: ∀ {l:List D},P6 l=false->(l.map intD).Nodup:=by
 intro l h
 unfold List.Nodup
 rw[List.pairwise_iff_getElem]
 intro i j hi hj hij e
 have hi:i<l.length:=by simpa using hi
 have hj':j<l.length:=by simpa using hj
 unfold P6 at h
 rw[List.any_eq_false]at h
 refine h j (List.mem_range'_1.2 ⟨Nat.zero_le _,by omega⟩) ?_
 rw[yN]
 refine⟨l[i],?_,?_⟩
 ·rw[List.mem_iff_getElem?]
  exact⟨i,by rw[List.getElem?_take,if_pos hij,List.getElem?_eq_getElem hi]⟩
 ·rw[dA hj']
  simpa using e
theorem RD {l:List D} :gm c q l=true↔ ∀ x∈l,jT c q (intD x)=true:=by unfold gm;rw[List.all_eq_true]
theorem OX (h:Asks c d q) {l:List Nat} (hall: ∀ o,o<(dQ q).length->o∈l) {z:Int} (hz:jT c q z=true):hasB (PC c d q l) z=true:=by
 obtain⟨h1,h2⟩:=aaE h hz
 exact aa7.2 ⟨_,hall _ h1,h2⟩
theorem DC (h:Asks c d q) {l:List Nat} (hall: ∀ o,o<(dQ q).length->o∈l) {s:List D} (hs:gm c q s=true):gG (PC c d q l) s=true:=by
 unfold gG
 rw[List.all_eq_true]
 intro z hz
 obtain⟨x,hx,rfl⟩:=List.mem_map.1 hz
 exact OX h hall (RD.1 hs x hx)
theorem aaF (h:Asks c d q):QP c q=true:=by
 have:=h.may
 unfold HY at this
 simp only[Bool.and_eq_true]at this
 exact this.2.2.2
theorem zL {l:List D} (h1:gm c q l=true) (h2:P6 l=false):dm l=true:=by
 unfold dm
 rw[Bool.and_eq_true]
 refine⟨?_,BJ (Uw h2)⟩
 rw[List.all_eq_true]
 intro z hz
 obtain⟨x,hx,rfl⟩:=List.mem_map.1 hz
 have:=RD.1 h1 x hx
 unfold jT at this
 rw[Bool.and_eq_true]at this
 have hb:=dw.1 this.1
 simp only[Bool.and_eq_true,decide_eq_true_eq]
 omega
theorem abg (h:Asks c d q) {l:List Nat} (hall: ∀ o,o<(dQ q).length->o∈l) {b:D} (hC:aQ b=PC c d q l) (hb:bn b=true):gB q b=true:=by
 have he:=aaF h
 unfold QP at he
 unfold gB
 cases hq:qBy q== -1 with
 |true=>
  rw[hq,cond_true]at he
  have hq':(qBy q != -1)=false:=by unfold bne;rw[hq];rfl
  rw[hq',cond_false]
  unfold JO at he
  simp only[Bool.and_eq_true,Bool.not_eq_true']at he
  unfold gy
  rw[hb,zL he.2.2.2.1 he.2.2.2.2.1,hC,DC h hall he.2.2.2.1]
  rfl
 |false=>
  rw[hq,cond_false]at he
  have hq':(qBy q != -1)=true:=by unfold bne;rw[hq];rfl
  rw[hq',cond_true]
  unfold xf at he
  simp only[Bool.and_eq_true]at he
  unfold dO
  rw[hb,hC,OX h hall he.1,DC h hall he.2.2.1,he.2.1]
  rfl
theorem SY (h:Asks c d q):bn (uo c d q)=true:=
 ZN h (tH (Nat.le_refl _)) List.nodup_range (Yn h) (fun r hr=>VD hr) (O3 _ _ _)
theorem SC (h:Asks c d q):gB q (uo c d q)=true:=
 abg h (l:=List.range (dQ q).length) (fun o ho=>List.mem_range.2 ho) (Yn h).1 (SY h)
theorem Ns (h:Asks c d q):bn (jW c d q)=true:=
 ZN h (tH (Nat.le_refl _)) List.nodup_range (G8 h) (fun r hr=>hr) (Nat.le_refl _)
end
theorem SQ (cols:List D) (p:Int) (sums:List D): ∀ (k:Nat) (rows:List D),(uP cols p sums k rows).length<=rows.length
 |0,rows=>Nat.zero_le _
 |k+1,[]=>Nat.le_refl _
 |k+1,r::rows=>by
  unfold uP
  have ih:=SQ cols p sums k ((r::rows).drop (eU (r::rows) p))
  have h1:1<=eU (r::rows) p:=by unfold eU;omega
  simp only[List.length_cons,List.length_drop]at ih⊢
  omega
theorem RU (cols:List D) (p:Int) (sums:List D): ∀ (k:Nat) (rows:List D),∀ r∈uP cols p sums k rows,(ae r).length=2+sums.length
 |0,rows=>by intro r hr;cases hr
 |k+1,[]=>by intro r hr;cases hr
 |k+1,x::rows=>by
  intro r hr
  unfold uP at hr
  rcases List.mem_cons.1 hr with rfl|hr
  ·show(nz _ p sums).length=_
   unfold nz
   simp
   omega
  ·exact RU cols p sums k _ r hr
theorem Ky {q b:D} :(aK (gp q b)).length<=(aK b).length:=by
 unfold gp
 cases hq:(qBy q != -1)with
 |true=>
  rw[cond_true]
  unfold eF
  cases hg:dO b (qBy q) (kS q)with
  |true=>
   rw[cond_true]
   refine Nat.le_trans (SQ _ _ _ _ _) ?_
   unfold dH
   rw[eP]
   exact Nat.le_refl _
  |false=>exact Nat.zero_le _
 |false=>
  rw[cond_false]
  unfold gI
  cases hg:gy b (uM q)with
  |true=>
   rw[cond_true]
   show((aK b).map _).length<=_
   rw[List.length_map]
   exact Nat.le_refl _
  |false=>exact Nat.zero_le _
theorem Ry {q b:D} : ∀ r∈aK (gp q b),(ae r).length<=16:=by
 unfold gp
 cases hq:(qBy q != -1)with
 |true=>
  rw[cond_true]
  unfold eF
  cases hg:dO b (qBy q) (kS q)with
  |true=>
   rw[cond_true]
   intro r hr
   unfold dO at hg
   simp only[Bool.and_eq_true,decide_eq_true_eq]at hg
   rw[RU _ _ _ _ _ r hr]
   omega
  |false=>intro r hr;cases hr
 |false=>
  rw[cond_false]
  unfold gI
  cases hg:gy b (uM q)with
  |true=>
   rw[cond_true]
   intro r hr
   obtain⟨x,hx,rfl⟩:=List.mem_map.1 (show r∈(aK b).map _ from hr)
   show(jZ (ae x) (uL b (uM q))).length<=16
   have h3:=pM (Qk.1 hg).2.1
   rw[JD,TY]
   omega
  |false=>intro r hr;cases hr
theorem XD {c d q:D} :(aK (xu c d q)).length<=5000/\ ∀ r∈aK (xu c d q),(ae r).length<=16:=by
 unfold xu
 cases h:iR c d q with
 |true=>
  rw[cond_true]
  refine⟨Nat.le_trans Ky ?_,Ry⟩
  exact(o5.1 (SY (zx h))).2.1
 |false=>exact⟨Nat.zero_le _,fun r hr=>by cases hr⟩
def Bc (p:Int) (r:D):Prop:=0<=p/\p<((ae r).length:Int)/\iI ((ae r).getD p.toNat .nil)=true
theorem Ce {p:Int} {r:D} (h:Bc p r):fC (ae r) p=.agg [fO (kk ((ae r).getD p.toNat .nil)),fO (nn ((ae r).getD p.toNat .nil))]:=by
 unfold fC
 have e:(decide (p<0)||decide (p>=((ae r).length:Int)))=false:=by
  have:=h.1;have:=h.2.1
  rw[Bool.or_eq_false_iff,decide_eq_false_iff_not,decide_eq_false_iff_not]
  omega
 rw[e,cond_false,h.2.2,cond_true]
theorem zH {p:Int} {r:D} (h:Bc p r):keyAt p r=sH ((ae r).getD p.toNat .nil):=by
 unfold keyAt
 rw[Ce h]
 have hv:iI (vv (kk ((ae r).getD p.toNat .nil)) (nn ((ae r).getD p.toNat .nil)))=true:=h.2.2
 generalize (ae r).getD p.toNat .nil=v at hv⊢
 show(kk (gX (vv (kk v) (nn v))),nn (gX (vv (kk v) (nn v))))=sH v
 unfold gX
 rw[hv]
 rfl
theorem Zj {p:Int} {r s:D} (h:Bc p r) (g:Bc p s):nZ (fC (ae r) p) (fC (ae s) p)=decide (keyAt p r=keyAt p s):=by
 rw[Ce h,Ce g,zH h,zH g]
 generalize (ae r).getD p.toNat .nil=v
 generalize (ae s).getD p.toNat .nil=u
 show((kk v==kk u)&&((nn v==nn u)&&true))=decide ((kk v,nn v)=(kk u,nn u))
 rw[Bool.and_true,Bool.eq_iff_iff]
 simp
theorem GI {p:Int} : ∀ (l:List D) (k:Key),l.Pairwise (fun x y=>klt (keyAt p y) (keyAt p x)=false)->(∀ x∈l,klt (keyAt p x) k=false)->
  l.takeWhile (fun x=>decide (keyAt p x=k))=l.filter (fun x=>decide (keyAt p x=k))/\l.drop (l.takeWhile (fun x=>decide (keyAt p x=k))).length=l.filter (fun x=>!decide (keyAt p x=k))
 | [],k,_,_=>⟨rfl,rfl⟩
 |x::l,k,hs,hk=>by
  rw[List.pairwise_cons]at hs
  obtain⟨i1,i2⟩:=GI l k hs.2 (fun y hy=>hk y (List.mem_cons_of_mem _ hy))
  by_cases h:keyAt p x=k
  ·rw[List.takeWhile_cons,List.filter_cons,List.filter_cons]
   simp only[h,decide_true,if_true,Bool.not_true,Bool.false_eq_true,if_false,List.length_cons,List.drop_succ_cons]
   exact⟨by rw[i1],i2⟩
  ·have hn: ∀ y∈l,¬ keyAt p y=k:=by
    intro y hy e
    have h1:=hs.1 y hy
    have h2:=hk x (List.mem_cons_self)
    rw[e]at h1
    refine h ?_
    rw[vZ]at h1 h2
    have:(keyAt p x).1=k.1/\(keyAt p x).2=k.2:=by omega
    exact Prod.ext this.1 this.2
   rw[List.takeWhile_cons,List.filter_cons,List.filter_cons]
   simp only[h,decide_false,Bool.false_eq_true,if_false,Bool.not_false,if_true,List.length_nil,List.drop_zero]
   refine⟨(List.filter_eq_nil_iff.2 fun y hy=>by simpa using hn y hy).symm,?_⟩
   rw[List.filter_eq_self.2 fun y hy=>by simpa using hn y hy]
theorem Ko {p:Int} {r:D} {l:List D} (hs:Srt (keyAt p) (r::l)) (hg: ∀ x∈r::l,Bc p x):
  (r::l).take (eU (r::l) p)=(r::l).filter (fun x=>decide (keyAt p x=keyAt p r))/\(r::l).drop (eU (r::l) p)=(r::l).filter (fun x=>!decide (keyAt p x=keyAt p r)):=by
 have h1:eU (r::l) p=1+(l.takeWhile (fun x=>decide (keyAt p x=keyAt p r))).length:=by
  unfold eU
  congr 2
  show l.takeWhile (fun x=>nZ (fC (ae x) p) (fC (ae r) p))=_
  have: ∀ (m:List D),(∀ x∈m,Bc p x)->m.takeWhile (fun x=>nZ (fC (ae x) p) (fC (ae r) p))=m.takeWhile (fun x=>decide (keyAt p x=keyAt p r)):=by
   intro m
   induction m with
   |nil=>intro _;rfl
   |cons y m ih=>
    intro hm
    rw[List.takeWhile_cons,List.takeWhile_cons,Zj (hm y (List.mem_cons_self)) (hg r (List.mem_cons_self)),ih (fun x hx=>hm x (List.mem_cons_of_mem _ hx))]
  exact this l (fun x hx=>hg x (List.mem_cons_of_mem _ hx))
 unfold Srt at hs
 obtain⟨i1,i2⟩:=GI (r::l) (keyAt p r) hs (fun x hx=>by
  rcases List.mem_cons.1 hx with rfl|hx
  ·exact jv _
  ·exact(List.pairwise_cons.1 hs).1 x hx)
 have h2:((r::l).takeWhile (fun x=>decide (keyAt p x=keyAt p r))).length=eU (r::l) p:=by
  rw[List.takeWhile_cons]
  simp only[decide_true,if_true,List.length_cons]
  omega
 rw[h2]at i2
 refine⟨?_,i2⟩
 rw[<-i1,<-h2]
 exact(List.prefix_iff_eq_take.1 (List.takeWhile_prefix _)).symm
theorem Qy {l m:List D} (h:l.Perm m):total l=total m:=by
 induction h with
 |nil=>rfl
 |cons x _ ih=>unfold total at ih⊢;simp[ih]
 |swap x y l=>unfold total;simp;omega
 |trans _ _ i1 i2=>exact i1.trans i2
theorem Nl {f:D->Bool} {l m:List D} (h:l.Perm m):l.any f=m.any f:=by
 rw[Bool.eq_iff_iff,List.any_eq_true,List.any_eq_true]
 exact⟨fun⟨x,hx,h1⟩=>⟨x,h.mem_iff.1 hx,h1⟩,fun⟨x,hx,h1⟩=>⟨x,h.mem_iff.2 hx,h1⟩⟩
theorem Xe {l m:List D} (h:l.Perm m):yA l=yA m:=by
 unfold yA
 rw[Nl h,Nl h,Qy h]
theorem UN (b:D) (c:Int):(aK (iO b c)).Perm (aK b):=xJ _
theorem Vt {q b:D} (h:gB q b=true) (hq:qBy q= -1):(aQ (gp q b))=uM q/\(aK (gp q b)).length=(aK b).length:=by
 have e:(qBy q != -1)=false:=by rw[hq];rfl
 unfold gB at h
 unfold gp
 rw[e,cond_false]at h
 rw[e,cond_false,yf h]
 refine⟨rfl,?_⟩
 show((aK b).map _).length=_
 rw[List.length_map]
theorem Ub {q b:D} (h:gB q b=true) (hq:(qBy q== -1)=false):(aQ (gp q b))=dE (qBy q) ((kS q).length:Int)/\(kS q).length<=4:=by
 have e:(qBy q != -1)=true:=by unfold bne;rw[hq];rfl
 unfold gB at h
 unfold gp
 rw[e,cond_true]at h
 rw[e,cond_true]
 have h':=h
 unfold dO at h'
 simp only[Bool.and_eq_true,decide_eq_true_eq]at h'
 unfold eF
 rw[h,cond_true]
 exact⟨rfl,h'.2⟩
theorem H8 (c:Int) (n:Nat):(dE c (n:Int)).length=2+n:=by
 unfold dE
 rw[List.length_cons,List.length_map,List.length_range]
 omega
section
variable {c d q:D}
def inL (q:D) (s:Int):List Nat:=(List.range (dQ q).length).filter (inS s)
theorem akA (q:D) (s:Int):(inL q s).Nodup:=List.Pairwise.filter _ List.nodup_range
theorem ak2 {k:Nat} {t:D} (h:Qj k t≠0) (hn:(dQ q).length<=4) (hlt:Qj k t<TW .i64 1 ((dQ q).length:Int)):(lvN k t).Perm (inL q (Qj k t)):=by
 obtain⟨h1,h2⟩:=aig k t h
 rw[List.perm_ext_iff_of_nodup h1 (akA _ _)]
 intro i
 rw[h2 i]
 unfold inL
 rw[List.mem_filter,List.mem_range]
 exact⟨fun hi=>⟨aiG h hn hlt i ((h2 i).2 hi),hi⟩,fun hi=>hi.2⟩
theorem ai9 {t:D} (h:adW q t=true):Qj 4 t≠0/\Qj 4 t<TW .i64 1 ((dQ q).length:Int):=by
 unfold adW at h
 rw[Bool.and_eq_true,aiV,decide_eq_true_eq,decide_eq_true_eq]at h
 have e:Qj 4 t=W9 t:=rfl
 rw[e]
 exact⟨by omega,h.2⟩
theorem akH {t:D} (h:iR c d q=true) (hx:adW q t=true):aiK c d q 4 t:=by
 obtain⟨h1,h2⟩:=ai9 hx
 refine aih.1 ?_
 unfold aiy
 rw[h,Bool.true_and,Bool.and_eq_true,decide_eq_true_eq,bne_iff_ne]
 exact⟨h1,h2⟩
structure ToldT (c d q t:D):Prop where
 asks:Asks c d q
 occs:xQ q (lvN 4 t)
 nodup:(lvN 4 t).Nodup
 perm:(lvN 4 t).Perm (inL q (W9 t))
 vw:Vw (ahE c d q t) (PC c d q (lvN 4 t)) (OZ (aiN q (W9 t)) (PC c d q (lvN 4 t)) (PR c d q (lvN 4 t)))
 may:bn (ahE c d q t)=true
 out: ∀ i,¬ i<(dQ q).length-> ¬ inS (W9 t) i=true
theorem aiZ (HK:ain) {t:D} (h:iR c d q=true) (hx:adW q t=true):ToldT c d q t:=by
 have ha:=zx h
 obtain⟨h1,h2⟩:=ai9 hx
 have hv:=aiC HK 4 t (Nat.le_refl _) (akH h hx)
 have e:ahE c d q t=XA c d q 4 t:=by unfold ahE;rw[h,hx];rfl
 rw[<-e]at hv
 have ho:=aiG (q:=q) h1 ha.n4 h2
 have hn:=(aig 4 t h1).1
 exact⟨ha,ho,hn,ak2 h1 ha.n4 h2,hv,ZN ha ho hn hv (fun r hr=>VD hr) (O3 _ _ _),fun i hi hin=>hi (ho i (((aig 4 t h1).2 i).2 hin))⟩
theorem ToldT.cols {t:D} (T:ToldT c d q t):aQ (ahE c d q t)=PC c d q (lvN 4 t):=T.vw.1
theorem ToldT.again {t:D} (T:ToldT c d q t):RI (oQ (ahE c d q t) (aiN q (W9 t))) (ahE c d q t)=true:=by
 have e:aK (oQ (ahE c d q t) (aiN q (W9 t)))=aK (ahE c d q t):=by
  show jX _ _ _=_
  unfold jX
  rw[List.filter_eq_self]
  intro r hr
  have h1:ae r∈rws (ahE c d q t):=List.mem_map.2 ⟨r,hr,rfl⟩
  rw[T.vw.2]at h1
  rw[T.cols]
  exact(List.mem_filter.1 h1).2
 have e2:aQ (oQ (ahE c d q t) (aiN q (W9 t)))=aQ (ahE c d q t):=rfl
 unfold RI ik
 rw[e,e2]
 simp
end
structure am3 (C:List D) (p:Int) (s:List D) (V:D->D×(D->D)) (r:D):Prop where
 good:Bc p r
 key:(V r).1=(ae r).getD p.toNat .nil
 val: ∀ c∈s,(V r).2 c=(ae r).getD (bC C (intD c)).toNat .nil
theorem am2 {C:List D} {p:Int} {s:List D} {V:D->D×(D->D)} {r:D} (h:am3 C p s V r):keyAt p r=sH (V r).1:=by rw[zH h.good,h.key]
theorem Q7 {C:List D} {p:Int} {s:List D} {V:D->D×(D->D)} {L:List D} (h: ∀ r∈L,am3 C p s V r) (k:Key) (b:Bool):
  (L.filter (fun x=>decide (keyAt p x=k)==b)).map V=(L.map V).filter (fun v=>decide (sH v.1=k)==b):=by
 rw[List.filter_map]
 congr 1
 refine List.filter_congr fun x hx=>?_
 rw[am2 (h x hx)]
 rfl
theorem am9 {C:List D} {p:Int} {s:List D} {V:D->D×(D->D)} {L:List D} (h: ∀ r∈L,am3 C p s V r) {c:D} (hc:c∈s):kC L (bC C (intD c))=(L.map V).map fun v=>v.2 c:=by
 unfold kC
 rw[List.map_map]
 exact List.map_congr_left fun r hr=>((h r hr).val c hc).symm
theorem ana {C C':List D} {p p':Int} {s:List D} {V V':D->D×(D->D)} : ∀ (k:Nat) (L M:List D),L.length<=k->Srt (keyAt p) L->Srt (keyAt p') M->(∀ r∈L,am3 C p s V r)->(∀ r∈M,am3 C' p' s V' r)->(L.map V).Perm (M.map V')->
  (uP C p s k L).map qy=(uP C' p' s k M).map qy
 |0,L,M,_,_,_,_,_,_=>rfl
 |k+1,[],M,_,_,_,_,_,hp=>by
  have:M.map V'=[]:=List.Perm.eq_nil hp.symm
  rw[List.map_eq_nil_iff.1 this]
  rfl
 |k+1,r::L,[],_,_,_,_,_,hp=>by exact absurd hp.symm (by simp)
 |k+1,r::L,t::M,hl,h1,h2,v1,v2,hp=>by
  have hk:keyAt p' t=keyAt p r:=by
   have a1:klt (keyAt p' t) (keyAt p r)=false:=by
    obtain⟨x,hx,e⟩:=List.mem_map.1 (hp.mem_iff.2 (List.mem_map.2 ⟨t,List.mem_cons_self,rfl⟩):V' t∈(r::L).map V)
    rw[am2 (v2 t List.mem_cons_self),<-e,<-am2 (v1 x hx)]
    rcases List.mem_cons.1 hx with rfl|hx
    ·exact jv _
    ·exact(List.pairwise_cons.1 (show(r::L).Pairwise _ from h1)).1 x hx
   have a2:klt (keyAt p r) (keyAt p' t)=false:=by
    obtain⟨x,hx,e⟩:=List.mem_map.1 (hp.mem_iff.1 (List.mem_map.2 ⟨r,List.mem_cons_self,rfl⟩):V r∈(t::M).map V')
    rw[am2 (v1 r List.mem_cons_self),<-e,<-am2 (v2 x hx)]
    rcases List.mem_cons.1 hx with rfl|hx
    ·exact jv _
    ·exact(List.pairwise_cons.1 (show(t::M).Pairwise _ from h2)).1 x hx
   rw[vZ]at a1 a2
   have:(keyAt p' t).1=(keyAt p r).1/\(keyAt p' t).2=(keyAt p r).2:=by omega
   exact Prod.ext this.1 this.2
  obtain⟨t1,d1⟩:=Ko h1 (fun x hx=>(v1 x hx).good)
  obtain⟨t2,d2⟩:=Ko h2 (fun x hx=>(v2 x hx).good)
  rw[hk]at t2 d2
  have eT: ∀ (q:Int) (l:List D),l.filter (fun x=>decide (keyAt q x=keyAt p r))=l.filter (fun x=>decide (keyAt q x=keyAt p r)==true):=fun q l=>List.filter_congr fun x _=>by simp
  have eF: ∀ (q:Int) (l:List D),l.filter (fun x=>!decide (keyAt q x=keyAt p r))=l.filter (fun x=>decide (keyAt q x=keyAt p r)==false):=fun q l=>List.filter_congr fun x _=>by simp
  have pT:(((r::L).filter (fun x=>decide (keyAt p x=keyAt p r))).map V).Perm (((t::M).filter (fun x=>decide (keyAt p' x=keyAt p r))).map V'):=by
   rw[eT,eT,Q7 v1,Q7 v2];exact hp.filter _
  have pF:(((r::L).filter (fun x=>!decide (keyAt p x=keyAt p r))).map V).Perm (((t::M).filter (fun x=>!decide (keyAt p' x=keyAt p r))).map V'):=by
   rw[eF,eF,Q7 v1,Q7 v2];exact hp.filter _
  unfold uP
  rw[t1,d1,t2,d2,List.map_cons,List.map_cons]
  have w1: ∀ x∈(r::L).filter (fun x=>decide (keyAt p x=keyAt p r)),am3 C p s V x:=fun x hx=>v1 x (List.mem_filter.1 hx).1
  have w2: ∀ x∈(t::M).filter (fun x=>decide (keyAt p' x=keyAt p r)),am3 C' p' s V' x:=fun x hx=>v2 x (List.mem_filter.1 hx).1
  have c1:((r::L).filter (fun x=>decide (keyAt p x=keyAt p r))).getD 0 .nil=r:=by rw[List.filter_cons];simp
  have c2:((t::M).filter (fun x=>decide (keyAt p' x=keyAt p r))).getD 0 .nil=t:=by rw[List.filter_cons];simp[hk]
  have hlen:((r::L).filter (fun x=>decide (keyAt p x=keyAt p r))).length=((t::M).filter (fun x=>decide (keyAt p' x=keyAt p r))).length:=by
   have:=pT.length_eq
   rw[List.length_map,List.length_map]at this
   exact this
  congr 1
  ·show(nz (aX C ((r::L).filter _)) p s).map sH=(nz (aX C' ((t::M).filter _)) p' s).map sH
   unfold nz
   have b1: ∀ c rs,aK (aX c rs)=rs:=fun _ _=>rfl
   have b2: ∀ c rs,aQ (aX c rs)=c:=fun _ _=>rfl
   rw[b1,b1,b2,b2,c1,c2,List.map_cons,List.map_cons,List.map_cons,List.map_cons,<-zH (v1 r List.mem_cons_self).good,<-zH (v2 t List.mem_cons_self).good,hk,hlen]
   congr 2
   congr 1
   refine List.map_congr_left fun c hc=>?_
   rw[am9 w1 hc,am9 w2 hc]
   exact Xe (pT.map _)
  ·refine ana k _ _ ?_ ?_ ?_ (fun x hx=>v1 x (List.mem_filter.1 hx).1) (fun x hx=>v2 x (List.mem_filter.1 hx).1) pF
   ·have:((r::L).filter (fun x=>!decide (keyAt p x=keyAt p r))).length<=L.length:=by
     rw[List.filter_cons]
     simp only[decide_true,Bool.not_true,Bool.false_eq_true,if_false]
     exact List.length_filter_le _ _
    simp only[List.length_cons]at hl
    omega
   ·exact List.Pairwise.filter _ h1
   ·exact List.Pairwise.filter _ h2
def wRow (C C':List D) (k:Int) (x:List D):D×(D->D):=(x.getD (bC C k).toNat .nil,fun c=>bif hasB C' (intD c)then x.getD (bC C (intD c)).toNat .nil else .nil)
theorem anj {C C':List D} {k:Int} (hk:hasB C' k=true) (x:List D):wRow C' C' k (NJ C C' x)=wRow C C' k x:=by
 unfold wRow
 rw[ajY hk]
 congr 1
 funext c
 cases h:hasB C' (intD c)with
 |true=>rw[cond_true,cond_true,ajY h]
 |false=>rfl
theorem ang {b:D} {C':List D} {k:Int} {s:List D} (hm:bn b=true) (hk:hasB (aQ b) k=true) (hs:gG C' s=true) {r:D} (hr:r∈aK b):am3 (aQ b) (bC (aQ b) k) s (fun r=>wRow (aQ b) C' k (ae r)) r:=by
 obtain⟨m1,m2,m3⟩:=o5.1 hm
 obtain⟨p1,p2⟩:=Ha hk
 obtain⟨l1,l2⟩:=m3 r hr
 have hlt:(bC (aQ b) k).toNat<(ae r).length:=by omega
 refine⟨⟨p1,by omega,?_⟩,rfl,fun c hc=>?_⟩
 ·rw[dA hlt]
  exact l2 _ (List.getElem_mem hlt)
 ·have:hasB C' (intD c)=true:=by
   unfold gG at hs
   rw[List.all_eq_true]at hs
   exact hs _ (List.mem_map.2 ⟨c,hc,rfl⟩)
  show(bif hasB C' (intD c)then _ else _)=_
  rw[this,cond_true]
theorem ann {q b b':D} (hok:gB q b=true) (hok':gB q b'=true) (hR:((rws b).map (NJ (aQ b) (aQ b'))).Perm (rws b')):
  aQ (gp q b)=aQ (gp q b')/\((aK (gp q b)).map qy).Perm ((aK (gp q b')).map qy):=by
 unfold gB at hok hok'
 unfold gp
 cases hq:(qBy q != -1)with
 |false=>
  rw[hq,cond_false]at hok hok'
  rw[cond_false,cond_false,yf hok,yf hok']
  refine⟨rfl,?_⟩
  obtain⟨_,_,ha⟩:=Qk.1 hok'
  have e: ∀ x:D,((aK (aX (uM q) ((aK x).map fun r=>.slice (NJ (aQ x) (uM q) (ae r)) []))).map qy)=(rws x).map fun y=>(NJ (aQ x) (uM q) y).map sH:=by
   intro x
   show((aK x).map _).map qy=_
   unfold rws
   rw[List.map_map,List.map_map]
   rfl
  rw[e,e]
  have h1:=hR.map (fun y=>(NJ (aQ b') (uM q) y).map sH)
  rw[List.map_map]at h1
  have h2:(fun y=>(NJ (aQ b') (uM q) y).map sH)∘NJ (aQ b) (aQ b')=fun y=>(NJ (aQ b) (uM q) y).map sH:=by
   funext y
   show(NJ (aQ b') (uM q) (NJ (aQ b) (aQ b') y)).map sH=_
   rw[aj0 ha]
  rw[h2]at h1
  exact h1
 |true=>
  rw[hq,cond_true]at hok hok'
  rw[cond_true,cond_true]
  unfold eF
  have g1:=hok
  have g2:=hok'
  unfold dO at g1 g2
  simp only[Bool.and_eq_true]at g1 g2
  rw[hok,hok',cond_true,cond_true]
  refine⟨rfl,?_⟩
  show((uP (aQ b) _ (kS q) _ _).map qy).Perm ((uP (aQ b') _ (kS q) _ _).map qy)
  have hl:(aK b).length=(aK b').length:=by
   have:=hR.length_eq
   unfold rws at this
   simpa using this
  rw[<-hl]
  have key:=ana (C:=aQ b) (C':=aQ b') (p:=bC (aQ b) (qBy q)) (p':=bC (aQ b') (qBy q)) (s:=kS q) (V:=fun r=>wRow (aQ b) (aQ b') (qBy q) (ae r)) (V':=fun r=>wRow (aQ b') (aQ b') (qBy q) (ae r))
   (aK b).length (dH (bC (aQ b) (qBy q)) (aK b)) (dH (bC (aQ b') (qBy q)) (aK b')) (by unfold dH;rw[eP];exact Nat.le_refl _) (jJ _) (jJ _)
   (fun r hr=>ang g1.1.1.1 g1.1.1.2 g2.1.2 (wL.1 hr)) (fun r hr=>ang g2.1.1.1 g2.1.1.2 g2.1.2 (wL.1 hr)) ?_
  ·rw[key]
  ·have e1: ∀ (x:D) (f:List D->D×(D->D)),(aK x).map (fun r=>f (ae r))=(rws x).map f:=by
    intro x f
    unfold rws
    rw[List.map_map]
    rfl
   refine((xJ (aK b)).map _).trans (List.Perm.trans ?_ ((xJ (aK b')).map _).symm)
   rw[e1,e1]
   have h1:=hR.map (wRow (aQ b') (aQ b') (qBy q))
   rw[List.map_map]at h1
   have h2:wRow (aQ b') (aQ b') (qBy q)∘NJ (aQ b) (aQ b')=wRow (aQ b) (aQ b') (qBy q):=by
    funext y
    exact anj g2.1.1.2 y
   rw[h2]at h1
   exact h1
section
variable {c d q:D}
theorem aj9 (HK:ain) {es C C':List D} {R:List (List D)} (hC: ∀ e∈es,∀ z∈mg e,hasB C (intD z)=true) (hC': ∀ e∈es,∀ z∈mg e,hasB C' (intD z)=true) (hR: ∀ r∈R,r.length=C.length):
  (OZ es C R).map (NJ C C')=OZ es C' (R.map (NJ C C')):=by
 unfold OZ
 rw[List.filter_map]
 congr 1
 refine List.filter_congr fun r hr=>?_
 show nM es C r=nM es C' (NJ C C' r)
 refine ajW ?_
 rw[aii,aii]
 have: ∀ e∈es,BF e C' (NJ C C' r)=BF e C r:=fun e he=>HK e _ _ _ _ fun z hz=>ala (hC e he z hz) (hC' e he z hz) (hR r hr)
 exact⟨fun h e he=>by rw[this e he];exact h e he,fun h e he=>by rw[<-this e he];exact h e he⟩
theorem ani: ∀ (n:Fin 5) (o:Fin 5),o.val<n.val->inS (2 ^ n.val - 1) o.val=true:=by decide
theorem anm (h:Asks c d q):aiN q (2 ^ (dQ q).length - 1)=qP q:=by
 unfold aiN
 rw[List.filter_eq_self]
 intro e he
 refine ajh.2 fun i hi=>?_
 rw[alE,List.any_eq_true]at hi
 obtain⟨z,hz,hi⟩:=hi
 have h4:=h.n4
 obtain⟨h1,_⟩:=aaE h (RD.1 (h.ex e he).2 z hz)
 have hs:=ajU (intD z)
 rw[decide_eq_true_eq]at hi
 have hi':i<(dQ q).length:=by omega
 exact ani ⟨(dQ q).length,by omega⟩ ⟨i,by omega⟩ hi'
theorem anb (h:Asks c d q) {l:List Nat} (hall: ∀ o,o<(dQ q).length->o∈l): ∀ e∈qP q,∀ z∈mg e,hasB (PC c d q l) (intD z)=true:=
 fun e he z hz=>OX h hall (RD.1 (h.ex e he).2 z hz)
structure anq (c d q t:D):Prop where
 ok:gB q (ahE c d q t)=true
 cols:aQ (gp q (ahE c d q t))=aQ (xu c d q)
 rows:((aK (gp q (ahE c d q t))).map qy).Perm ((aK (xu c d q)).map qy)
theorem full_of (HK:ain) {t:D} (ha:iR c d q=true) (hx:adW q t=true) (hs:W9 t=2 ^ (dQ q).length - 1):anq c d q t:=by
 have T:=aiZ HK ha hx
 have h:=T.asks
 have h4:=h.n4
 have hall: ∀ o,o<(dQ q).length->o∈lvN 4 t:=by
  intro o ho
  refine T.perm.mem_iff.2 ?_
  unfold inL
  rw[List.mem_filter,List.mem_range,hs]
  exact⟨ho,ani ⟨(dQ q).length,by omega⟩ ⟨o,by omega⟩ ho⟩
 have hperm:(lvN 4 t).Perm (List.range (dQ q).length):=by
  rw[List.perm_ext_iff_of_nodup T.nodup List.nodup_range]
  intro o
  rw[List.mem_range]
  exact⟨fun ho=>T.occs o ho,hall o⟩
 have hok:gB q (ahE c d q t)=true:=abg h hall T.cols T.may
 have hv:=T.vw
 rw[hs,anm h]at hv
 have hw:=Yn h
 have hall2: ∀ o,o<(dQ q).length->o∈List.range (dQ q).length:=fun o ho=>List.mem_range.2 ho
 have key:((rws (ahE c d q t)).map (NJ (aQ (ahE c d q t)) (aQ (uo c d q)))).Perm (rws (uo c d q)):=by
  rw[hv.1,hv.2,hw.1,hw.2,aj9 HK (anb h hall) (anb h hall2) (fun r hr=>(Kv h T.occs r hr).1)]
  exact(ak5 h hperm T.occs T.nodup).filter _
 have e:xu c d q=gp q (uo c d q):=by unfold xu;rw[ha];rfl
 obtain⟨g1,g2⟩:=ann hok (SC h) key
 exact⟨hok,by rw[e];exact g1,by rw[e];exact g2⟩
end
end Go.Ev
