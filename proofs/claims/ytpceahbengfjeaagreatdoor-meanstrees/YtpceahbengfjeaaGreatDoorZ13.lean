/- Trees of functions, and lemmas. Nothing here is trusted. -/
import Derived.Test.YtpceahbengfjeaaGreatDoorZ12
namespace Go.Ev
open Go.RowKit
set_option linter.unusedVariables false
set_option linter.unusedSimpArgs false
section
section
variable {P:Program} {w w':World} {ok ok':Nat->Prop} {β:Nat->Nat×Nat} {ops:Array Oper}
variable {F:Fr P} {st st' s s' s1 s2 s12:St} {a:Act} {env:Env} {o oi oj:Oper} {av:AV} {Q:Exit->Act->World->Prop}
theorem KO (P:Program) (t:TypeId) (v:Value):(CU P t v).tag=0\/(CU P t v).tag=1:=by
 unfold CU
 split
 ·exact .inl rfl
 ·split
  ·exact .inr rfl
  ·split
   ·exact .inr rfl
   ·exact .inl rfl
  ·split
   ·exact .inr rfl
   ·exact .inl rfl
  ·exact .inr rfl
  ·exact .inr rfl
  ·exact .inl rfl
theorem adS {i:Nat} {d:Option Nat} {v:AV} (hv: ∀ j∈refs v,j≠i):(st.put d v).kill i=(st.kill i).put d v:=by
 have hk:bg [i] v=v:=by
  unfold bg
  have:(refs v).any [i].contains=false:=by
   rw[<-Bool.not_eq_true,List.any_eq_true]
   rintro⟨j,hj,hh⟩
   simp only[List.contains_iff_mem,List.mem_singleton]at hh
   exact hv j hj hh
  rw[this]
  rfl
 cases d with
 |none=>rfl
 |some d=>
  show(⟨(st.sl.set d v).map (bg [i]),_⟩:St)=⟨(st.sl.map (bg [i])).set d v,_⟩
  rw[List.map_set,hk]
  rfl
theorem YY {t:TypeId} {y:Operand} {k:Nat} (hop:o.op=.fieldAddr t y k) (h:dh P env o st=some s'):
  ∃ v,s'=st.put o.dst v/\(∀ j∈refs v,j∈refs (aJ P st o y))/\((aJ P st o y).tag=2\/(aJ P st o y).tag=3)/\
   ∀ s2:St,aJ P s2 o y=aJ P st o y->((aJ P st o y).tag=2->(s2.bx (aJ P st o y).id).map (·.row)=(st.bx (aJ P st o y).id).map (·.row))->dh P env o s2=some (s2.put o.dst v):=by
 unfold dh at h
 simp only[hop]at h
 have hbox: ∀ {s2:St} {i:Nat},(s2.bx i).map (·.row)=(st.bx i).map (·.row)->ed s2 i=ed st i/\mM s2 i=mM st i:=by
  intro s2 i hh
  unfold ed mM
  cases h1:s2.bx i<;>cases h2:st.bx i<;>rw[h1,h2]at hh<;>simp_all
 split at h
 ·rename_i f hf
  split at h
  ·rename_i hc
   have hc':=hc
   simp only[Bool.and_eq_true,beq_iff_eq]at hc
   cases h
   refine⟨_,rfl,fun j hj=>?_,.inl hc.1.1.1.1,fun s2 h2 h3=>?_⟩
   ·rw[bY rfl]at hj
    rw[bY hc.1.1.1.1]
    simpa [fdp]using hj
   ·unfold dh
    simp only[hop,hf,h2,(hbox (h3 hc.1.1.1.1)).1,hc',if_true]
  ·rename_i hn1
   split at h
   ·rename_i hc
    have hc':=hc
    simp only[Bool.and_eq_true,beq_iff_eq]at hc
    cases h
    refine⟨_,rfl,fun j hj=>?_,.inr hc.1,fun s2 h2 h3=>?_⟩
    ·have:refs (uZ f.type (af (aJ P st o y).d k))=[]:=rfl
     rw[this]at hj
     cases hj
    ·unfold dh
     have ht:((aJ P st o y).tag==2)=false:=by rw[hc.1];rfl
     simp only[hop,hf,h2,ht,Bool.false_and,Bool.false_eq_true,if_false,hc',if_true]
   ·rename_i hn2
    split at h
    ·rename_i hc
     have hc':=hc
     simp only[Bool.and_eq_true,beq_iff_eq]at hc
     cases h
     have htag:=hc.1.1.1.1
     refine⟨_,rfl,fun j hj=>?_,.inl htag,fun s2 h2 h3=>?_⟩
     ·rw[bY rfl]at hj
      rw[bY htag]
      simpa [elf]using hj
     ·unfold dh
      simp only[hop,hf,h2,(hbox (h3 htag)).1,(hbox (h3 htag)).2,hn1,hn2,hc',Bool.false_eq_true,if_false,if_true]
    ·cases h
 ·cases h
def kN (k:Option Nat) (st:St):St:=match k with|none=>st|some i=>st.kill i
def kA (k:Option Nat) (v:AV):AV:=match k with|none=>v|some i=>bg [i] v
theorem agb {i:Nat} {d:Option Nat} {v:AV} :(st.put d v).kill i=(st.kill i).put d (bg [i] v):=by
 cases d with
 |none=>rfl
 |some d=>
  show(⟨(st.sl.set d v).map (bg [i]),_⟩:St)=⟨(st.sl.map (bg [i])).set d (bg [i] v),_⟩
  rw[List.map_set]
  rfl
theorem CJ {k:Option Nat} {d:Option Nat} {v:AV} :kN k (st.put d v)=(kN k st).put d (kA k v):=by
 cases k with
 |none=>rfl
 |some i=>exact agb
theorem MJ {k:Option Nat} {v:AV} (h: ∀ j∈refs v,k≠some j):kA k v=v:=by
 cases k with
 |none=>rfl
 |some i=>
  show bg [i] v=v
  unfold bg
  have:(refs v).any [i].contains=false:=by
   rw[<-Bool.not_eq_true,List.any_eq_true]
   rintro⟨j,hj,hh⟩
   simp only[List.contains_iff_mem,List.mem_singleton]at hh
   exact h j hj (by rw[hh])
  rw[this]
  rfl
theorem WR (e:Ent):Ent.mapC (kA none) e=e:=by
 unfold Ent.mapC
 cases e with
 |mk a b c d=>cases d<;>rfl
theorem zk {k:Option Nat} {j:Nat} (h:k≠some j):(kN k st).bx j=(st.bx j).map (Ent.mapC (kA k)):=by
 cases k with
 |none=>
  show st.bx j=_
  cases st.bx j with
  |none=>rfl
  |some e=>rw[Option.map_some,WR]
 |some i=>
  show(st.kill i).bx j=_
  rw[Fp,if_neg (fun hh=>h (by rw[hh]))]
  rfl
theorem Uz {k:Option Nat} {d:Nat} {e:Ent} (h:k≠some d) (he:e.c=none):kN k (st.upd d e)=(kN k st).upd d e:=by
 cases k with
 |none=>rfl
 |some i=>
  have hne:d≠i:=fun hh=>h (by rw[hh])
  show(⟨st.sl.map (bg [i]),fun j=>if j=i then none else((if j=d then some e else st.bx j)).map (Ent.mapC (bg [i]))⟩:St)=⟨st.sl.map (bg [i]),fun j=>if j=d then some e else if j=i then none else(st.bx j).map (Ent.mapC (bg [i]))⟩
  congr 1
  funext j
  by_cases hj:j=d
  ·subst hj
   rw[if_neg hne,if_pos rfl,if_pos rfl,Option.map_some]
   unfold Ent.mapC
   rw[he]
   cases e
   simp_all
  ·rw[if_neg hj,if_neg hj]
theorem Y0 {k:Option Nat} {v:AV} :((kA k v).tag==7)=(v.tag==7):=by
 cases k with
 |none=>rfl
 |some i=>
  show((bg [i] v).tag==7)=_
  unfold bg
  split
  ·unfold dz
   split
   ·rename_i h;exact h.symm▸h
   ·rename_i h;simp at h;split<;>simp[dead,h]
  ·rfl
theorem YN {k:Option Nat} {v:AV} :((kA k v).tag==8)=(v.tag==8):=by
 cases k with
 |none=>rfl
 |some i=>
  show((bg [i] v).tag==8)=_
  unfold bg
  split
  ·unfold dz
   split
   ·rfl
   ·split
    ·rfl
    ·rename_i h8
     have:v.tag≠8:=by simpa using h8
     simp[dead,this]
  ·rfl
theorem Qq {k:Option Nat} {t:TypeId} {x:AV} (h:x.tag=2->k≠some x.id):xq (kN k st) t x=(xq st t x).map (kA k):=by
 unfold xq
 split
 ·rename_i hx
  simp only[Bool.and_eq_true,beq_iff_eq]at hx
  rw[zk (h hx.1.1)]
  cases st.bx x.id with
  |none=>rfl
  |some e=>
   simp only[Option.map_some]
   have e1:(Ent.mapC (kA k) e).row=e.row:=rfl
   have e2:(Ent.mapC (kA k) e).c=e.c.map (kA k):=rfl
   rw[e1,e2]
   split
   ·cases e.c with
    |none=>rfl
    |some v=>
     simp only[Option.map_some,Y0,YN]
     split<;>rfl
   ·rfl
 ·rfl
theorem Ui {k:Option Nat} {t:TypeId} {x:AV} (h:x.tag=2->k≠some x.id):ldA P (kN k st) t x=ldA P st t x:=by
 unfold ldA
 split
 ·rename_i hx
  rw[zk (h hx)]
  cases st.bx x.id with
  |none=>rfl
  |some e=>
   simp only[Option.map_some]
   have e1:(Ent.mapC (kA k) e).row=e.row:=rfl
   have e2:(Ent.mapC (kA k) e).c.isSome=e.c.isSome:=by
    show(e.c.map (kA k)).isSome=_
    cases e.c<;>rfl
   have e3:(Ent.mapC (kA k) e).ty=e.ty:=rfl
   have e4:(Ent.mapC (kA k) e).d=e.d:=rfl
   have e5:ldE P (Ent.mapC (kA k) e) t x=ldE P e t x:=rfl
   rw[e1,e2,e3,e4,e5]
 ·rfl
theorem UR {k:Option Nat} {t:TypeId} {x:AV} (h:x.tag=2->k≠some x.id):ldV P (kN k st) t x=(ldV P st t x).map (kA k):=by
 unfold ldV
 rw[Qq h,Ui h]
 cases xq st t x with
 |some v=>rfl
 |none=>
  simp only[Option.map_none,Option.map_map]
  congr 1
  funext z
  exact(MJ (v:=dat t z) (fun j hj=>by cases hj)).symm
theorem Za {t:TypeId} {x v:AV} (h:ldV P st t x=some v):x.tag=2\/x.tag=3:=by
 unfold ldV xq ldA at h
 by_cases h2:x.tag=2
 ·exact .inl h2
 ·by_cases h3:x.tag=3
  ·exact .inr h3
  ·have hb:(x.tag==2)=false:=by simpa using h2
   simp[hb,h2,h3]at h
theorem Ws (hi:Cb env oi=true) (hk:aT P env st oi=true) (h:dh P env oi st=some s1):
  ∃ (k:Option Nat) (d:Nat) (A:AV),oi.dst=some d/\refs A=[]/\s1=(kN k st).put (some d) A/\(∀ i,k=some i->Operand.tmp i∈oi.op.operands.toList)/\
   ∀ s2:St,Same oi s2 st->(∀ i,k=some i->s2.bx i=st.bx i)->aT P env s2 oi=true/\dh P env oi s2=some ((kN k s2).put (some d) A):=by
 unfold Cb at hi
 split at hi
 rotate_left
 ·cases hi
 rename_i c hoi
 simp only[Bool.and_eq_true,Option.isNone_iff_eq_none,Option.isSome_iff_exists]at hi
 obtain⟨⟨hnn,⟨⟨q,x,t⟩,happ⟩⟩,hda⟩:=hi
 have hcs:=mP happ
 have hargs:c.args.toList=[.tmp q,x]:=by rw[hcs]
 have hmq:Operand.tmp q∈oi.op.operands.toList:=by rw[hoi];simp only[Op.operands,Call.operands,Array.toList_append,List.mem_append];right;rw[hargs];simp
 have hmx:x∈oi.op.operands.toList:=by rw[hoi];simp only[Op.operands,Call.operands,Array.toList_append,List.mem_append];right;rw[hargs];simp
 unfold dh at h
 simp only[hoi,hnn,happ,hda,if_true]at h
 unfold wP at h
 split at h
 ·rename_i el d e hso hd hro
  split at h
  ·rename_i hcond
   cases h
   have hid:(st.get q).id=q:=by simp only[Bool.and_eq_true,beq_iff_eq]at hcond;exact hcond.2
   refine⟨some q,d,_,hd,rfl,by rw[hid];rfl,fun i hi=>by cases hi;exact hmq,fun s2 hs hb=>?_⟩
   have hq:s2.get q=st.get q:=hs q hmq
   have hx:opd P s2 t x=opd P st t x:=jm hs hmx t
   have hr:rowOf s2 q t=rowOf st q t:=by unfold rowOf;rw[hq,hid,hb q rfl]
   refine⟨?_,?_⟩
   ·unfold aT at hk⊢
    simp only[hoi,hnn,happ,Bv hro,Bv (hr.trans hro),hr,hro,hx]at hk⊢
    exact hk
   ·unfold dh
    simp only[hoi,hnn,happ,hda,if_true]
    unfold wP
    rw[hso,hd,hr,hro,hx,hq]
    simp only[hcond,if_true]
    rw[hid]
    rfl
  ·cases h
 ·rename_i el d hso hd hro
  split at h
  ·rename_i hcond
   cases h
   have hc2:=hcond
   simp only[Bool.and_eq_true,beq_iff_eq]at hc2
   refine⟨none,d,dat t (.slice (ae (st.get q).d++ae (opd P st t x).d) []),hd,rfl,rfl,fun i hi=>(by cases hi),fun s2 hs _=>?_⟩
   have hq:s2.get q=st.get q:=hs q hmq
   have hx:opd P s2 t x=opd P st t x:=jm hs hmx t
   have hr:rowOf s2 q t=none:=by unfold rowOf;rw[hq,hc2.1.1.1.1];rfl
   refine⟨?_,?_⟩
   ·unfold aT at hk⊢
    simp only[hoi,hnn,happ,BK hc2.1.1.1.1,BK (st:=s2) (s:=q) (by rw[hq];exact hc2.1.1.1.1),hr,hro,hx,hq]at hk⊢
    exact hk
   ·unfold dh
    simp only[hoi,hnn,happ,hda,if_true]
    unfold wP
    rw[hso,hd,hr,hx,hq]
    simp only[hcond,if_true]
    rfl
  ·cases h
 ·cases h
theorem JM {k:Option Nat} {d:Nat} {A:AV} {y:Operand} (hd: ∀ i,y=.tmp i->i≠d) (ht:(aJ P ((kN k st).put (some d) A) oj y).tag=2\/(aJ P ((kN k st).put (some d) A) oj y).tag=3):
  aJ P ((kN k st).put (some d) A) oj y=aJ P st oj y/\ ∀ j∈refs (aJ P st oj y),k≠some j:=by
 cases y with
 |tmp i=>
  have hg':aJ P ((kN k st).put (some d) A) oj (.tmp i)=(kN k st).get i:=jh (fun hh=>hd i rfl (Option.some.inj hh).symm)
  cases k with
  |none=>
   refine⟨hg',fun j _ hh=>by cases hh⟩
  |some q=>
   have hg:(kN (some q) st).get i=bg [q] (st.get i):=JW q i
   rw[hg]at hg'
   rw[hg']at ht⊢
   rcases eu [q] (st.get i)with hk|⟨hk,hne2⟩
   ·exfalso
    rw[hk]at ht
    unfold dz at ht
    split at ht
    ·rename_i h7
     have h7:(st.get i).tag=7:=by simpa using h7
     rcases ht with h|h<;> · simp only[h7]at h;cases h
    ·split at ht
     ·rename_i h8
      have h8:(st.get i).tag=8:=by simpa using h8
      rcases ht with h|h<;>omega
     ·rcases ht with h|h<;>cases h
   ·rw[hk]
    refine⟨rfl,fun j hj hh=>hne2 j hj ?_⟩
    cases hh
    simp
 |const u=>
  exfalso
  have ht':(aJ P ((kN k st).put (some d) A) oj (.const u)).tag=0\/(aJ P ((kN k st).put (some d) A) oj (.const u)).tag=1:=KO P oj.type u
  omega
 |global g=>
  refine⟨rfl,fun j hj=>?_⟩
  have:refs (aJ P st oj (.global g))=[]:=rfl
  rw[this]at hj
  cases hj
 |func f=>
  refine⟨rfl,fun j hj=>?_⟩
  have:refs (aJ P st oj (.func f))=[]:=by
   have e:aJ P st oj (.func f)=(match P.underlying oj.type with
     |some (.func _ _ _)=>if P.cellsOf oj.type=1 then dat oj.type (.held (.func (.func f) #[] #[]))else dead
     |_=>dead):=rfl
   rw[e]
   split
   ·split<;>rfl
   ·rfl
  rw[this]at hj
  cases hj
theorem Vk (hpl:cu env) (hs:abM oj.op=true) {k:Option Nat} {d:Nat} {A:AV} (hA:refs A=[]) (hk: ∀ i,k=some i->oj.dst≠some i) (hl: ∀ i,Operand.tmp i∈oj.op.operands.toList->i≠d) (hd:oj.dst≠some d)
  (h:dh P env oj ((kN k st).put (some d) A)=some s12):
  ∃ s2,dh P env oj st=some s2/\(∀ i,k=some i->s2.bx i=st.bx i)/\(∀ j,oj.dst≠some j->s2.get j=st.get j)/\s12=(kN k s2).put (some d) A/\ ∀ s,aT P env s oj=true:=by
 have hc: ∀ i,(some d:Option Nat)=some i->oj.dst≠some i:=fun i hi=>by cases hi;exact hd
 have hc': ∀ i,oj.dst=some i->(some d:Option Nat)≠some i:=fun i hi hh=>by cases hh;exact hd hi
 unfold abM at hs
 split at hs
 ·rename_i t' y n hoj
  obtain⟨v,rfl,hv,htag,hre⟩:=YY hoj h
  obtain⟨ho,hnr⟩:=JM (fun i hi=>hl i (by rw[hoj];simp[Op.operands,hi])) htag
  rw[ho]at hv htag
  have ej:dh P env oj st=some (st.put oj.dst v):=by
   refine hre st ho.symm fun h2=>?_
   rw[ho]at h2⊢
   have hne:k≠some (aJ P st oj y).id:=hnr _ (by rw[bY h2];simp)
   rw[bU,zk hne,Option.map_map]
   rfl
  refine⟨_,ej,fun i _=>by rw[bU],fun j hj=>jh hj,?_,fun s=>by unfold aT;rw[hoj]⟩
  rw[CJ,MJ (fun j hj=>hnr j (hv j hj))]
  exact put_comm hc
 ·rename_i t' y hoj
  unfold dh at h
  simp only[hoj,hpl.1,Bool.false_eq_true,if_false]at h
  obtain⟨v1,hv1,rfl⟩:=Option.map_eq_some_iff.1 h
  have htag:=Za hv1
  obtain⟨ho,hnr⟩:=JM (fun i hi=>hl i (by rw[hoj];simp[Op.operands,hi])) htag
  rw[ho,Rj,UR (fun h2=>hnr _ (by rw[bY h2];simp))]at hv1
  obtain⟨v,hv,rfl⟩:=Option.map_eq_some_iff.1 hv1
  refine⟨st.put oj.dst v,?_,fun i _=>by rw[bU],fun j hj=>jh hj,?_,fun s=>by unfold aT;rw[hoj]⟩
  ·unfold dh
   simp only[hoj,hpl.1,Bool.false_eq_true,if_false]
   rw[hv]
   rfl
  ·rw[CJ]
   exact put_comm hc
 ·rename_i t' hoj
  unfold dh at h
  simp only[hoj,hpl.1,Bool.false_and,Bool.false_eq_true,if_false]at h
  split at h
  ·rename_i d' z hd' hz
   split at h
   ·rename_i hf
    cases h
    have hkd:k≠some d':=fun hh=>hk d' hh hd'
    have hf':((st.bx d').isNone&&decide (d'<RID))=true:=by
     rw[bU,zk hkd,Option.isNone_map]at hf
     exact hf
    refine⟨(st.upd d' ⟨t',z,0,none⟩).put (some d') (bxp d' t'),?_,fun i hi=>?_,fun j hj=>?_,?_,fun s=>by unfold aT;rw[hoj]⟩
    ·unfold dh
     simp only[hoj,hpl.1,Bool.false_and,Bool.false_eq_true,if_false]
     rw[hd',hz]
     simp only[hf',if_true]
    ·rw[bU,aW,if_neg (fun hh=>hkd (by rw[hi,hh]))]
    ·rw[hd']at hj
     rw[jh hj]
     rfl
    ·rw[CJ,Uz hkd rfl,MJ (v:=bxp d' t') (fun j hj=>by rw[bY rfl]at hj;simp[bxp]at hj;rw[hj];exact hkd),aY]
     exact put_comm (by rw[<-hd'];exact hc)
   ·cases h
  ·cases h
 ·cases hs
theorem Pm (hpl:cu env) (hc:CW env ops oi oj=true) (h1:aP P env ops oi st=some s1) (h2:aP P env ops oj s1=some s12):
  ∃ s2,aP P env ops oj st=some s2/\aP P env ops oi s2=some s12:=by
 unfold CW at hc
 simp only[Bool.and_eq_true,Option.isNone_iff_eq_none]at hc
 obtain⟨⟨⟨⟨hap,gi⟩,gj⟩,hi⟩,hj⟩:=hc
 obtain⟨a1,a2,a3⟩:=Oper.apart_spec hap
 have ask: ∀ (o:Oper) (s:St),o.guard=none->asked P ops o s=some true:=fun o s hg=>by unfold asked;rw[hg]
 have step: ∀ (o:Oper) (s s':St),o.guard=none->aP P env ops o s=some s'->aT P env s o=true/\dh P env o s=some s':=by
  intro o s s' hg h
  unfold aP at h
  rw[ask o s hg]at h
  simp only at h
  split at h
  ·rename_i hk;exact⟨hk,h⟩
  ·cases h
 have back: ∀ (o:Oper) (s s':St),o.guard=none->aT P env s o=true->dh P env o s=some s'->aP P env ops o s=some s':=by
  intro o s s' hg hk he
  unfold aP
  rw[ask o s hg]
  simp only
  rw[if_pos hk]
  exact he
 obtain⟨k1,e1⟩:=step oi st s1 gi h1
 obtain⟨k2,e2⟩:=step oj s1 s12 gj h2
 obtain⟨k,d,A,hd,hA,rfl,hko,hre⟩:=Ws hi k1 e1
 obtain⟨s2,ej,hb,hg,hs,hck⟩:=Vk hpl hj hA (fun i hki hh=>a3 i hh (ni (hko i hki))) (fun i hi hh=>a1 d hd (by rw[<-hh];exact ni hi)) (fun hh=>a2 d hd hh) e2
 obtain⟨c3,e3⟩:=hre s2 (fun i hi=>hg i (fun hh=>a3 i hh (ni hi))) hb
 exact⟨s2,back oj st s2 gj (hck st) ej,back oi s2 s12 gi c3 (by rw[e3,hs])⟩
theorem C9 (hpl:cu env) {G:St->Prop} {i:Nat} (hi:ops[i]? =some oi):
  ∀ (n:Nat) (listed:Array Bool) (st s1:St),ND2 st->Closed ops listed->i∈Region.ready .any ops listed->
   (∀ (j:Nat) (oj:Oper),ops[j]? =some oj->j≠i->listed.getD j true=false->(comm ops oi oj=true\/waits ops 8 j i=true)\/CW env ops oi oj=true)->
   aP P env ops oi st=some s1->rF P env ops G n (listed.setIfInBounds i true) s1->rF P env ops G (n+1) listed st:=by
 intro n
 induction n with
 |zero=>
  intro listed st s1 hn hc hr hfree h1 H
  refine⟨fun h=>(by rw[h]at hr;cases hr),fun j hj=>?_⟩
  by_cases hji:j=i
  ·subst hji;exact⟨oi,s1,hi,h1,H⟩
  ·have:=ready_mono hj hji
   rw[H.1]at this
   cases this
 |succ n ih=>
  intro listed st s1 hn hc hr hfree h1 H
  refine⟨fun h=>(by rw[h]at hr;cases hr),fun j hj=>?_⟩
  by_cases hji:j=i
  ·subst hji;exact⟨oi,s1,hi,h1,H⟩
  ·obtain⟨oj,s12,hoj,h2,hrest⟩:=H.2 j (ready_mono hj hji)
   have hiun:=(mem_ready.1 hr).1
   have hjun:=(mem_ready.1 hj).1
   have hd: ∃ s2,aP P env ops oj st=some s2/\aP P env ops oi s2=some s12:=by
    rcases hfree j oj hoj hji hjun with(h|h)|h
    ·exact diamond hpl h hn.1 h1 h2
    ·rw[gQ hc hiun hj]at h;cases h
    ·exact Pm hpl h h1 h2
   obtain⟨s2,g1,g2⟩:=hd
   refine⟨oj,s2,hoj,g1,?_⟩
   refine ih (listed.setIfInBounds j true) s2 s12 (iV hpl hn g1) (mO hc hj) (ready_mono hr (Ne.symm hji)) ?_ g2 ?_
   ·intro k ok hk hki hun
    refine hfree k ok hk hki ?_
    by_cases hjk:j=k
    ·subst hjk;exact hjun
    ·rw[getD_set_ne true hjk]at hun;exact hun
   ·rw[Array.setIfInBounds_comm _ _ hji]
    exact hrest
theorem Jt (hpl:cu env) (hlex:LM env ops=true) {G:St->Prop} (hG:G st'):
  ∀ (l:List Oper) (k:Nat) (listed:Array Bool) (st:St),(∀ j,l[j]? =ops[k+j]?)->listed.size=ops.size->(∀ j,j<ops.size->listed.getD j true=decide (j<k))->k+l.length=ops.size->
   ND2 st->di P env ops l st=some st'->rF P env ops G l.length listed st
 | [],k,listed,st,hl,hsz,hlist,hlen,hn,h=>by
  simp only[di,Option.some.injEq]at h
  subst h
  refine⟨?_,hG⟩
  rw[List.eq_nil_iff_forall_not_mem]
  intro j hj
  obtain⟨h1,o,ho,_⟩:=mem_ready.1 hj
  have hlt:j<ops.size:=(Array.getElem?_eq_some_iff.1 ho).1
  rw[hlist j hlt]at h1
  simp at hlen h1
  omega
 |o::l,k,listed,st,hl,hsz,hlist,hlen,hn,h=>by
  simp only[di]at h
  obtain⟨s1,h1,h2⟩:=Option.bind_eq_some_iff.1 h
  have h0:ops[k]? =some o:=by simpa using(hl 0).symm
  have hk:k<ops.size:=(Array.getElem?_eq_some_iff.1 h0).1
  have hlf: ∀ j,j<ops.size->listed.getD j false=decide (j<k):=fun j hj=>by
   have:=hlist j hj
   have hj':j<listed.size:=by omega
   simpa [hj']using this
  unfold LM at hlex
  have hlex':=hlex
  rw[List.all_eq_true]at hlex'
  have hat: ∀ (j:Nat) (oj:Oper),ops[j]? =some oj->(∀ e∈oj.after,Region.binds .any e=true->e.on<j)/\ ∀ (i:Nat) (oi:Oper),i<j->ops[i]? =some oi->(comm ops oi oj=true\/waits ops 8 j i=true)\/CW env ops oi oj=true:=by
   intro j oj hj
   have hlt:j<ops.size:=(Array.getElem?_eq_some_iff.1 hj).1
   have:=hlex' j (List.mem_range.2 hlt)
   rw[hj]at this
   simp only[Bool.and_eq_true,Array.all_eq_true_iff_forall_mem,List.all_eq_true]at this
   refine⟨fun e he hb=>?_,fun i oi hij hi=>?_⟩
   ·have:=this.1 e he
    simpa [hb]using this
   ·have:=this.2 i (List.mem_range.2 hij)
    rw[hi]at this
    simpa using this
  have hready:k∈Region.ready .any ops listed:=mem_ready.2 ⟨by rw[hlist k hk];simp,o,h0,fun e he hb=>by
   have hlt:=(hat k o h0).1 e he hb
   rw[hlf e.on (by omega)]
   simpa using hlt⟩
  have hclosed:Closed ops listed:=by
   intro j oj hj hjl e he hb
   have hlt:j<ops.size:=(Array.getElem?_eq_some_iff.1 hj).1
   rw[hlf j hlt]at hjl
   have:=(hat j oj hj).1 e he hb
   rw[hlf e.on (by omega)]
   simp at hjl⊢
   omega
  refine C9 hpl h0 l.length listed st s1 hn hclosed hready ?_ h1 ?_
  ·intro j oj hj hjk hun
   have hlt:j<ops.size:=(Array.getElem?_eq_some_iff.1 hj).1
   rw[hlist j hlt]at hun
   simp at hun
   exact(hat j oj hj).2 k o (by omega) h0
  ·refine Jt hpl hlex hG l (k+1) _ s1 (fun j=>by have:=hl (j+1);simpa [Nat.add_assoc,Nat.add_comm 1 j]using this) (by simpa using hsz) ?_ (by simp at hlen;omega) (iV hpl hn h1) h2
   intro j hj
   by_cases hjk:k=j
   ·subst hjk
    have:k<listed.size:=by omega
    simp[this]
   ·rw[getD_set_ne true hjk,hlist j hj]
    simp
    omega
theorem JX (hpl:cu env) {G:St->Prop} (hG:G st'):
  ∀ (l done:List Nat) (listed:Array Bool) (st:St),Gs env ops done l=true->listed.size=ops.size->(∀ j,listed.getD j false=done.contains j)->Closed ops listed->(∀ j,j<ops.size->j∈done\/j∈l)->
   ND2 st->di P env ops (wV ops l) st=some st'->rF P env ops G l.length listed st
 | [],done,listed,st,hx,hsz,hlist,hcl,hcov,hn,h=>by
  have h:some st=some st':=h
  cases h
  refine⟨?_,hG⟩
  rw[List.eq_nil_iff_forall_not_mem]
  intro j hj
  obtain⟨h1,o,ho,_⟩:=mem_ready.1 hj
  have hlt:j<ops.size:=(Array.getElem?_eq_some_iff.1 ho).1
  have hd:j∈done:=(hcov j hlt).resolve_right (by simp)
  have h2:listed.getD j false=true:=by rw[hlist,List.contains_iff_mem];exact hd
  have hj':j<listed.size:=by omega
  simp[hj']at h1 h2
  rw[h1]at h2
  cases h2
 |k::l,done,listed,st,hx,hsz,hlist,hcl,hcov,hn,h=>by
  unfold Gs at hx
  rw[Bool.and_eq_true]at hx
  obtain⟨hx1,hx2⟩:=hx
  cases h0:ops[k]? with
  |none=>rw[h0]at hx1;cases hx1
  |some o=>
   rw[h0]at hx1
   simp only[Bool.and_eq_true,Array.all_eq_true_iff_forall_mem,List.all_eq_true]at hx1
   obtain⟨⟨hnd,haft⟩,hrest⟩:=hx1
   have hk:k<ops.size:=(Array.getElem?_eq_some_iff.1 h0).1
   have hkd:done.contains k=false:=by simpa using hnd
   have hpick:wV ops (k::l)=o::wV ops l:=by unfold wV;rw[List.filterMap_cons,h0]
   rw[hpick]at h
   simp only[di]at h
   obtain⟨s1,h1,h2⟩:=Option.bind_eq_some_iff.1 h
   have hready:k∈Region.ready .any ops listed:=mem_ready.2 ⟨by
    have:=hlist k
    have hk':k<listed.size:=by omega
    rw[hkd]at this
    simpa [hk']using this,o,h0,fun e he hb=>by
     have:=haft e he
     rw[hlist]
     simpa [hb]using this⟩
   refine C9 hpl h0 l.length listed st s1 hn hcl hready ?_ h1 ?_
   ·intro j oj hj hjk hun
    have hlt:j<ops.size:=(Array.getElem?_eq_some_iff.1 hj).1
    have hjd:j∉done:=fun hh=>by
     have h3:listed.getD j false=true:=by rw[hlist,List.contains_iff_mem];exact hh
     have hj':j<listed.size:=by omega
     simp[hj']at hun h3
     rw[hun]at h3
     cases h3
    have hjl:j∈l:=by
     rcases List.mem_cons.1 ((hcov j hlt).resolve_left hjd)with hh|hh
     ·exact absurd hh hjk
     ·exact hh
    have:=hrest j hjl
    rw[hj]at this
    simpa using this
   ·refine JX hpl hG l (k::done) _ s1 hx2 (by simpa using hsz) ?_ (mO hcl hready) ?_ (iV hpl hn h1) h2
    ·intro j
     by_cases hjk:k=j
     ·subst hjk
      have:k<listed.size:=by omega
      simp[this]
     ·rw[getD_set_ne false hjk,hlist,List.contains_cons]
      have:(j==k)=false:=by simpa using Ne.symm hjk
      rw[this,Bool.false_or]
    ·intro j hj
     rcases hcov j hj with hh|hh
     ·exact .inl (List.mem_cons_of_mem _ hh)
     ·rcases List.mem_cons.1 hh with rfl|hh
      ·exact .inl (List.mem_cons_self ..)
      ·exact .inr hh
theorem JQ {j:Nat} (hj:j<ops.size): ∀ (l done:List Nat),Gs env ops done l=true->j∈done\/j∈l
 | [],done,h=>by
  have h:(List.range ops.size).all done.contains=true:=h
  rw[List.all_eq_true]at h
  have:=h j (List.mem_range.2 hj)
  rw[List.contains_iff_mem]at this
  exact .inl this
 |k::l,done,h=>by
  unfold Gs at h
  rw[Bool.and_eq_true]at h
  rcases JQ hj l (k::done) h.2 with hh|hh
  ·rcases List.mem_cons.1 hh with rfl|hh
   ·exact .inr (List.mem_cons_self ..)
   ·exact .inl hh
  ·exact .inr (List.mem_cons_of_mem _ hh)
theorem UE (p:Nat->Bool) (l:List Nat):(l.filter p++l.filter fun j=>!p j).length=l.length:=by
 induction l with
 |nil=>rfl
 |cons x l ih=>
  rw[List.length_append]at ih⊢
  cases hp:p x<;>simp[List.filter_cons,hp]<;>omega
theorem Qc (env:Env) (ops:Array Oper):(PM env ops).length=ops.size:=
 (UE (fun j=>(List.range ops.size).any fun a=>((ops[a]?).map (Cb env)).getD false&&(a==j||waits ops 8 a j)) (List.range ops.size)).trans List.length_range
theorem JF (n j:Nat):(Array.replicate n false).getD j false=false:=by
 rw[Array.getD_eq_getD_getElem?,Array.getElem?_replicate]
 split<;>rfl
theorem yw (hpl:cu env) (hm:P.follows .mixedOrders=true) (henv:EnvOK P env) {l:List Nat} (hlex:Gs env ops [] l=true) (hlen:l.length=ops.size) {id:Nat} (h:di P env ops (wV ops l) st=some st') (R:Rel P F st a w)
  (hQ: ∀ a w,Rel P F st' a w->Q .normal a w):(Code.region id ops true).wp P Q a w:=by
 obtain⟨ok,β,R⟩:=R
 refine wp_region_any hm ?_
 refine kJ (G:=fun s=>s=st') henv (fun s a w hs R'=>hQ a w (hs▸R')) _ _ st a _ ?_ ⟨ok,β,R.drawn⟩
 have:=JX (G:=fun s=>s=st') hpl rfl l [] (Array.replicate ops.size false) st hlex (by simp) (fun j=>JF _ j) (by intro j oj hj hjl;rw[JF]at hjl;cases hjl) (fun j hj=>JQ hj l [] hlex) ⟨R.nd,R.hp.nb⟩ h
 rw[hlen]at this
 simpa using this
theorem x8 (hpl:cu env) (hm:P.follows .mixedOrders=true) (henv:EnvOK P env) (hlex:LM env ops=true) {id:Nat} (h:di P env ops ops.toList st=some st') (R:Rel P F st a w)
  (hQ: ∀ a w,Rel P F st' a w->Q .normal a w):(Code.region id ops true).wp P Q a w:=by
 obtain⟨ok,β,R⟩:=R
 refine wp_region_any hm ?_
 refine kJ (G:=fun s=>s=st') henv (fun s a w hs R'=>hQ a w (hs▸R')) _ _ st a _ ?_ ⟨ok,β,R.drawn⟩
 have:=Jt (G:=fun s=>s=st') hpl hlex rfl ops.toList 0 (Array.replicate ops.size false) st (by simp) (by simp) (fun j hj=>by simp[hj]) (by simp) ⟨R.nd,R.hp.nb⟩ h
 simpa using this
end
end
section
section
variable {P:Program} {w w':World} {ok ok':Nat->Prop} {β:Nat->Nat×Nat} {ops:Array Oper}
variable {F:Fr P} {st st' s s' s1 s2 s12:St} {a:Act} {env:Env} {o oi oj:Oper} {av:AV} {Q:Exit->Act->World->Prop}
theorem EnvOK.half (h:EnvOK P env):EnvOK P env.half:=⟨h.p,h.h,h.r,fun f t pre F args k d he=>(by cases he),fun f t pre F args r es he=>(by cases he)⟩
theorem FC {c:Call} (h:fG c=false):mr P env.half st c=mr P env.plain st c:=by
 unfold mr
 rw[h]
 rfl
theorem Qp:eQ P env.half o st=eQ P env.plain o st:=rfl
theorem CZ {c:Call} :mD env.half c=mD env.plain c:=rfl
theorem G6 {c:Call} :kT env.half c=kT env.plain c:=rfl
theorem P5 (h:nt o=true):aT P env.half st o=aT P env.plain st o:=by
 unfold aT
 cases hop:o.op<;>try rfl
 case binOp op t x y yt=>cases op<;>rfl
 case call c=>
  simp only
  have ht:fG c=false:=by
   unfold nt at h
   rw[hop]at h
   simpa using h
  rw[FC ht,CZ,G6]
  rfl
theorem UL (h:nt o=true):dh P env.half o st=dh P env.plain o st:=by
 unfold dh
 cases hop:o.op<;>try rfl
 case next y b=>cases y<;>cases b<;>rfl
 case call c=>
  simp only
  have ht:fG c=false:=by
   unfold nt at h
   rw[hop]at h
   simpa using h
  rw[FC ht,CZ,G6,Qp]
  have hn:mr P env.plain st c=none:=fJ (iX env)
  rw[hn]
  rfl
theorem kM (h:nt o=true):aP P env.half ops o st=aP P env.plain ops o st:=by
 unfold aP
 rw[P5 h,UL h]
theorem KH (hi:nt oi=true) (hj:nt oj=true) (hc:comm ops oi oj=true) (hn:ND st) (h1:aP P env.half ops oi st=some s1) (h2:aP P env.half ops oj s1=some s12):
  ∃ s2,aP P env.half ops oj st=some s2/\aP P env.half ops oi s2=some s12:=by
 rw[kM hi]at h1
 rw[kM hj]at h2
 obtain⟨s2,g1,g2⟩:=diamond (iX env) hc hn h1 h2
 exact⟨s2,by rw[kM hj];exact g1,by rw[kM hi];exact g2⟩
theorem Px {G:St->Prop} {i:Nat} (hi:ops[i]? =some oi):
  ∀ (n:Nat) (listed:Array Bool) (st s1:St),ND2 st->Closed ops listed->i∈Region.ready .any ops listed->
   (∀ (j:Nat) (oj:Oper),ops[j]? =some oj->j≠i->listed.getD j true=false->(comm ops oi oj=true/\nt oi=true/\nt oj=true)\/waits ops 8 j i=true)->
   aP P env.half ops oi st=some s1->rF P env.half ops G n (listed.setIfInBounds i true) s1->rF P env.half ops G (n+1) listed st:=by
 intro n
 induction n with
 |zero=>
  intro listed st s1 hn hc hr hfree h1 H
  refine⟨fun h=>(by rw[h]at hr;cases hr),fun j hj=>?_⟩
  by_cases hji:j=i
  ·subst hji;exact⟨oi,s1,hi,h1,H⟩
  ·have:=ready_mono hj hji
   rw[H.1]at this
   cases this
 |succ n ih=>
  intro listed st s1 hn hc hr hfree h1 H
  refine⟨fun h=>(by rw[h]at hr;cases hr),fun j hj=>?_⟩
  by_cases hji:j=i
  ·subst hji;exact⟨oi,s1,hi,h1,H⟩
  ·obtain⟨oj,s12,hoj,h2,hrest⟩:=H.2 j (ready_mono hj hji)
   have hiun:=(mem_ready.1 hr).1
   have hjun:=(mem_ready.1 hj).1
   have hcomm:comm ops oi oj=true/\nt oi=true/\nt oj=true:=by
    rcases hfree j oj hoj hji hjun with h|h
    ·exact h
    ·rw[gQ hc hiun hj]at h;cases h
   obtain⟨s2,g1,g2⟩:=KH hcomm.2.1 hcomm.2.2 hcomm.1 hn.1 h1 h2
   refine⟨oj,s2,hoj,g1,?_⟩
   refine ih (listed.setIfInBounds j true) s2 s12 (iV (iX env) hn (by rw[kM hcomm.2.2]at g1;exact g1)) (mO hc hj) (ready_mono hr (Ne.symm hji)) ?_ g2 ?_
   ·intro k ok hk hki hun
    refine hfree k ok hk hki ?_
    by_cases hjk:j=k
    ·subst hjk;exact hjun
    ·rw[getD_set_ne true hjk]at hun;exact hun
   ·rw[Array.setIfInBounds_comm _ _ hji]
    exact hrest
theorem TS {G:St->Prop} {i n:Nat} {listed:Array Bool} (hi:ops[i]? =some oi) (hr:i∈Region.ready .any ops listed) (ho: ∀ j∈Region.ready .any ops listed,j=i)
  (h1:aP P env ops oi st=some s1) (H:rF P env ops G n (listed.setIfInBounds i true) s1):rF P env ops G (n+1) listed st:=by
 refine⟨fun h=>(by rw[h]at hr;cases hr),fun j hj=>?_⟩
 obtain rfl:=ho j hj
 exact⟨oi,s1,hi,h1,H⟩
theorem Ju (hlex:KJ ops=true) {G:St->Prop} (hG:G st'):
  ∀ (l:List Oper) (k:Nat) (listed:Array Bool) (st:St),(∀ j,l[j]? =ops[k+j]?)->listed.size=ops.size->(∀ j,j<ops.size->listed.getD j true=decide (j<k))->k+l.length=ops.size->
   (Qh ops k=true->ND2 st)->di P env.half ops l st=some st'->rF P env.half ops G l.length listed st
 | [],k,listed,st,hl,hsz,hlist,hlen,hn,h=>by
  simp only[di,Option.some.injEq]at h
  subst h
  refine⟨?_,hG⟩
  rw[List.eq_nil_iff_forall_not_mem]
  intro j hj
  obtain⟨h1,o,ho,_⟩:=mem_ready.1 hj
  have hlt:j<ops.size:=(Array.getElem?_eq_some_iff.1 ho).1
  rw[hlist j hlt]at h1
  simp at hlen h1
  omega
 |o::l,k,listed,st,hl,hsz,hlist,hlen,hn,h=>by
  simp only[di]at h
  obtain⟨s1,h1,h2⟩:=Option.bind_eq_some_iff.1 h
  have h0:ops[k]? =some o:=by simpa using(hl 0).symm
  have hk:k<ops.size:=(Array.getElem?_eq_some_iff.1 h0).1
  have hlf: ∀ j,j<ops.size->listed.getD j false=decide (j<k):=fun j hj=>by
   have:=hlist j hj
   have hj':j<listed.size:=by omega
   simpa [hj']using this
  unfold KJ at hlex
  have hlex':=hlex
  rw[List.all_eq_true]at hlex'
  have hat: ∀ (j:Nat) (oj:Oper),ops[j]? =some oj->(∀ e∈oj.after,Region.binds .any e=true->e.on<j)/\ ∀ (i:Nat) (oi:Oper),i<j->ops[i]? =some oi->(comm ops oi oj=true/\nt oi=true/\nt oj=true/\Qh ops j=true)\/waits ops 8 j i=true:=by
   intro j oj hj
   have hlt:j<ops.size:=(Array.getElem?_eq_some_iff.1 hj).1
   have:=hlex' j (List.mem_range.2 hlt)
   rw[hj]at this
   simp only[Bool.and_eq_true,Array.all_eq_true_iff_forall_mem,List.all_eq_true]at this
   refine⟨fun e he hb=>?_,fun i oi hij hi=>?_⟩
   ·have:=this.1 e he
    simpa [hb]using this
   ·have:=this.2 i (List.mem_range.2 hij)
    rw[hi]at this
    simp only[Bool.or_eq_true,Bool.and_eq_true]at this
    rcases this with h|⟨⟨⟨q1,q2⟩,q3⟩,q4⟩
    ·exact .inr h
    ·exact .inl ⟨q1,q2,q3,q4⟩
  have hready:k∈Region.ready .any ops listed:=mem_ready.2 ⟨by rw[hlist k hk];simp,o,h0,fun e he hb=>by
   have hlt:=(hat k o h0).1 e he hb
   rw[hlf e.on (by omega)]
   simpa using hlt⟩
  have hclosed:Closed ops listed:=by
   intro j oj hj hjl e he hb
   have hlt:j<ops.size:=(Array.getElem?_eq_some_iff.1 hj).1
   rw[hlf j hlt]at hjl
   have:=(hat j oj hj).1 e he hb
   rw[hlf e.on (by omega)]
   simp at hjl⊢
   omega
  have hlater: ∀ j,j∈Region.ready .any ops listed->j≠k-> ∃ oj,ops[j]? =some oj/\k<j:=by
   intro j hj hjk
   obtain⟨hun,oj,hoj,_⟩:=mem_ready.1 hj
   have hlt:j<ops.size:=(Array.getElem?_eq_some_iff.1 hoj).1
   rw[hlist j hlt]at hun
   simp at hun
   exact⟨oj,hoj,by omega⟩
  have hgo:rF P env.half ops G l.length (listed.setIfInBounds k true) s1:=by
   refine Ju hlex hG l (k+1) _ s1 (fun j=>by have:=hl (j+1);simpa [Nat.add_assoc,Nat.add_comm 1 j]using this) (by simpa using hsz) ?_ (by simp at hlen;omega) (fun hnt=>?_) h2
   ·intro j hj
    by_cases hjk:k=j
    ·subst hjk
     have:k<listed.size:=by omega
     simp[this]
    ·rw[getD_set_ne true hjk,hlist j hj]
     simp
     omega
   ·unfold Qh at hnt
    rw[List.all_eq_true]at hnt
    have hk1:=hnt k (List.mem_range.2 (Nat.lt_succ_self k))
    rw[h0]at hk1
    have hk0:Qh ops k=true:=by
     unfold Qh
     rw[List.all_eq_true]
     intro j hj
     exact hnt j (List.mem_range.2 (Nat.lt_succ_of_lt (List.mem_range.1 hj)))
    exact iV (iX env) (hn hk0) (by rw[<-kM hk1];exact h1)
  by_cases hall: ∀ j∈Region.ready .any ops listed,j=k
  ·exact TS h0 hready hall h1 hgo
  ·have hnd:ND2 st:=by
    obtain⟨j,hj⟩:=Classical.not_forall.1 hall
    obtain⟨hj,hjk⟩:=Classical.not_imp.1 hj
    obtain⟨oj,hoj,hlt⟩:=hlater j hj hjk
    refine hn ?_
    rcases(hat j oj hoj).2 k o hlt h0 with h|h
    ·have h4:=h.2.2.2
     unfold Qh at h4⊢
     rw[List.all_eq_true]at h4⊢
     intro q hq
     exact h4 q (List.mem_range.2 (Nat.lt_trans (List.mem_range.1 hq) hlt))
    ·rw[gQ hclosed (mem_ready.1 hready).1 hj]at h
     cases h
   refine Px h0 l.length listed st s1 hnd hclosed hready ?_ h1 hgo
   intro j oj hj hjk hun
   have hlt:j<ops.size:=(Array.getElem?_eq_some_iff.1 hj).1
   rw[hlist j hlt]at hun
   simp at hun
   rcases(hat j oj hj).2 k o (by omega) h0 with h|h
   ·exact .inl ⟨h.1,h.2.1,h.2.2.1⟩
   ·exact .inr h
theorem xI (hm:P.follows .mixedOrders=true) (henv:EnvOK P env) (hlex:KJ ops=true) {id:Nat} (h:di P env.half ops ops.toList st=some st') (R:Rel P F st a w)
  (hQ: ∀ a w,Rel P F st' a w->Q .normal a w):(Code.region id ops true).wp P Q a w:=by
 obtain⟨ok,β,R⟩:=R
 refine wp_region_any hm ?_
 refine kJ (G:=fun s=>s=st') henv.half (fun s a w hs R'=>hQ a w (hs▸R')) _ _ st a _ ?_ ⟨ok,β,R.drawn⟩
 have:=Ju (G:=fun s=>s=st') hlex rfl ops.toList 0 (Array.replicate ops.size false) st (by simp) (by simp) (fun j hj=>by simp[hj]) (by simp) (fun _=>⟨R.nd,R.hp.nb⟩) h
 simpa using this
end
end
end Go.Ev
