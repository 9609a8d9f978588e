/- Trees of functions, and lemmas. Nothing here is trusted. -/
import Derived.Test.YtpceahbengfjeaaGreatDoorZ14
namespace Go.Ev
open Go.RowKit
set_option linter.unusedVariables false
set_option linter.unusedSimpArgs false
section
variable {P:Program} {w w':World} {ok ok':Nat->Prop} {β:Nat->Nat×Nat} {ops:Array Oper}
variable {F:Fr P} {st st' s s' s1 s2 s12:St} {a:Act} {env:Env} {o oi oj:Oper} {av r:AV} {ρ:Type} {rr:ρ} {Q:Exit->Act->World->Prop}
theorem o7 {c:Nat} {b:Bool} (h:kE P (st.get c)=some b):st.know c b=st:=by
 obtain⟨_,_,hd⟩:=qN h
 unfold St.know
 have:({st.get c with d:=.lit (.bool b) } :AV)=st.get c:=by rw[<-hd]
 rw[this]
 unfold St.put St.get
 simp only
 by_cases hc:c<st.sl.length
 ·simp[List.getD,hc]
 ·have e:st.sl.set c (st.sl.getD c dead)=st.sl:=List.set_eq_of_length_le (by omega)
  rw[e]
theorem Jn {K:St->Option ρ} (h:TE P env o st K=some rr): ∃ s',aT P env st o=true/\dh P env o st=some s'/\K s'=some rr:=by
 unfold TE at h
 split at h
 ·rename_i c x y hop
  cases hb:kE P (st.get c)with
  |none=>rw[hb]at h;cases h
  |some t=>
   rw[hb]at h
   simp only at h
   have hchk:aT P env st o=true:=by unfold aT;rw[hop]
   cases t with
   |true=>
    rw[cond_true,o7 hb]at h
    refine⟨_,hchk,?_,h⟩
    have hb':kE P (aJ P st o (.tmp c))=some true:=hb
    unfold dh
    simp only[hop,eQ,hb',Option.map_some,if_true]
   |false=>
    rw[cond_false,o7 hb]at h
    refine⟨_,hchk,?_,h⟩
    have hb':kE P (aJ P st o (.tmp c))=some false:=hb
    unfold dh
    simp only[hop,eQ,hb',Option.map_some,Bool.false_eq_true,if_false]
 ·cases hc:aT P env st o with
  |true=>rw[hc,cond_true]at h;obtain⟨s',h1,h2⟩:=Option.bind_eq_some_iff.1 h;exact⟨s',rfl,h1,h2⟩
  |false=>rw[hc,cond_false]at h;cases h
 ·cases hc:aT P env st o with
  |true=>rw[hc,cond_true]at h;obtain⟨s',h1,h2⟩:=Option.bind_eq_some_iff.1 h;exact⟨s',rfl,h1,h2⟩
  |false=>rw[hc,cond_false]at h;cases h
 ·cases hc:aT P env st o with
  |true=>rw[hc,cond_true]at h;obtain⟨s',h1,h2⟩:=Option.bind_eq_some_iff.1 h;exact⟨s',rfl,h1,h2⟩
  |false=>rw[hc,cond_false]at h;cases h
 ·cases hc:aT P env st o with
  |true=>rw[hc,cond_true]at h;obtain⟨s',h1,h2⟩:=Option.bind_eq_some_iff.1 h;exact⟨s',rfl,h1,h2⟩
  |false=>rw[hc,cond_false]at h;cases h
 ·cases hc:aT P env st o with
  |true=>rw[hc,cond_true]at h;obtain⟨s',h1,h2⟩:=Option.bind_eq_some_iff.1 h;exact⟨s',rfl,h1,h2⟩
  |false=>rw[hc,cond_false]at h;cases h
 ·rename_i i hop
  cases hit:Vh st i with
  |none=>rw[hit]at h;cases h
  |some q=>
   obtain⟨s,p⟩:=q
   rw[hit]at h
   simp only at h
   have hchk:aT P env st o=true:=by unfold aT;rw[hop]
   split at h
   ·rename_i hrt
    cases hd:decide (p<s.length)with
    |true=>
     rw[hd,cond_true]at h
     refine⟨_,hchk,?_,h⟩
     unfold dh
     simp only[hop,hit,hrt,hd,if_true]
    |false=>
     rw[hd,cond_false]at h
     refine⟨_,hchk,?_,h⟩
     unfold dh
     simp only[hop,hit,hrt,hd,if_true,Bool.false_eq_true,if_false]
   ·cases h
 ·cases hc:aT P env st o with
  |true=>rw[hc,cond_true]at h;obtain⟨s',h1,h2⟩:=Option.bind_eq_some_iff.1 h;exact⟨s',rfl,h1,h2⟩
  |false=>rw[hc,cond_false]at h;cases h
 ·cases hc:aT P env st o with
  |true=>rw[hc,cond_true]at h;obtain⟨s',h1,h2⟩:=Option.bind_eq_some_iff.1 h;exact⟨s',rfl,h1,h2⟩
  |false=>rw[hc,cond_false]at h;cases h
 ·cases hc:aT P env st o with
  |true=>rw[hc,cond_true]at h;obtain⟨s',h1,h2⟩:=Option.bind_eq_some_iff.1 h;exact⟨s',rfl,h1,h2⟩
  |false=>rw[hc,cond_false]at h;cases h
 ·cases hc:aT P env st o with
  |true=>rw[hc,cond_true]at h;obtain⟨s',h1,h2⟩:=Option.bind_eq_some_iff.1 h;exact⟨s',rfl,h1,h2⟩
  |false=>rw[hc,cond_false]at h;cases h
 ·cases hc:aT P env st o with
  |true=>rw[hc,cond_true]at h;obtain⟨s',h1,h2⟩:=Option.bind_eq_some_iff.1 h;exact⟨s',rfl,h1,h2⟩
  |false=>rw[hc,cond_false]at h;cases h
 ·rename_i n1 n2 n3 n4 n5 n6 n7 n8 n9 n10 n11 n12
  obtain⟨s',h1,h2⟩:=Option.bind_eq_some_iff.1 h
  refine⟨s',?_,h1,h2⟩
  unfold aT
  split
  ·rename_i hop;exact(n2 _ _ _ _ hop).elim
  ·rename_i hop;exact(n3 _ _ _ _ hop).elim
  ·rename_i hop;exact(n4 _ _ _ _ hop).elim
  ·rename_i hop;exact(n5 _ _ _ _ hop).elim
  ·rename_i hop;exact(n9 _ _ _ hop).elim
  ·rename_i hop;exact(n11 _ _ _ hop).elim
  ·rename_i hop;exact(n8 _ _ _ _ _ hop).elim
  ·rename_i hop;exact(n10 _ _ _ hop).elim
  ·rename_i hop;exact(n6 _ _ _ _ hop).elim
  ·rename_i hop;exact(n12 _ hop).elim
  ·rfl
theorem iq: ∀ (l:List Oper) (st:St) (K:St->Option ρ),pY P env ops l st K=some rr-> ∃ s',di P env ops l st=some s'/\K s'=some rr
 | [],st,K,h=>⟨st,rfl,h⟩
 |o::l,st,K,h=>by
  unfold pY at h
  cases hg:o.guard with
  |none=>
   rw[hg]at h
   simp only at h
   obtain⟨s1,hc,he,hk⟩:=Jn h
   obtain⟨s',h1,h2⟩:=iq l s1 K hk
   refine⟨s',?_,h2⟩
   simp only[di,BU (ops:=ops) (by unfold asked;rw[hg]) hc he,Option.bind_some,h1]
  |some g=>
   obtain⟨j,want⟩:=g
   rw[hg]at h
   simp only at h
   cases hd:(ops[j]?).bind (·.dst)with
   |none=>rw[hd]at h;cases h
   |some g=>
    rw[hd]at h
    simp only at h
    split at h
    ·rename_i h9
     obtain⟨s',h1,h2⟩:=iq l _ K h
     refine⟨s',?_,h2⟩
     have ha:asked P ops o st=some false:=by unfold asked guardOf;rw[hg];simp only[hd,h9,if_true]
     simp only[di,qU ha,Option.bind_some,h1]
    ·rename_i h9
     cases hb:kE P (st.get g)with
     |none=>rw[hb]at h;cases h
     |some b=>
      rw[hb]at h
      simp only at h
      have ha:asked P ops o st=some (b==want):=by unfold asked guardOf;rw[hg];simp only[hd,h9,if_false,hb,Option.map_some]
      cases hbw:(b==want)with
      |true=>
       rw[hbw,cond_true]at h
       have e:b=want:=by simpa using hbw
       subst e
       rw[o7 hb]at h
       obtain⟨s1,hc,he,hk⟩:=Jn h
       obtain⟨s',h1,h2⟩:=iq l s1 K hk
       refine⟨s',?_,h2⟩
       rw[hbw]at ha
       simp only[di,BU ha hc he,Option.bind_some,h1]
      |false=>
       rw[hbw,cond_false]at h
       have e:b=!want:=by cases b<;>cases want<;>simp at hbw⊢
       rw[<-e,o7 hb]at h
       obtain⟨s',h1,h2⟩:=iq l _ K h
       refine⟨s',?_,h2⟩
       rw[hbw]at ha
       simp only[di,qU ha,Option.bind_some,h1]
theorem Rel.forget (R:Rel P F st a w) (i:Nat):Rel P F (st.put (some i) dead) a w:=by
 obtain⟨ok,β,R⟩:=R
 refine⟨ok,β,by rw[Su];exact R.len,R.df,by rw[bU];exact R.hp,R.bel,R.bas,R.okb,by rw[bU];exact R.own,by rw[bU];exact R.hdr,fun j=>?_,fun j=>?_⟩
 ·rw[get_put,bU]
  split
  ·exact fU _
  ·exact R.slot j
 ·rw[get_put,bU]
  split
  ·exact ai wH
  ·exact R.nd j
theorem Rel.drop (R:Rel P F st a w) (l:List Nat):Rel P F (st.drop l) a w:=by
 unfold St.drop
 induction l generalizing st with
 |nil=>exact R
 |cons i l ih=>exact ih (R.forget i)
theorem HeapOK.less {bx bx':Nat->Option Ent} (H:HeapOK P w ok β bx) (κ:AV->AV) (hbx: ∀ j f,bx' j=some f-> ∃ e,bx j=some e/\f=e.mapC κ)
  (hκ: ∀ v val,aV bx v->RepAV P w ok β bx v val->RepAV P w ok β bx' (κ v) val/\aV bx' (κ v)) (hκ7: ∀ v,κ v=dz v\/κ v=v\/(v.tag=1/\κ v=dat v.ty v.d)):HeapOK P w ok β bx':=by
 refine⟨fun i f hi hl=>?_,fun b i f hb hi hl=>?_,fun i j f g hi hj hfl hgl heq=>?_,fun i f hi h0 hc=>?_,fun i f v hi h0 hc=>?_,fun i f hi h0=>?_,fun i f v hi hc=>?_,fun i f hi h0=>?_⟩
 ·obtain⟨e,he,rfl⟩:=hbx i f hi;exact H.siz i e he hl
 ·obtain⟨e,he,rfl⟩:=hbx i f hi;exact H.sep b i e hb he hl
 ·obtain⟨e,he,rfl⟩:=hbx i f hi
  obtain⟨e2,he2,rfl⟩:=hbx j g hj
  exact H.inj i j e e2 he he2 hfl hgl heq
 ·obtain⟨e,he,rfl⟩:=hbx i f hi
  exact H.box i e he h0 (by simpa [Ent.mapC]using hc)
 ·obtain⟨e,he,rfl⟩:=hbx i f hi
  simp only[Ent.mapC,Option.map_eq_some_iff]at hc
  obtain⟨u,hu,rfl⟩:=hc
  obtain⟨g1,val,g2,g3,g4⟩:=H.con i e u he h0 hu
  have hr:=(hκ u val (H.nb i e u he hu) g4).1
  have ht:CT P e.ty (κ u)/\ve (κ u) val e.ty=ve u val e.ty/\((κ u).tag≠7->u.tag≠7):=by
   rcases hκ7 u with h|h|⟨h1,h⟩
   ·rw[h];exact⟨g1.dz,EI _ _ _,fun hh h7=>hh ((KQ u).1.2 h7)⟩
   ·rw[h];exact⟨g1,rfl,fun hh=>hh⟩
   ·rw[h]
    exact⟨⟨fun _ _=>g1.1 (by omega) (by omega),fun hh=>by simp[dat]at hh,fun hh=>by simp[dat]at hh⟩,by rw[iM (by simp[dat]),iM (by omega)],fun _=>by omega⟩
  exact⟨ht.1,val,by show _=some (ve (κ u) val e.ty);rw[ht.2.1];exact g2,fun hh=>g3 (ht.2.2 hh),hr⟩
 ·obtain⟨e,he,rfl⟩:=hbx i f hi;exact H.row i e he h0
 ·obtain⟨e,he,rfl⟩:=hbx i f hi
  simp only[Ent.mapC,Option.map_eq_some_iff]at hc
  obtain⟨u,hu,rfl⟩:=hc
  by_cases h0:e.row=0
  ·obtain⟨_,val,_,_,g4⟩:=H.con i e u he h0 hu
   exact(hκ u val (H.nb i e u he hu) g4).2
  ·rw[H.rc i e he h0]at hu;cases hu
 ·obtain⟨e,he,rfl⟩:=hbx i f hi
  simp[Ent.mapC,H.rc i e he h0]
theorem RelX.less (R:RelX P F st ok β a w) {st':St} (κ:AV->AV) (hbx: ∀ j f,st'.bx j=some f-> ∃ e,st.bx j=some e/\f=e.mapC κ) (hsl: ∀ i,st'.get i=κ (st.get i)) (hlen:st'.sl.length=st.sl.length)
  (hκ: ∀ v val,aV st.bx v->RepAV P w ok β st.bx v val->RepAV P w ok β st'.bx (κ v) val/\aV st'.bx (κ v)) (hκ7: ∀ v,κ v=dz v\/κ v=v\/(v.tag=1/\κ v=dat v.ty v.d)):RelX P F st' ok β a w:=by
 refine⟨by rw[hlen];exact R.len,R.df,R.hp.less κ hbx hκ hκ7,R.bel,R.bas,R.okb,fun i f hi hl=>?_,fun i f hi hc=>?_,fun i=>?_,fun i=>?_⟩
 ·obtain⟨e,he,rfl⟩:=hbx i f hi;exact R.own i e he hl
 ·obtain⟨e,he,rfl⟩:=hbx i f hi;exact R.hdr i e he hc
 ·rw[hsl];exact(hκ _ _ (R.nd i) (R.slot i)).1
 ·rw[hsl];exact(hκ _ _ (R.nd i) (R.slot i)).2
theorem OE {bx bx':Nat->Option Ent} {v:AV} {val:Value} (κ:AV->AV) (hbx: ∀ j f,bx' j=some f-> ∃ e,bx j=some e/\f=e.mapC κ) (h:RepAV P w ok β bx v val):RepAV P w ok β bx' v val:=
 h.tr (fun _ _=>rfl) (fun _ h=>h) (fun i _ f hf=>by
  obtain⟨e,he,rfl⟩:=hbx i f hf
  exact⟨e,he,Alike.mapC _ _ _⟩)
theorem Yg (i j:Nat):(st.kill i).get j=bg [i] (st.get j):=tC _ (pF _) j
theorem Rel.kill (R:Rel P F st a w) (i:Nat):Rel P F (st.kill i) a w:=by
 obtain⟨ok,β,R⟩:=R
 have hb: ∀ j,(st.kill i).bx j=if j=i then none else(st.bx j).map (Ent.mapC (bg [i])):=fun _=>rfl
 have hbx: ∀ j f,(st.kill i).bx j=some f-> ∃ e,st.bx j=some e/\f=e.mapC (bg [i]):=by
  intro j f h
  rw[hb]at h
  split at h
  ·cases h
  ·obtain⟨e,he,rfl⟩:=Option.map_eq_some_iff.1 h
   exact⟨e,he,rfl⟩
 refine⟨ok,β,R.less (bg [i]) hbx (Yg i) (by simp[St.kill]) (fun v val hl hr=>?_) (fun v=>?_)⟩
 rotate_left
 ·rcases eu [i] v with h|⟨h,_⟩
  ·exact .inl h
  ·exact .inr (.inl h)
 rcases eu [i] v with h|⟨h,hne⟩
 ·rw[h];exact⟨pR hr,ai (lJ v)⟩
 ·rw[h]
  refine⟨OE _ hbx hr,fun j hj=>?_⟩
  have hji:j≠i:=fun hh=>hne j hj (by simp[hh])
  rw[hb,if_neg hji]
  simpa using hl j hj
theorem Rel.stillSlot (R:Rel P F st a w) (i:Nat):Rel P F (st.stillSlot i) a w:=by
 unfold St.stillSlot
 split
 ·rename_i j _
  obtain⟨ok,β,R⟩:=R
  obtain⟨ok',R'⟩:=R.still j
  exact⟨ok',β,R'⟩
 ·exact R
theorem Rel.stills (R:Rel P F st a w) (l:List Nat):Rel P F (l.foldl St.stillSlot st) a w:=by
 induction l generalizing st with
 |nil=>exact R
 |cons i l ih=>exact ih (R.stillSlot i)
theorem Rel.kills (R:Rel P F st a w) (ids:List Nat):Rel P F (ids.foldl St.kill st) a w:=by
 induction ids generalizing st with
 |nil=>exact R
 |cons i ids ih=>exact ih (R.kill i)
theorem Rel.still7 (R:Rel P F st a w) (i:Nat):Rel P F (st.still7 i) a w:=by
 have key: ∀ (l:List Nat) (s:St),Rel P F s a w->Rel P F (l.foldl St.still s) a w:=by
  intro l
  induction l with
  |nil=>intro s h;exact h
  |cons j l ih=>
   intro s h
   obtain⟨ok,β,h⟩:=h
   obtain⟨ok',h'⟩:=h.still j
   exact ih _ ⟨ok',β,h'⟩
 unfold St.still7
 split
 ·split
  ·split
   ·split
    ·exact key _ _ R
    ·exact R
   ·exact R
  ·exact R
 ·exact R
theorem Rel.still7s (R:Rel P F st a w) (l:List Nat):Rel P F (l.foldl St.still7 st) a w:=by
 induction l generalizing st with
 |nil=>exact R
 |cons i l ih=>exact ih (R.still7 i)
theorem Rel.prep (R:Rel P F st a w) (env:Env) (l:List Oper):Rel P F (prep env l st) a w:=((R.stills (sinks env l l)).still7s (RV l)).kills (fQ l)
theorem Ri (l:List Nat):(st.drop l).bx=st.bx:=by
 unfold St.drop
 induction l generalizing st with
 |nil=>rfl
 |cons i l ih=>rw[List.foldl_cons,ih,bU]
theorem TZ (ids:List Nat) (f:Nat->Option Ent) (j:Nat):aZ (ids.map fun i=>(i,f i)) j=if j∈ids then f j else none:=by
 unfold aZ
 induction ids with
 |nil=>rfl
 |cons i ids ih=>
  simp only[List.map_cons,List.find?_cons]
  by_cases h:i=j
  ·subst h;simp
  ·have h':(i==j)=false:=by simpa using h
   rw[h']
   simp only
   rw[ih]
   simp only[List.mem_cons]
   by_cases hj:j∈ids
   ·simp[hj]
   ·have: ¬ j=i:=fun hh=>h hh.symm
    simp[hj,this]
theorem P7 (ids:List Nat):keepA ids dead=dead:=rfl
theorem VQ (ds ids:List Nat) (j:Nat):(st.canon ds ids).get j=keepA ids ((st.drop ds).get j):=tC (st:=st.drop ds) _ (P7 ids) j
theorem NM (ds ids:List Nat) (j:Nat):(st.canon ds ids).bx j=if j∈ids then(st.bx j).map (Ent.mapC (keepA ids))else none:=TZ ids (fun i=>(st.bx i).map (Ent.mapC (keepA ids))) j
theorem Rel.canon (R:Rel P F st a w) (ds ids:List Nat):Rel P F (st.canon ds ids) a w:=by
 have R0:=R.drop ds
 obtain⟨ok,β,R⟩:=R0
 have hbx: ∀ j f,(st.canon ds ids).bx j=some f-> ∃ e,(st.drop ds).bx j=some e/\f=e.mapC (keepA ids):=by
  intro j f h
  rw[NM]at h
  split at h
  ·rw[Ri]
   obtain⟨e,he,rfl⟩:=Option.map_eq_some_iff.1 h
   exact⟨e,he,rfl⟩
  ·cases h
 refine⟨ok,β,R.less (keepA ids) hbx (VQ ds ids) (by simp[St.canon]) (fun v val hl hr=>?_) (fun v=>?_)⟩
 rotate_left
 ·unfold keepA
  split
  ·split
   ·rename_i ht
    rw[Bool.and_eq_true]at ht
    have h1:v.tag=1:=by simpa using ht.1
    exact .inr (.inr ⟨h1,rfl⟩)
   ·exact .inr (.inl rfl)
  ·exact .inl rfl
 unfold keepA
 split
 ·rename_i hall
  have hin: ∀ j∈refs v,((st.canon ds ids).bx j).isSome=true:=by
   intro j hj
   rw[List.all_eq_true]at hall
   have hm:j∈ids:=by simpa using hall j hj
   rw[NM,if_pos hm]
   have:=hl j hj
   rw[Ri]at this
   simpa using this
  split
  ·rename_i ht
   rw[Bool.and_eq_true]at ht
   exact⟨bP (hr.d1 (by simpa using ht.1)),ai rfl⟩
  ·exact⟨OE _ hbx hr,hin⟩
 ·exact⟨pR hr,ai (lJ v)⟩
theorem Rel.preL (R:Rel P F st a w) (h:ay) (b:Code):Rel P F (preL h b st) a w:=by
 unfold Ev.preL
 split
 ·exact(R.stills _).canon _ _
 ·exact R
def Post (P:Program) (F:Fr P) (K:Exit->St->Option ρ) (rr:ρ) (e:Exit) (a:Act) (w:World):Prop:= ∃ s,Rel P F s a w/\K e s=some rr
theorem zo {c:Code} {body:St->(Exit->St->Option ρ)->Option ρ}
  (hbody: ∀ (st:St) (K:Exit->St->Option ρ),body st K=some rr-> ∀ a w,Rel P F st a w->c.wp P (Post P F K rr) a w) (pre:St->St) (hpre: ∀ (st:St) (a:Act) (w:World),Rel P F st a w->Rel P F (pre st) a w) (K:Exit->St->Option ρ):
  ∀ (n:Nat) (st:St) (a:Act) (w:World),aN pre body n st K=some rr->Rel P F st a w->Code.rounds P c (Post P F K rr) n a w
 |0,_,_,_,h,_=>by simp[aN]at h
 |n+1,st,a,w,h,R=>by
  unfold aN at h
  rw[rounds_succ]
  refine wp_mono (hbody st _ h a w R) ?_
  rintro e a' w' ⟨s',R',hk⟩
  cases e with
  |normal=>exact zo hbody pre hpre K n _ a' w' hk (hpre _ _ _ R')
  |exit i=>exact⟨s',R',hk⟩
  |ret=>exact⟨s',R',hk⟩
  |goto l=>cases hk
  |panic c=>cases hk
  |outgrown=>cases hk
theorem zV (hm:P.follows .mixedOrders=true) (henv:EnvOK P env) (hh:ay) (fuel:Nat): ∀ (c:Code) (st:St) (K:Exit->St->Option ρ),az P env hh fuel c st K=some rr->
  ∀ a w,Rel P F st a w->c.wp P (Post P F K rr) a w:=by
 intro c
 induction c with
 |skip=>intro st K h a w R;exact wp_skip ⟨st,R,h⟩
 |region id ops draw=>
  intro st K h a w R
  unfold az at h
  cases draw with
  |false=>
   simp only[Bool.false_eq_true,if_false]at h
   obtain⟨s',h1,h2⟩:=iq _ _ _ h
   exact Aa henv h1 (R.prep env ops.toList) (fun a w R''=>⟨s',R'',h2⟩)
  |true=>
   simp only[if_true]at h
   split at h
   ·rename_i hc
    rw[Bool.and_eq_true]at hc
    obtain⟨s',h1,h2⟩:=iq _ _ _ h
    exact yD hm henv hc.2 h1 (R.prep env.part ops.toList) (fun a w R''=>⟨s',R'',h2⟩)
   split at h
   ·rename_i hc
    rw[Bool.and_eq_true]at hc
    obtain⟨s',h1,h2⟩:=iq _ _ _ h
    exact xI hm henv hc.2 h1 (R.prep env.half ops.toList) (fun a w R''=>⟨s',R'',h2⟩)
   split at h
   ·rename_i hc
    obtain⟨s',h1,h2⟩:=iq _ _ _ h
    rw[Bool.or_eq_true,Bool.or_eq_true]at hc
    rcases hc with(hc|hc)|hc
    ·exact yV (iX env) hm henv.plain hc h1 (R.prep env.plain ops.toList) (fun a w R''=>⟨s',R'',h2⟩)
    ·exact yj (iX env) hm henv.plain hc (fun d hd=>UH _ _ hd) h1 (R.prep env.plain ops.toList) (fun a w R''=>⟨s',R'',h2⟩)
    ·exact x8 (iX env) hm henv.plain hc h1 (R.prep env.plain ops.toList) (fun a w R''=>⟨s',R'',h2⟩)
   ·split at h
    ·rename_i hc
     obtain⟨s',h1,h2⟩:=iq _ _ _ h
     exact yw (iX env) hm henv.plain hc (Qc _ _) h1 (R.prep env.plain ops.toList) (fun a w R''=>⟨s',R'',h2⟩)
    ·cases h
 |seq x y ihx ihy=>
  intro st K h a w R
  unfold az at h
  refine wp_seq (wp_mono (ihx st _ h a w R) ?_)
  rintro e a' w' ⟨s',R',hk⟩
  cases e with
  |normal=>exact ihy s' K hk a' w' R'
  |exit i=>exact⟨s',R',hk⟩
  |ret=>exact⟨s',R',hk⟩
  |goto l=>cases hk
  |panic c=>cases hk
  |outgrown=>cases hk
 |cond c x y ihx ihy=>
  intro st K h a w R
  cases c with
  |tmp c=>
   unfold az at h
   cases hb:kE P (st.get c)with
   |none=>rw[hb]at h;cases h
   |some b=>
    rw[hb]at h
    simp only at h
    obtain⟨ok,β,R0⟩:=R
    obtain⟨t1,u1,d1⟩:=qN hb
    obtain⟨b',e1,e2⟩:=((R0.slot c).d1 t1).bool u1
    have hbb:b'=b:=by rw[d1]at e1;simpa using e1.symm
    subst hbb
    cases b' with
    |true=>
     rw[cond_true,o7 hb]at h
     exact wp_cond_true e2 (ihx st K h a w ⟨ok,β,R0⟩)
    |false=>
     rw[cond_false,o7 hb]at h
     exact wp_cond_false e2 (ihy st K h a w ⟨ok,β,R0⟩)
  |const v=>
   cases v with
   |bool b=>
    unfold az at h
    cases b with
    |true=>
     rw[cond_true]at h
     exact wp_cond_true rfl (ihx st K h a w R)
    |false=>
     rw[cond_false]at h
     exact wp_cond_false rfl (ihy st K h a w R)
   |_=>simp[az]at h
  |global g=>simp[az]at h
  |func f=>simp[az]at h
 |block id b ih=>
  intro st K h a w R
  unfold az at h
  refine wp_block (wp_mono (ih st _ h a w R) ?_)
  rintro e a' w' ⟨s',R',hk⟩
  cases e with
  |normal=>exact⟨s',R',hk⟩
  |exit i=>
   unfold aG at hk
   simp only at hk
   unfold Exit.inBlock
   simp only
   split at hk
   ·rename_i hi;rw[if_pos hi];exact⟨s',R',hk⟩
   ·rename_i hi;rw[if_neg hi];exact⟨s',R',hk⟩
  |ret=>exact⟨s',R',hk⟩
  |goto l=>cases hk
  |panic c=>cases hk
  |outgrown=>cases hk
 |loop b ih=>
  intro st K h a w R
  unfold az at h
  exact wp_loop_rounds fuel (zo ih (preL hh b) (fun _ _ _ R'=>R'.preL hh b) K fuel _ a w h (R.preL hh b))
 |exit id=>intro st K h a w R;exact wp_exit ⟨st,R,h⟩
 |label l=>intro st K h a w R;exact wp_label ⟨st,R,h⟩
 |ret=>intro st K h a w R;exact wp_ret ⟨st,R,h⟩
 |rangeFunc f ps x y _ _=>intro st K h a w R;simp[az]at h
 |scope b _=>intro st K h a w R;simp[az]at h
 |goto l=>intro st K h a w R;simp[az]at h
 |refuse s=>intro st K h a w R;simp[az]at h
def resV (tmps:Array Value):ResultVar->Sem Value
 | .tmp t=>pure (tmps.getD t undef)
 | .cell c t=>do loadVar t (<-asAddr (tmps.getD c undef))
theorem PV (fn:Func) (tmps:Array Value):results fn tmps=(do
  let vs<-fn.results.mapM (resV tmps)
  pure (if h:vs.size=1 then vs[0]else .tuple vs)):=by
 have:(fun x:ResultVar=>(match x with| .tmp t=>(pure (tmps.getD t undef):Sem Value)| .cell a t=>do loadVar t (<-asAddr (tmps.getD a undef))))=resV tmps:=by
  funext x;cases x<;>rfl
 rw[<-this]
 rfl
theorem Ls (R:RelX P F st ok β a w) {rv:ResultVar} {x:AV} (h:CB P st rv=some x):
  ∃ v,(resV a.tmps rv).run P w=.ok v w/\x.tag=1/\RepV P w ok x.ty v x.d:=by
 cases rv with
 |tmp t=>
  simp only[CB]at h
  split at h
  ·rename_i ht
   cases h
   have ht':(st.get t).tag=1:=by simpa using ht
   exact⟨_,rfl,rfl,(R.slot t).d1 ht'⟩
  ·cases h
 |cell c t=>
  simp only[CB]at h
  obtain⟨d,hd,rfl⟩:=Option.map_eq_some_iff.1 h
  obtain⟨y,u,hv,hl,hr⟩:=JP R (R.slot c) hd
  refine⟨u,?_,rfl,hr⟩
  simp only[resV,hv,asAddr,Sem.run_bind,Sem.run_pure,Result.andThen_ok,hl]
theorem yR (R:RelX P F st ok β a w): ∀ (l:List ResultVar) (xs:List AV),tV P st l=some xs->
  ∃ vs:List Value,(l.mapM (resV a.tmps)).run P w=.ok vs w/\fF P w ok xs vs
 | [],xs,h=>by
  simp only[tV,Option.some.injEq]at h
  subst h
  exact⟨[],by simp,trivial⟩
 |rv::l,xs,h=>by
  simp only[tV]at h
  split at h
  ·rename_i x xs' h1 h2
   cases h
   obtain⟨v,g1,g2,g3⟩:=Ls R h1
   obtain⟨vs,g4,g5⟩:=yR R l xs' h2
   exact⟨v::vs,by rw[List.mapM_cons];simp only[Sem.run_bind,g1,g4,Result.andThen_ok,Sem.run_pure],⟨⟨g2,g3⟩,g5⟩⟩
  ·cases h
theorem BQ: ∀ (l:List ResultVar) (xs:List AV),tV P st l=some xs-> ∀ x∈xs,x.ix=0/\x.tys=[]
 | [],xs,h,x,hx=>by
  simp only[tV,Option.some.injEq]at h
  subst h
  cases hx
 |rv::l,xs,h,x,hx=>by
  simp only[tV]at h
  split at h
  ·rename_i y ys h1 h2
   cases h
   rcases List.mem_cons.1 hx with rfl|hx
   ·cases rv with
    |tmp t=>
     simp only[CB]at h1
     split at h1
     ·cases h1;exact⟨rfl,rfl⟩
     ·cases h1
    |cell c t=>
     simp only[CB]at h1
     obtain⟨d,_,rfl⟩:=Option.map_eq_some_iff.1 h1
     exact⟨rfl,rfl⟩
   ·exact BQ l ys h2 x hx
  ·cases h
theorem nT: ∀ {xs:List AV} {vs:List Value},fF P w ok xs vs->xs.length=vs.length
 | [],[],_=>rfl
 |x::xs,v::vs,h=>by simp[nT h.2]
 | [],_::_,h=>h.elim
 |_::_,[],h=>h.elim
theorem vz: ∀ {xs:List AV} {vs:List Value},fF P w ok xs vs-> ∀ (k:Nat) (x:AV),xs[k]? =some x->x.tag=1/\RepV P w ok x.ty (vs.getD k undef) x.d
 | [],[],_,k,x,h=>by simp at h
 |y::xs,v::vs,h,0,x,hk=>by simp at hk;subst hk;exact h.1
 |y::xs,v::vs,h,k+1,x,hk=>by simp at hk;have:=vz h.2 k x hk;simpa using this
 | [],_::_,h,_,_,_=>h.elim
 |_::_,[],h,_,_,_=>h.elim
theorem GV (R:RelX P F st ok β a w) {fn:Func} (h:Uy P fn st=some r):
  (r.tag=1\/r.tag=6)/\ ∃ v,(results fn a.tmps).run P w=.ok v w/\RepAV P w ok (fun _=>(0,0)) (fun _=>none) r v:=by
 unfold Uy at h
 have hres: ∀ (xs:List AV),tV P st fn.results.toList=some xs-> ∃ vs:List Value,fF P w ok xs vs/\(results fn a.tmps).run P w=.ok (if h:vs.length=1 then vs[0]else .tuple vs.toArray) w:=by
  intro xs hx
  obtain⟨vs,h1,h2⟩:=yR R _ _ hx
  refine⟨vs,h2,?_⟩
  rw[PV,Array.mapM_eq_mapM_toList]
  simp only[Sem.run_bind,Sem.run_map]
  rw[h1]
  simp only[Result.andThen_ok,Sem.run_pure,List.size_toArray]
  congr 1
 split at h
 ·rename_i x hx
  cases h
  obtain⟨vs,h1,h2⟩:=hres _ hx
  have hl:=nT h1
  match vs,h1,hl with
  | [v],h1,_=>
   refine⟨.inl h1.1.1,v,by simpa using h2,⟨fun _=>h1.1.2,fun ht=>?_,fun ht=>?_,fun ht=>?_,fun ht=>?_,fun ht=>?_,fun ht=>?_,fun _ ht=>?_,fun _=>⟨fun ht=>?_,fun ht=>?_⟩,fun ht=>?_,fun _=>sW (BQ _ _ hx r (by simp)).2⟩⟩<;>(have:=h1.1.1;have:=(BQ _ _ hx r (by simp)).1;omega)
 ·rename_i x xs hne hx
  cases h
  obtain⟨vs,h1,h2⟩:=hres _ hx
  have hl:=nT h1
  have hlen:vs.length≠1:=by
   intro h1'
   rw[h1']at hl
   simp at hl
   subst hl
   exact hne rfl
  refine⟨.inr rfl,.tuple vs.toArray,by rw[h2];simp[hlen],⟨by simp[aL],by simp[aL],by simp[aL],by simp[aL],by simp[aL],fun _=>⟨vs.toArray,rfl,by simp[aL]at hl⊢;omega,fun k t hk=>?_⟩,by simp[aL],by simp[aL],by simp[aL],by simp[aL],by simp[aL]⟩⟩
  simp only[aL,List.getElem?_map,Option.map_eq_some_iff]at hk
  obtain⟨y,hy,rfl⟩:=hk
  have:=(vz h1 k y hy).2
  have e1:af (aL ((x::xs).map (·.ty)) (.agg ((x::xs).map (·.d)))).d k=y.d:=by
   simp only[aL,af,bF,List.getD,List.getElem?_map,hy]
   rfl
  rw[e1]
  simpa using this
 ·rename_i hx
  cases h
  obtain⟨vs,h1,h2⟩:=hres _ hx
  have hl:=nT h1
  have hv0:vs=[]:=List.eq_nil_of_length_eq_zero (by simpa using hl.symm)
  subst hv0
  refine⟨.inr rfl,.tuple #[],by simpa using h2,⟨by simp[aL],by simp[aL],by simp[aL],by simp[aL],by simp[aL],fun _=>⟨#[],rfl,rfl,fun k t hk=>by simp[aL]at hk⟩,by simp[aL],by simp[aL],by simp[aL],by simp[aL],by simp[aL]⟩⟩
 ·cases h
theorem pq (fn:Func) (args:List AV) (bx:Nat->Option Ent) (i:Nat):(St.mk (args++List.replicate (fn.ntmps - args.length) dead) bx).get i=args.getD i dead:=by
 simp only[St.get,List.getD]
 by_cases hi:i<args.length
 ·rw[List.getElem?_append_left hi]
 ·rw[List.getElem?_append_right (by omega),List.getElem?_eq_none (l:=args) (by omega)]
  by_cases hh:i - args.length<fn.ntmps - args.length
  ·simp[hh]
  ·simp[hh]
theorem yu (fn:Func) (vs:List Value) (i:Nat):(vs.toArray++Array.replicate (fn.ntmps - vs.toArray.size) undef).getD i undef=vs.getD i undef:=by
 by_cases hi:i<vs.length
 ·simp[Array.getD_eq_getD_getElem?,Array.getElem?_append,hi,List.getD]
 ·rw[List.getD,List.getElem?_eq_none (by omega)]
  simp only[Array.getD_eq_getD_getElem?,Array.getElem?_append,List.size_toArray,hi,if_false,Array.getElem?_replicate]
  split<;>rfl
theorem MK (hm:P.follows .mixedOrders=true) (henv:EnvOK P env) {hh:ay} {fuel:Nat} {f:FuncId} {fn:Func} {c:Code} {args:List AV} (hf:P.funcs[f]? =some fn) (hb:fn.body=some c)
  (h:az P env hh fuel c (vU fn args) (dJ P fn)=some r) {w:World} {okA:Nat->Prop} {vs:List Value} (htb:oz P (fun _=>False) w) (hok: ∀ b,okA b->b<w.heap.size) (hl:args.length=vs.length)
  (hargs: ∀ (i:Nat) (x:AV),args[i]? =some x->x.tag=1/\RepAV P w okA (fun _=>(0,0)) (fun _=>none) x (vs.getD i undef)):
  Calls P f vs.toArray w fun e w'=> ∃ v ok',e=.returned v/\Below w.heap.size w w'/\(∀ b,ok' b->b<w'.heap.size/\(okA b\/w.heap.size<=b))/\
   RepAV P w' ok' (fun _=>(0,0)) (fun _=>none) r v:=by
   have R:Rel P ⟨w.heap.size,w,okA,fun _=>False,fun _=>undef,fun _=>0,htb,[]⟩ (vU fn args) {tmps:=vs.toArray++Array.replicate (fn.ntmps - vs.toArray.size) undef,defers:=[] } w:=by
    refine⟨okA,fun _=>(0,0),by simp[vU,hl],rfl,⟨?_,?_,?_,?_,?_,?_,?_,?_⟩,BelowX.refl _ _ _,Nat.le_refl _,fun b hb=>⟨hok b hb,.inl hb⟩,fun i e hi=>(by cases hi),fun i e hi=>(by cases hi),fun i=>?_,fun i=>?_⟩
    ·intro i e hi;cases hi
    ·intro b i e _ hi;cases hi
    ·intro i j e f hi;cases hi
    ·intro i e hi;cases hi
    ·intro i e v hi;cases hi
    ·intro i e hi;cases hi
    ·intro i e v hi;cases hi
    ·intro i e hi;cases hi
    ·have hg:(vU fn args).get i=args.getD i dead:=pq fn args _ i
     rw[hg,yu]
     by_cases hi:i<args.length
     ·have e1:args.getD i dead=args[i]:=by simp[List.getD,hi]
      rw[e1]
      exact(hargs i (args[i]) (by simp[hi])).2
     ·rw[List.getD,List.getElem?_eq_none (by omega)]
      exact fU _
    ·have hg:(vU fn args).get i=args.getD i dead:=pq fn args _ i
     rw[hg]
     by_cases hi:i<args.length
     ·have e1:args.getD i dead=args[i]:=by simp[List.getD,hi]
      rw[e1]
      have:=(hargs i (args[i]) (by simp[hi])).1
      exact mG (by omega) (by omega) (by omega)
     ·rw[List.getD,List.getElem?_eq_none (by omega)]
      exact ai wH
   refine calls_of_wp hf hb (wp_mono (zV hm henv hh fuel c _ _ h _ _ R) ?_)
   rintro e a' w' ⟨s',R0,hk⟩
   obtain⟨ok',β',R'⟩:=R0.stills (gY fn.results.toList)
   have fin:Uy P fn ((gY fn.results.toList).foldl St.stillSlot s')=some r->a'.defers=[]/\ ∃ v,(results fn a'.tmps).run P w'=.ok v w'/\ ∃ v' ok'',Ending.returned v=.returned v'/\Below w.heap.size w w'/\
     (∀ b,ok'' b->b<w'.heap.size/\(okA b\/w.heap.size<=b))/\RepAV P w' ok'' (fun _=>(0,0)) (fun _=>none) r v':=by
    intro hr
    obtain⟨_,v,h1,h2⟩:=GV R' hr
    refine⟨R'.df,v,h1,v,ok',rfl,R'.bel.plain (fun _ h=>h),fun b hb=>⟨(R'.okb b hb).1,?_⟩,h2⟩
    rcases(R'.okb b hb).2 with h3|h3|h3
    ·exact .inl h3
    ·exact .inr h3
    ·exact h3.elim
   cases e with
   |normal=>exact fin hk
   |ret=>exact fin hk
   |exit i=>cases hk
   |goto l=>cases hk
   |panic c=>cases hk
   |outgrown=>cases hk
theorem QC (hm:P.follows .mixedOrders=true) (henv:EnvOK P env) {hh:ay} {fuel:Nat} {f:FuncId} {fn:Func} {args:List AV} (hf:P.funcs[f]? =some fn)
  (hname : (fn.name == "runtime.NumGoroutine") = false) (h : aU P env hh fuel fn args = some r) (htag : r.tag = 1 \/ r.tag = 6) : CallOK P f args r := by
 unfold aU at h
 cases hb:fn.body with
 |none=>rw[hb]at h;cases h
 |some c=>
  rw[hb]at h
  simp only at h
  split at h
  ·rename_i hall
   refine⟨⟨fn,c,hf,hb,hname⟩,htag,fun w okA vs htb hok hargs=>?_⟩
   refine MK hm henv hf hb h htb hok (nT hargs) (fun i x hx=>?_)
   have hr:=vz hargs i x hx
   have hix:x.ix=0:=by
    have:=List.all_eq_true.1 hall x (List.mem_of_getElem? hx)
    simp only[Bool.and_eq_true,beq_iff_eq]at this
    exact this.1.2
   have htys:x.tys=[]:=by
    have:=List.all_eq_true.1 hall x (List.mem_of_getElem? hx)
    simp only[Bool.and_eq_true,List.isEmpty_iff]at this
    exact this.2
   refine⟨hr.1,fun _=>hr.2,fun ht=>?_,fun ht=>?_,fun ht=>?_,fun ht=>?_,fun ht=>?_,fun ht=>?_,fun _ ht=>?_,fun _=>⟨fun ht=>?_,fun ht=>?_⟩,fun ht=>?_,fun _=>sW htys⟩<;>(have:=hr.1;omega)
  ·cases h
theorem DZ (hm:P.follows .mixedOrders=true) (henv:EnvOK P env) {hh:ay} {fuel:Nat} {f:FuncId} {fn:Func} {t e:TypeId} {d:D} (hu:P.underlying t=some (.slice e)) (hf:P.funcs[f]? =some fn)
  (hname : (fn.name == "runtime.NumGoroutine") = false) (htag : r.tag = 1 \/ r.tag = 6) (h2 : d = .slice [] [] -> su P env hh fuel fn [⟨1, t, .slice [] [], 0, 2, 0, []⟩] = some r) (h3 : su P env hh fuel fn [⟨1, t, d, 0, 3, 0, []⟩] = some r) : CallOK P f [dat t d] r := by
 have hb: ∃ c,fn.body=some c:=by
  unfold su at h3
  cases hb:fn.body with
  |none=>rw[hb]at h3;cases h3
  |some c=>exact⟨c,rfl⟩
 obtain⟨c,hb⟩:=hb
 have key: ∀ x,su P env hh fuel fn [x]=some r->az P env hh fuel c (vU fn [x]) (dJ P fn)=some r:=by
  intro x hx
  unfold su at hx
  rw[hb]at hx
  exact hx
 refine⟨⟨fn,c,hf,hb,hname⟩,htag,fun w okA vs htb hok hargs=>?_⟩
 match vs,hargs with
 | [v],hargs=>
  have hr:RepV P w okA t v d:=hargs.1.2
  obtain⟨m,es,a,cap,rfl,rfl,hc1,hc2,hc3,_⟩:=hr.slice hu
  cases a with
  |none=>
   have hz:=hc3 rfl
   have hes:es=[]:=List.eq_nil_of_length_eq_zero (by omega)
   subst hes hz
   refine MK hm henv hf hb (key _ (h2 rfl)) htb hok rfl (fun i x hx=>?_)
   cases i with
   |zero=>
    simp only[List.getElem?_cons_zero,Option.some.injEq]at hx
    subst hx
    refine⟨rfl,fun _=>hr,by simp,by simp,by simp,by simp,by simp,by simp,by simp,fun _=>⟨fun _=>rfl,by simp⟩,by simp,fun _=>sW rfl⟩
   |succ i=>simp at hx
  |some y=>
   refine MK hm henv hf hb (key _ h3) htb hok rfl (fun i x hx=>?_)
   cases i with
   |zero=>
    simp only[List.getElem?_cons_zero,Option.some.injEq]at hx
    subst hx
    refine⟨rfl,fun _=>hr,by simp,by simp,by simp,by simp,by simp,by simp,by simp,fun _=>⟨by simp,fun _=>⟨y,es.length,cap,rfl⟩⟩,by simp,fun _=>sW rfl⟩
   |succ i=>simp at hx
theorem tN {bx:Nat->Option Ent} : ∀ {xs:List AV} {vs:List Value},eG P w ok β bx xs vs->xs.length=vs.length
 | [],[],_=>rfl
 |x::xs,v::vs,h=>by simp[tN h.2]
 | [],_::_,h=>h.elim
 |_::_,[],h=>h.elim
theorem lw {bx:Nat->Option Ent} : ∀ {xs:List AV} {vs:List Value},eG P w ok β bx xs vs-> ∀ (k:Nat),RepAV P w ok β bx (xs.getD k dead) (vs.getD k undef)/\aV bx (xs.getD k dead)
 | [],[],_,k=>by simp only[List.getD,List.getElem?_nil,Option.getD_none];exact⟨fU _,ai wH⟩
 |y::xs,v::vs,h,0=>by simpa [List.getD]using h.1.2
 |y::xs,v::vs,h,k+1=>by have:=lw h.2 k;simpa [List.getD]using this
 | [],_::_,h,_=>h.elim
 |_::_,[],h,_=>h.elim
theorem MN (m:Nat) (st:St) (k:Nat):cO (Ef m st) k=if OID<=k/\k - OID<m then st.bx k else none:=by
 unfold cO Ef
 by_cases h1:k<OID
 ·rw[if_pos h1,if_neg (by omega)]
 ·rw[if_neg h1]
  by_cases h2:k - OID<m
  ·rw[if_pos ⟨by omega,h2⟩]
   have e:OID+(k - OID)=k:=by omega
   simp only[List.getElem?_map,List.getElem?_range h2,Option.map_some,Option.join_some]
   rw[e]
  ·rw[if_neg (by omega)]
   simp only[List.getElem?_map]
   rw[List.getElem?_eq_none (by simpa using h2)]
   rfl
theorem Ot (hm:P.follows .mixedOrders=true) (henv:EnvOK P env) {hh:ay} {fuel:Nat} {f:FuncId} {fn:Func} {args:List AV} {h:List Ent} {h':List (Option Ent)} (hf:P.funcs[f]? =some fn)
  (hname : (fn.name == "runtime.NumGoroutine") = false) (hev : jP P env hh fuel fn args h = some (r, h')) : HCallOK P f args h r h' := by
 unfold jP at hev
 cases hb:fn.body with
 |none=>rw[hb]at hev;cases hev
 |some c=>
  rw[hb]at hev
  simp only at hev
  split at hev
  ·rename_i hall
   refine⟨⟨fn,c,hf,hb,hname⟩,fun w okA β vs htb hok H hargs=>?_⟩
   have hl:=tN hargs
   have R:Rel P ⟨w.heap.size,w,okA,XOf β (bQ h),fun i=>match bQ h i with|some e=>hval (β i) e|none=>undef,fun i=>match bQ h i with|some e=>e.ty|none=>0,htb,[]⟩ (ou fn args h)
     {tmps:=vs.toArray++Array.replicate (fn.ntmps - vs.toArray.size) undef,defers:=[] } w:=by
    refine⟨okA,β,by simp[ou,hl],rfl,H,BelowX.refl _ _ _,Nat.le_refl _,fun b hb=>⟨hok b hb,.inl hb⟩,fun i e hi hlv=>.inr ⟨i,e,hi,hlv,rfl⟩,fun i e hi _=>?_,fun i=>?_,fun i=>?_⟩
    ·have hi':bQ h i=some e:=hi
     simp only[hi']
     exact⟨trivial,trivial⟩
    ·have hg:(ou fn args h).get i=args.getD i dead:=pq fn args _ i
     rw[hg,yu]
     exact(lw hargs i).1
    ·have hg:(ou fn args h).get i=args.getD i dead:=pq fn args _ i
     rw[hg]
     exact(lw hargs i).2
   refine calls_of_wp hf hb (wp_mono (zV hm henv hh fuel c _ _ hev _ _ R) ?_)
   rintro e a' w' ⟨s',R0,hk⟩
   obtain⟨ok',β',R'⟩:=R0.stills (gY fn.results.toList)
   have fin:qA P fn h.length .ret s'=some (r,h')->a'.defers=[]/\ ∃ v,(results fn a'.tmps).run P w'=.ok v w'/\HPost P h r h' w okA β (.returned v) w':=by
    intro hr
    unfold qA at hr
    simp only at hr
    split at hr
    ·rename_i hclosed
     obtain⟨r',hr',heq⟩:=Option.map_eq_some_iff.1 hr
     simp only[Prod.mk.injEq]at heq
     obtain⟨rfl,rfl⟩:=heq
     obtain⟨ht,v,h1,h2⟩:=GV R' hr'
     have hget:=MN h.length ((gY fn.results.toList).foldl St.stillSlot s')
     have hin: ∀ k e,cO (Ef h.length ((gY fn.results.toList).foldl St.stillSlot s')) k=some e->((gY fn.results.toList).foldl St.stillSlot s').bx k=some e/\OID<=k/\k - OID<h.length:=by
      intro k e hk
      rw[hget]at hk
      split at hk
      ·rename_i hc;exact⟨hk,hc⟩
      ·cases hk
     have hlive0:refs r'=[]:=by
      rcases ht with ht|ht
      ·exact pV (by omega) (by omega) (by omega)
      ·exact pV (by omega) (by omega) (by omega)
     have hcl: ∀ k e v,cO (Ef h.length ((gY fn.results.toList).foldl St.stillSlot s')) k=some e->e.c=some v-> ∀ j∈refs v,OID<=j/\j - OID<h.length:=by
      intro k e v hk hc j hj
      obtain⟨hk1,hk2,hk3⟩:=hin k e hk
      rw[List.all_eq_true]at hclosed
      have:=hclosed (some e) (by
       unfold Ef
       rw[List.mem_map]
       exact⟨k - OID,List.mem_range.2 hk3,by rw[show OID+(k - OID)=k by omega];exact hk1⟩)
      simp only[oG,List.all_eq_true,Bool.and_eq_true,decide_eq_true_eq]at this
      have:=this j (by unfold jV;rw[hc];exact hj)
      omega
     have hlv: ∀ k e v,cO (Ef h.length ((gY fn.results.toList).foldl St.stillSlot s')) k=some e->e.c=some v->aV (cO (Ef h.length ((gY fn.results.toList).foldl St.stillSlot s'))) v:=by
      intro k e v hk hc j hj
      rw[hget,if_pos (hcl k e v hk hc j hj)]
      exact R'.hp.nb k e v (hin k e hk).1 hc j hj
     refine⟨R'.df,v,h1,v,ok',β',rfl,R'.bel,fun b hb=>R'.okb b hb,?_,?_,ai hlive0,fun i e hi hlive=>R'.own i e (hin i e hi).1 hlive,fun i e' hi hrow=>?_⟩
     ·have H':=R'.hp
      refine⟨fun i e hi=>H'.siz i e (hin i e hi).1,fun b i e hb hi=>H'.sep b i e hb (hin i e hi).1,fun i j e f hi hj=>H'.inj i j e f (hin i e hi).1 (hin j f hj).1,fun i e hi=>H'.box i e (hin i e hi).1,fun i e v hi h0 hc=>?_,
       fun i e hi=>H'.row i e (hin i e hi).1,fun i e v hi hc=>hlv i e v hi hc,fun i e hi=>H'.rc i e (hin i e hi).1⟩
      obtain⟨g1,val,g2,g3,g4⟩:=H'.con i e v (hin i e hi).1 h0 hc
      exact⟨g1,val,g2,g3,g4.tr (fun _ _=>rfl) (fun _ h=>h) (fun j _ f hf=>⟨f,(hin j f hf).1,Alike.refl _ _⟩)⟩
     ·rcases ht with ht|ht
      ·refine⟨h2.d1,fun h=>by omega,fun h=>by omega,fun h=>by omega,fun h=>by omega,fun h=>by omega,fun h=>by omega,h2.dF,h2.dN,fun h=>by omega,h2.dZ⟩
      ·refine⟨fun h=>by omega,fun h=>by omega,fun h=>by omega,fun h=>by omega,fun h=>by omega,h2.d6,fun h=>by omega,fun h=>by omega,fun h=>by omega,fun h=>by omega,fun h=>by omega⟩
     ·obtain⟨hi1,hi2,hi3⟩:=hin i e' hi
      have hcond:(OID<=i/\e'.row=0)\/e'.row=3\/e'.row=4:=by
       rcases hrow with h0|h0
       ·exact .inl ⟨hi2,h0⟩
       ·exact .inr h0
      have hh:=R'.hdr i e' hi1 hcond
      have hb:bQ h i=h[i - OID]? :=by unfold bQ;rw[if_neg (by omega)]
      obtain⟨e,he⟩: ∃ e,bQ h i=some e:=⟨h[i - OID],by rw[hb];simp[hi3]⟩
      simp only[he]at hh
      exact⟨e,he,MW hh.1 hh.2⟩
    ·cases hr
   cases e with
   |normal=>exact fin hk
   |ret=>exact fin hk
   |exit i=>cases hk
   |goto l=>cases hk
   |panic c=>cases hk
   |outgrown=>cases hk
  ·cases hev
theorem ajX (hm:P.follows .mixedOrders=true) (henv:EnvOK P env) {hh:ay} {fuel:Nat} {f:FuncId} {fn:Func} {args:List AV} {es:List Ent} (hf:P.funcs[f]? =some fn)
  (hname : (fn.name == "runtime.NumGoroutine") = false) (h : akR P env hh fuel fn args = some (r, es)) : Yw P f args r es := by
 unfold akR at h
 cases hb:fn.body with
 |none=>rw[hb]at h;cases h
 |some c=>
  rw[hb]at h
  simp only at h
  split at h
  ·rename_i hall
   refine⟨⟨fn,c,hf,hb,hname⟩,fun w okA vs htb hok hargs=>?_⟩
   have hl:=nT hargs
   have hone: ∀ (i:Nat) (x:AV),args[i]? =some x->x.tag=1/\RepAV P w okA (fun _=>(0,0)) (fun _=>none) x (vs.getD i undef):=by
    intro i x hx
    have hr:=vz hargs i x hx
    have hix:x.ix=0:=by
     have:=List.all_eq_true.1 hall x (List.mem_of_getElem? hx)
     simp only[Bool.and_eq_true,beq_iff_eq]at this
     exact this.1.2
    have htys:x.tys=[]:=by
     have:=List.all_eq_true.1 hall x (List.mem_of_getElem? hx)
     simp only[Bool.and_eq_true,List.isEmpty_iff]at this
     exact this.2
    refine⟨hr.1,fun _=>hr.2,fun ht=>?_,fun ht=>?_,fun ht=>?_,fun ht=>?_,fun ht=>?_,fun ht=>?_,fun _ ht=>?_,fun _=>⟨fun ht=>?_,fun ht=>?_⟩,fun ht=>?_,fun _=>sW htys⟩<;>(have:=hr.1;omega)
   have R:Rel P ⟨w.heap.size,w,okA,fun _=>False,fun _=>undef,fun _=>0,htb,[]⟩ (vU fn args) {tmps:=vs.toArray++Array.replicate (fn.ntmps - vs.toArray.size) undef,defers:=[] } w:=by
    refine⟨okA,fun _=>(0,0),by simp[vU,hl],rfl,⟨?_,?_,?_,?_,?_,?_,?_,?_⟩,BelowX.refl _ _ _,Nat.le_refl _,fun b hb=>⟨hok b hb,.inl hb⟩,fun i e hi=>(by cases hi),fun i e hi=>(by cases hi),fun i=>?_,fun i=>?_⟩
    ·intro i e hi;cases hi
    ·intro b i e _ hi;cases hi
    ·intro i j e f hi;cases hi
    ·intro i e hi;cases hi
    ·intro i e v hi;cases hi
    ·intro i e hi;cases hi
    ·intro i e v hi;cases hi
    ·intro i e hi;cases hi
    ·have hg:(vU fn args).get i=args.getD i dead:=pq fn args _ i
     rw[hg,yu]
     by_cases hi:i<args.length
     ·have e1:args.getD i dead=args[i]:=by simp[List.getD,hi]
      rw[e1]
      exact(hone i (args[i]) (by simp[hi])).2
     ·rw[List.getD,List.getElem?_eq_none (by omega)]
      exact fU _
    ·have hg:(vU fn args).get i=args.getD i dead:=pq fn args _ i
     rw[hg]
     by_cases hi:i<args.length
     ·have e1:args.getD i dead=args[i]:=by simp[List.getD,hi]
      rw[e1]
      have:=(hone i (args[i]) (by simp[hi])).1
      exact mG (by omega) (by omega) (by omega)
     ·rw[List.getD,List.getElem?_eq_none (by omega)]
      exact ai wH
   refine calls_of_wp hf hb (wp_mono (zV hm henv hh fuel c _ _ h _ _ R) ?_)
   rintro e a' w' ⟨s',R0,hk⟩
   obtain⟨ok',β',R'⟩:=R0
   have fin:alA P fn .ret s'=some (r,es)->a'.defers=[]/\ ∃ v,(results fn a'.tmps).run P w'=.ok v w'/\ ∃ v' ok'' β'',Ending.returned v=.returned v'/\Below w.heap.size w w'/\
     (∀ b,ok'' b->b<w'.heap.size/\(okA b\/w.heap.size<=b))/\HeapOK P w' ok'' β'' (bQ es)/\RepAV P w' ok'' β'' (bQ es) r v'/\aV (bQ es) r/\ ∀ i e,bQ es i=some e->e.live=true->w.heap.size<=(β'' i).1:=by
    intro hr
    unfold alA at hr
    simp only at hr
    split at hr
    ·rename_i t hres
     split at hr
     ·rename_i hcond
      rw[Bool.and_eq_true]at hcond
      obtain⟨hct,hcl⟩:=hcond
      simp only[Option.some.injEq,Prod.mk.injEq]at hr
      obtain⟨rfl,rfl⟩:=hr
      have hrf: ∀ j∈refs (s'.get t),j∈nJ s' [s'.get t]:=(iK hcl).2.1 _ (by simp)
      have e1:fn.results= #[.tmp t]:=by apply Array.ext';rw[hres]
      refine⟨R'.df,a'.tmps.getD t undef,?_,a'.tmps.getD t undef,ok',_,rfl,R'.bel.plain (fun _ h=>h),fun b hb=>⟨(R'.okb b hb).1,?_⟩,Dt R'.hp hcl,GM hcl hrf (R'.slot t),DT hcl hrf,?_⟩
      ·rw[PV,e1]
       simp[resV]
      ·rcases(R'.okb b hb).2 with h3|h3|h3
       ·exact .inl h3
       ·exact .inr h3
       ·exact h3.elim
      ·intro i e hi hlv
       obtain⟨_,_,e0,he0,rfl,hm0,_⟩:=jA hcl hi
       rw[lQ]at hlv
       rcases R'.own _ e0 he0 hlv with h3|h3
       ·exact h3
       ·exact h3.elim
     ·cases hr
    ·cases hr
   cases e with
   |normal=>exact fin hk
   |ret=>exact fin hk
   |exit i=>cases hk
   |goto l=>cases hk
   |panic c=>cases hk
   |outgrown=>cases hk
  ·cases h
end
end Go.Ev
