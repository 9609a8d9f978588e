/- Trees of functions, and lemmas. Nothing here is trusted. -/
import Derived.Test.YtpceahbengfjeaaGreatDoorZ11
namespace Go.Ev
open Go.RowKit
set_option linter.unusedVariables false
set_option linter.unusedSimpArgs false
section
section
variable {P:Program} {w w':World} {ok ok':Nat->Prop} {β:Nat->Nat×Nat} {ops:Array Oper}
variable {F:Fr P} {st st' s s' s1 s2 s12:St} {a:Act} {env:Env} {o oi oj:Oper} {av:AV} {Q:Exit->Act->World->Prop}
def Rel (P:Program) (F:Fr P) (st:St) (a:Act) (w:World):Prop:= ∃ ok β,RelX P F st ok β a w
theorem AA (R:RelX P F st ok β a w) {b:Bool} (h:asked P ops o st=some b):Region.wanted o (yielded ops a.tmps)=b:=by
 unfold asked at h
 unfold Region.wanted
 cases hg:o.guard with
 |none=>rw[hg]at h;simpa using h
 |some g=>
  obtain⟨j,want⟩:=g
  rw[hg]at h
  simp only at h⊢
  unfold guardOf at h
  unfold yielded
  cases hd:(ops[j]?).bind (·.dst)with
  |none=>rw[hd]at h;cases h
  |some d=>
   rw[hd]at h
   simp only[Option.bind_some]at h⊢
   split at h
   ·rename_i h9
    have hv:=(R.slot d).d9 h9
    have: ∀ c,a.tmps[d]? ≠some (.bool c):=by
     intro c hc
     rw[Array.getD_eq_getD_getElem?,hc]at hv
     simp[undef]at hv
    cases h
    cases hx:a.tmps[d]? with
    |none=>simp
    |some v=>
     cases v<;>simp
     exact absurd hx (this _)
   ·cases hb:kE P (st.get d)with
    |none=>rw[hb]at h;cases h
    |some c=>
     rw[hb]at h
     simp only[Option.map_some,Option.some.injEq]at h
     obtain⟨t1,u1,d1⟩:=qN hb
     obtain⟨c',e1,e2⟩:=((R.slot d).d1 t1).bool u1
     have hcc:c'=c:=by rw[d1]at e1;simpa using e1.symm
     subst hcc
     have hx:a.tmps[d]? =some (.bool c'):=by
      rw[Array.getD_eq_getD_getElem?]at e2
      cases hx:a.tmps[d]? with
      |none=>rw[hx]at e2;simp[undef]at e2
      |some v=>rw[hx]at e2;simpa using e2
     rw[hx]
     simp only
     rw[<-h]
     cases c'<;>cases want<;>rfl
theorem uD (henv:EnvOK P env) (R:Rel P F st a w) {i:Nat} (hi:ops[i]? =some o) (h:aP P env ops o st=some st'):
  wpOp P ops Q i (Rel P F st') a w:=by
 obtain⟨ok,β,R⟩:=R
 unfold wpOp
 rw[hi]
 simp only
 rcases ji h with⟨ha,rfl⟩|⟨ha,hc,he⟩
 ·rw[AA R ha]
  simp only[Bool.false_eq_true,if_false]
  exact⟨ok,β,R.put QV (ai rfl) o.dst⟩
 ·rw[AA R ha]
  simp only[if_true]
  exact .inl (P8 henv R hc he)
theorem Ac (henv:EnvOK P env) (hQ: ∀ a w,Rel P F st' a w->Q .normal a w):
  ∀ (l:List Oper) (k:Nat) (st:St) (a:Act) (w:World),(∀ j,l[j]? =ops[k+j]?)->di P env ops l st=some st'->Rel P F st a w->wpOps P ops Q (List.range' k l.length) a w
 | [],k,st,a,w,hl,h,R=>by
  simp only[di,Option.some.injEq]at h
  subst h
  exact hQ a w R
 |o::l,k,st,a,w,hl,h,R=>by
  simp only[di]at h
  obtain⟨s1,h1,h2⟩:=Option.bind_eq_some_iff.1 h
  have h0:ops[k]? =some o:=by simpa using(hl 0).symm
  simp only[List.length_cons,List.range'_succ]
  rw[wpOps_cons]
  exact wpOp_mono (fun a' w' R'=>Ac henv hQ l (k+1) s1 a' w' (fun j=>by have:=hl (j+1);simpa [Nat.add_assoc,Nat.add_comm 1 j]using this) h2 R') (uD henv R h0 h1)
theorem Aa (henv:EnvOK P env) {id:Nat} (h:di P env ops ops.toList st=some st') (R:Rel P F st a w) (hQ: ∀ a w,Rel P F st' a w->Q .normal a w):
  (Code.region id ops false).wp P Q a w:=by
 refine wp_region ?_
 have:=Ac (Q:=Q) henv hQ ops.toList 0 st a w (by simp) h R
 rw[List.range_eq_range']
 simpa using this
def rF (P:Program) (env:Env) (ops:Array Oper) (G:St->Prop):Nat->Array Bool->St->Prop
 |0,listed,st=>Region.ready .any ops listed=[]/\G st
 |n+1,listed,st=>(Region.ready .any ops listed=[]->G st)/\
  ∀ i∈Region.ready .any ops listed,∃ o s,ops[i]? =some o/\aP P env ops o st=some s/\rF P env ops G n (listed.setIfInBounds i true) s
theorem kJ (henv:EnvOK P env) {G:St->Prop} (hQ: ∀ s a w,G s->Rel P F s a w->Q .normal a w):
  ∀ (n:Nat) (listed:Array Bool) (st:St) (a:Act) (w:World),rF P env ops G n listed st->Rel P F st a w->wpAny P .any ops Q n listed a w
 |0,listed,st,a,w,h,R=>⟨h.1,hQ st a w h.2 R⟩
 | n+1,listed,st,a,w,h,R=>⟨fun h0=>hQ st a w (h.1 h0) R,fun i hi=>by
   obtain⟨o,s,ho,hs,hr⟩:=h.2 i hi
   exact wpOp_mono (fun a' w' R'=>kJ henv hQ n _ s a' w' hr R') (uD henv R ho hs)⟩
def Closed (ops:Array Oper) (listed:Array Bool):Prop:= ∀ (j:Nat) (o:Oper),ops[j]? =some o->listed.getD j false=true-> ∀ e∈o.after,Region.binds .any e=true->listed.getD e.on false=true
theorem vT {listed:Array Bool} (hc:Closed ops listed) {i:Nat} (hi:listed.getD i true=false): ∀ (n j:Nat),listed.getD j false=true->waits ops n j i=false
 |0,_,_=>rfl
 |n+1,j,hj=>by
  unfold waits
  cases ho:ops[j]? with
  |none=>rfl
  |some o=>
   simp only[Option.map_some,Option.getD_some]
   rw[Array.any_eq_false']
   intro e he hh
   simp only[Bool.and_eq_true,Bool.or_eq_true,beq_iff_eq]at hh
   obtain⟨hb,hh⟩:=hh
   have hl:=hc j o ho hj e he hb
   rcases hh with hh|hh
   ·subst hh
    simp only[Array.getD_eq_getD_getElem?]at hl hi
    cases hx:listed[e.on]? with
    |none=>rw[hx]at hl;simp at hl
    |some b=>rw[hx]at hl hi;simp at hl hi;rw[hl]at hi;cases hi
   ·rw[vT hc hi n e.on hl]at hh
    cases hh
theorem gQ {listed:Array Bool} (hc:Closed ops listed) {i j n:Nat} (hi:listed.getD i true=false) (hj:j∈Region.ready .any ops listed):waits ops n j i=false:=by
 cases n with
 |zero=>rfl
 |succ n=>
  obtain⟨_,o,ho,hall⟩:=mem_ready.1 hj
  unfold waits
  rw[ho]
  simp only[Option.map_some,Option.getD_some]
  rw[Array.any_eq_false']
  intro e he hh
  simp only[Bool.and_eq_true,Bool.or_eq_true,beq_iff_eq]at hh
  obtain⟨hb,hh⟩:=hh
  have hl:=hall e he hb
  rcases hh with hh|hh
  ·subst hh
   simp only[Array.getD_eq_getD_getElem?]at hl hi
   cases hx:listed[e.on]? with
   |none=>rw[hx]at hl;simp at hl
   |some b=>rw[hx]at hl hi;simp at hl hi;rw[hl]at hi;cases hi
  ·rw[vT hc hi n e.on hl]at hh
   cases hh
theorem mO {listed:Array Bool} (hc:Closed ops listed) {j:Nat} (hj:j∈Region.ready .any ops listed):Closed ops (listed.setIfInBounds j true):=by
 obtain⟨_,o,ho,hall⟩:=mem_ready.1 hj
 intro k ok hk hl e he hb
 by_cases hkj:j=k
 ·subst hkj
  rw[ho]at hk
  cases hk
  exact getD_set_true (hall e he hb)
 ·rw[getD_set_ne false hkj]at hl
  exact getD_set_true (hc k ok hk hl e he hb)
theorem PI (hpl:cu env) {G:St->Prop} {i:Nat} (hi:ops[i]? =some oi):
  ∀ (n:Nat) (listed:Array Bool) (st s1:St),ND2 st->Closed ops listed->i∈Region.ready .any ops listed->
   (∀ (j:Nat) (oj:Oper),ops[j]? =some oj->j≠i->listed.getD j true=false->comm ops oi oj=true\/waits ops 8 j i=true)->
   aP P env ops oi st=some s1->rF P env ops G n (listed.setIfInBounds i true) s1->rF P env ops G (n+1) listed st:=by
 intro n
 induction n with
 |zero=>
  intro listed st s1 hn hc hr hfree h1 H
  refine⟨fun h=>(by rw[h]at hr;cases hr),fun j hj=>?_⟩
  by_cases hji:j=i
  ·subst hji;exact⟨oi,s1,hi,h1,H⟩
  ·have:=ready_mono hj hji
   rw[H.1]at this
   cases this
 |succ n ih=>
  intro listed st s1 hn hc hr hfree h1 H
  refine⟨fun h=>(by rw[h]at hr;cases hr),fun j hj=>?_⟩
  by_cases hji:j=i
  ·subst hji;exact⟨oi,s1,hi,h1,H⟩
  ·obtain⟨oj,s12,hoj,h2,hrest⟩:=H.2 j (ready_mono hj hji)
   have hiun:=(mem_ready.1 hr).1
   have hjun:=(mem_ready.1 hj).1
   have hcomm:comm ops oi oj=true:=by
    rcases hfree j oj hoj hji hjun with h|h
    ·exact h
    ·rw[gQ hc hiun hj]at h;cases h
   obtain⟨s2,g1,g2⟩:=diamond hpl hcomm hn.1 h1 h2
   refine⟨oj,s2,hoj,g1,?_⟩
   refine ih (listed.setIfInBounds j true) s2 s12 (iV hpl hn g1) (mO hc hj) (ready_mono hr (Ne.symm hji)) ?_ g2 ?_
   ·intro k ok hk hki hun
    refine hfree k ok hk hki ?_
    by_cases hjk:j=k
    ·subst hjk;exact hjun
    ·rw[getD_set_ne true hjk]at hun;exact hun
   ·rw[Array.setIfInBounds_comm _ _ hji]
    exact hrest
theorem O1 (hpl:cu env) (hlex:TB ops=true) {G:St->Prop} (hG:G st'):
  ∀ (l:List Oper) (k:Nat) (listed:Array Bool) (st:St),(∀ j,l[j]? =ops[k+j]?)->listed.size=ops.size->(∀ j,j<ops.size->listed.getD j true=decide (j<k))->k+l.length=ops.size->
   ND2 st->di P env ops l st=some st'->rF P env ops G l.length listed st
 | [],k,listed,st,hl,hsz,hlist,hlen,hn,h=>by
  simp only[di,Option.some.injEq]at h
  subst h
  refine⟨?_,hG⟩
  rw[List.eq_nil_iff_forall_not_mem]
  intro j hj
  obtain⟨h1,o,ho,_⟩:=mem_ready.1 hj
  have hlt:j<ops.size:=(Array.getElem?_eq_some_iff.1 ho).1
  rw[hlist j hlt]at h1
  simp at hlen h1
  omega
 |o::l,k,listed,st,hl,hsz,hlist,hlen,hn,h=>by
  simp only[di]at h
  obtain⟨s1,h1,h2⟩:=Option.bind_eq_some_iff.1 h
  have h0:ops[k]? =some o:=by simpa using(hl 0).symm
  have hk:k<ops.size:=(Array.getElem?_eq_some_iff.1 h0).1
  have hlf: ∀ j,j<ops.size->listed.getD j false=decide (j<k):=fun j hj=>by
   have:=hlist j hj
   have hj':j<listed.size:=by omega
   simpa [hj']using this
  unfold TB at hlex
  have hlex':=hlex
  rw[List.all_eq_true]at hlex'
  have hat: ∀ (j:Nat) (oj:Oper),ops[j]? =some oj->(∀ e∈oj.after,Region.binds .any e=true->e.on<j)/\ ∀ (i:Nat) (oi:Oper),i<j->ops[i]? =some oi->comm ops oi oj=true\/waits ops 8 j i=true:=by
   intro j oj hj
   have hlt:j<ops.size:=(Array.getElem?_eq_some_iff.1 hj).1
   have:=hlex' j (List.mem_range.2 hlt)
   rw[hj]at this
   simp only[Bool.and_eq_true,Array.all_eq_true_iff_forall_mem,List.all_eq_true]at this
   refine⟨fun e he hb=>?_,fun i oi hij hi=>?_⟩
   ·have:=this.1 e he
    simpa [hb]using this
   ·have:=this.2 i (List.mem_range.2 hij)
    rw[hi]at this
    simpa using this
  have hready:k∈Region.ready .any ops listed:=mem_ready.2 ⟨by rw[hlist k hk];simp,o,h0,fun e he hb=>by
   have hlt:=(hat k o h0).1 e he hb
   rw[hlf e.on (by omega)]
   simpa using hlt⟩
  have hclosed:Closed ops listed:=by
   intro j oj hj hjl e he hb
   have hlt:j<ops.size:=(Array.getElem?_eq_some_iff.1 hj).1
   rw[hlf j hlt]at hjl
   have:=(hat j oj hj).1 e he hb
   rw[hlf e.on (by omega)]
   simp at hjl⊢
   omega
  refine PI hpl h0 l.length listed st s1 hn hclosed hready ?_ h1 ?_
  ·intro j oj hj hjk hun
   have hlt:j<ops.size:=(Array.getElem?_eq_some_iff.1 hj).1
   rw[hlist j hlt]at hun
   simp at hun
   exact(hat j oj hj).2 k o (by omega) h0
  ·refine O1 hpl hlex hG l (k+1) _ s1 (fun j=>by have:=hl (j+1);simpa [Nat.add_assoc,Nat.add_comm 1 j]using this) (by simpa using hsz) ?_ (by simp at hlen;omega) (iV hpl hn h1) h2
   intro j hj
   by_cases hjk:k=j
   ·subst hjk
    have:k<listed.size:=by omega
    simp[this]
   ·rw[getD_set_ne true hjk,hlist j hj]
    simp
    omega
theorem yV (hpl:cu env) (hm:P.follows .mixedOrders=true) (henv:EnvOK P env) (hlex:TB ops=true) {id:Nat} (h:di P env ops ops.toList st=some st') (R:Rel P F st a w)
  (hQ: ∀ a w,Rel P F st' a w->Q .normal a w):(Code.region id ops true).wp P Q a w:=by
 obtain⟨ok,β,R⟩:=R
 refine wp_region_any hm ?_
 refine kJ (G:=fun s=>s=st') henv (fun s a w hs R'=>hQ a w (hs▸R')) _ _ st a _ ?_ ⟨ok,β,R.drawn⟩
 have:=O1 (G:=fun s=>s=st') hpl hlex rfl ops.toList 0 (Array.replicate ops.size false) st (by simp) (by simp) (fun j hj=>by simp[hj]) (by simp) ⟨R.nd,R.hp.nb⟩ h
 simpa using this
end
end
section
section
variable {P:Program} {w w':World} {ok ok':Nat->Prop} {β:Nat->Nat×Nat} {ops:Array Oper}
variable {F:Fr P} {st st' s s' s1 s2 s12:St} {a:Act} {env:Env} {o oi oj:Oper} {av:AV} {Q:Exit->Act->World->Prop}
theorem Om {op:Op} (h:Aw op=true): ∃ t,op=.alloc t:=by
 cases op<;>simp[Aw]at h⊢
theorem P9 (hpl:cu env) {t:TypeId} (hop:o.op=.alloc t) (h:dh P env o st=some s'): ∃ d e b,o.dst=some d/\s'=(st.upd d e).put (some d) b/\(b.tag=2->b.id=d):=by
 unfold dh at h
 simp only[hop]at h
 rw[hpl.1]at h
 simp only[Bool.false_and,Bool.false_eq_true,if_false]at h
 split at h
 ·rename_i d z hd hz
  split at h
  ·cases h
   exact⟨d,_,_,hd,rfl,fun _=>rfl⟩
  ·cases h
 ·cases h
theorem Lr (hpl:cu env) {t:TypeId} {a:Nat} {y:Operand} (hop:o.op=.store t (.tmp a) y) (h:dh P env o st=some s'): ∃ e,s'=st.upd (st.get a).id e/\(st.get a).tag=2/\o.dst=none:=by
 unfold dh aJ at h
 simp only[hop,hpl.1,Bool.false_eq_true,if_false]at h
 split at h
 ·rename_i hc
  have hd:o.dst=none:=by simpa using hc
  split at h
  rotate_left
  ·unfold stC at h
   split at h
   ·rename_i ht
    rw[Bool.and_eq_true,Bool.and_eq_true]at ht
    have ht2:(st.get a).tag=2:=by simpa [opd]using ht.1.1
    split at h
    ·split at h
     ·cases h;exact⟨_,rfl,ht2,hd⟩
     ·cases h
    ·cases h
   ·cases h
  unfold stA at h
  split at h
  ·rename_i ht
   have ht2:(st.get a).tag=2:=by simpa [opd]using ht
   split at h
   ·split at h
    ·split at h
     ·split at h
      ·split at h
       ·cases h;exact⟨_,rfl,ht2,hd⟩
       ·cases h
      ·split at h
       ·cases h
       ·split at h
        ·split at h
         ·cases h;exact⟨_,rfl,ht2,hd⟩
         ·cases h
        ·cases h
     ·split at h
      ·cases h;exact⟨_,rfl,ht2,hd⟩
      ·cases h
    ·split at h
     ·obtain⟨e',_,rfl⟩:=Option.map_eq_some_iff.1 h
      exact⟨_,rfl,ht2,hd⟩
     ·cases h
   ·cases h
  ·cases h
 ·cases h
theorem sZ (hpl:cu env) (hm:aF o.op<=3) (h:aP P env ops o st=some s'):
  (∃ u,s'=st.put o.dst u/\(aF o.op<=1\/asked P ops o st=some false))\/(aF o.op=2/\ ∃ d e b,o.dst=some d/\st.bx d=none/\s'=(st.upd d e).put (some d) b)\/(aF o.op=3/\ ∃ i e,s'=st.upd i e/\(st.bx i).isSome=true/\dh P env o st=some s'):=by
 rcases ji h with⟨h1,rfl⟩|⟨_,_,h3⟩
 ·exact .inl ⟨_,rfl,.inr h1⟩
 ·by_cases h1:aF o.op<=1
  ·obtain⟨u,hu⟩:=qg hpl h1 h3
   exact .inl ⟨u,hu,.inl h1⟩
  ·by_cases h2:aF o.op=2
   ·obtain⟨d,e,b,g1,g2,g3,_⟩:=y8 hpl h2 h3
    exact .inr (.inl ⟨h2,d,e,b,g1,g2,g3⟩)
   ·obtain⟨i,e,g1,_,g3⟩:=yl hpl (by omega) h3
    exact .inr (.inr ⟨by omega,i,e,g1,g3,h3⟩)
theorem Vx (hpl:cu env) (hm:aF o.op<=3) (h:aP P env ops o st=some s') {x:Nat} (hx:o.dst≠some x):s'.get x=st.get x:=by
 rcases sZ hpl hm h with⟨u,rfl,_⟩|⟨_,d,e,b,hd,_,rfl⟩|⟨_,i,e,rfl,_⟩
 ·exact jh hx
 ·rw[jh (by rw[<-hd];exact hx)]
  rfl
 ·rfl
def kX (st:St):List (Nat×Ent)->St
 | []=>st
 |p::m=>kX (st.upd p.1 p.2) m
theorem Gf {d:Option Nat} {x:AV} : ∀ (m:List (Nat×Ent)) (st:St),kX (st.put d x) m=(kX st m).put d x
 | [],st=>rfl
 |p::m,st=>by
  show kX ((st.put d x).upd p.1 p.2) m=(kX (st.upd p.1 p.2) m).put d x
  rw[aY,Gf m]
theorem upd_same {i:Nat} {e f:Ent} :(st.upd i e).upd i f=st.upd i f:=by
 simp only[St.upd,St.mk.injEq,true_and]
 funext j
 by_cases h:j=i<;>simp[h]
theorem I9 {i:Nat} {e:Ent} : ∀ (m:List (Nat×Ent)) (st:St),i∈m.map (·.1)->kX (st.upd i e) m=kX st m
 | [],st,h=>by cases h
 |p::m,st,h=>by
  show kX ((st.upd i e).upd p.1 p.2) m=kX (st.upd p.1 p.2) m
  by_cases hp:p.1=i
  ·rw[hp,upd_same]
  ·rw[qo hp]
   refine I9 m _ ?_
   rw[List.map_cons,List.mem_cons]at h
   rcases h with h|h
   ·exact absurd h.symm hp
   ·exact h
def Lat (P:Program) (env:Env) (ops:Array Oper) (X:Nat->Prop) (oi:Oper) (st:St) (v:AV):Prop:= ∀ m:List (Nat×Ent),(∀ p∈m,X p.1)->aP P env ops oi (kX st m)=some ((kX st m).put oi.dst v)
def Xof (ops:Array Oper) (oi:Oper) (k:Nat):Prop:=aF oi.op=0\/k∈fQ ops.toList
theorem adF (hpl:cu env) (hm:aF oi.op=0) {v:AV} : ∀ (m:List (Nat×Ent)) (st:St),aP P env ops oi st=some (st.put oi.dst v)->aP P env ops oi (kX st m)=some ((kX st m).put oi.dst v)
 | [],st,h=>h
 | p::m,st,h=>adF hpl hm m (st.upd p.1 p.2) (by
   rw[vH hpl hm,h]
   simp only[Option.map_some,aY])
theorem Xh (hn:ND st) (i:Nat) (e:Ent):ND (st.upd i e):=fun j=>yG (hn j)
theorem acz (hpl:cu env) (hm:aF oi.op<=1) {v:AV} : ∀ (m:List (Nat×Ent)) (st:St),ND st->(∀ p∈m,st.bx p.1=none)->(∀ p∈m,oi.dst≠some p.1)->aP P env ops oi st=some (st.put oi.dst v)->aP P env ops oi (kX st m)=some ((kX st m).put oi.dst v)
 | [],st,_,_,_,h=>h
 |p::m,st,hn,hb,hd,h=>by
  show aP P env ops oi (kX (st.upd p.1 p.2) m)=some ((kX (st.upd p.1 p.2) m).put oi.dst v)
  by_cases hin:p.1∈m.map (·.1)
  ·rw[I9 m st hin]
   exact acz hpl hm m st hn (fun q hq=>hb q (List.mem_cons_of_mem _ hq)) (fun q hq=>hd q (List.mem_cons_of_mem _ hq)) h
  ·refine acz hpl hm m (st.upd p.1 p.2) (Xh hn _ _) (fun q hq=>?_) (fun q hq=>hd q (List.mem_cons_of_mem _ hq)) ?_
   ·have hne:q.1≠p.1:=fun he=>hin (he▸List.mem_map.2 ⟨q,hq,rfl⟩)
    rw[aW,if_neg hne]
    exact hb q (List.mem_cons_of_mem _ hq)
   ·rw[qJ hpl (by omega) (hb p (List.mem_cons_self ..)) hn (hd p (List.mem_cons_self ..)),h]
    simp only[Option.map_some,aY]
theorem DK (p:Oper) (l:List Oper):fQ (p::l)=if aF p.op==2 then(match p.dst with|some d=>(match p.op with| .alloc _=>d::(d+RID)::fQ l|_=>d::fQ l)|none=>fQ l)else fQ l:=by
 rw[fQ]
 rfl
theorem Ob {p:Oper} {l:List Oper} {d:Nat} (hm:aF p.op=2) (hd:p.dst=some d):d∈fQ (p::l):=by
 rw[DK,if_pos (by rw[hm];rfl),hd]
 cases p.op<;>exact List.mem_cons_self ..
theorem Oy {p:Oper} {l:List Oper} {d:Nat} (h:d∈fQ l):d∈fQ (p::l):=by
 rw[DK]
 cases (aF p.op==2)with
 |false=>exact h
 |true=>
  rw[if_pos rfl]
  cases p.dst with
  |none=>exact h
  |some x=>
   cases p.op with
   |alloc t=>exact List.mem_cons_of_mem _ (List.mem_cons_of_mem _ h)
   |_=>exact List.mem_cons_of_mem _ h
theorem F9 (l:List Oper) (o:Oper) (d:Nat) (h:o∈l) (hm:aF o.op=2) (hd:o.dst=some d):d∈fQ l:=by
 induction l with
 |nil=>cases h
 |cons p l ih=>
  rcases List.mem_cons.1 h with h|h
  ·rw[h]at hm hd
   exact Ob hm hd
  ·exact Oy (ih h)
theorem at_mem {k:Nat} (h:ops[k]? =some o):o∈ops.toList:=by
 have:=Array.getElem?_eq_some_iff.1 h
 obtain⟨hk,rfl⟩:=this
 simp
theorem Nw (hpl:cu env) (hm:aF oi.op<=1) {v:AV} {j:Nat} (hj:ops[j]? =some oj) (hap:oi.apart ops oj=true) (hmj:aF oj.op<=3) (hst:aF oj.op=3-> ∀ i e,s2=st.upd i e->dh P env oj st=some s2->(st.bx i).isSome=true-> ∃ i' e',s2=st.upd i' e'/\Xof ops oi i')
  (L:Lat P env ops (Xof ops oi) oi st v) (h:aP P env ops oj st=some s2):Lat P env ops (Xof ops oi) oi s2 v:=by
 obtain⟨a1,a2,a3⟩:=Oper.apart_spec hap
 have a4: ∀ d,oj.dst=some d->oi.dst≠some d:=fun d hd hd'=>a2 d hd' hd
 have hput: ∀ (st:St) (u:AV),Lat P env ops (Xof ops oi) oi st v->Lat P env ops (Xof ops oi) oi (st.put oj.dst u) v:=by
  intro st u L m hmm
  rw[Gf,gK hpl (by omega) a3 a4,L m hmm]
  simp only[Option.map_some,Option.some.injEq]
  exact put_comm a2
 have hupd: ∀ (i:Nat) (e:Ent),Xof ops oi i->Lat P env ops (Xof ops oi) oi (st.upd i e) v:=by
  intro i e hi m hmm
  exact L ((i,e)::m) (fun p hp=>by
   rcases List.mem_cons.1 hp with rfl|hp
   ·exact hi
   ·exact hmm p hp)
 rcases sZ hpl hmj h with⟨u,rfl,_⟩|⟨h2,d,e,b,hd,_,rfl⟩|⟨h3,i,e,hs,hi,hev⟩
 ·exact hput st u L
 ·have:=hput (st.upd d e) b (hupd d e (.inr (F9 _ oj d (at_mem hj) h2 hd)))
  rw[hd]at this
  exact this
 ·obtain⟨i',e',rfl,hx⟩:=hst h3 i e hs hev hi
  exact hupd i' e' hx
def Pt (ops:Array Oper) (listed:Array Bool) (st:St):Prop:= ∀ (k:Nat) (o:Oper) (t:TypeId) (d:Nat),ops[k]? =some o->o.op=.alloc t->o.dst=some d->o.guard=none->listed.getD k false=true->(st.get d).tag=2->(st.get d).id=d
structure Zz (ops:Array Oper):Prop where
 small: ∀ (j:Nat) (o:Oper),ops[j]? =some o->aF o.op<=3
 aft: ∀ (j:Nat) (o:Oper),ops[j]? =some o-> ∀ e∈o.after,Region.binds .any e=true->e.on<j
 uniq: ∀ (j k:Nat) (o o':Oper),ops[j]? =some o->ops[k]? =some o'->Aw o.op=true->k≠j->o'.dst≠o.dst
 newdst: ∀ (k:Nat) (o:Oper),ops[k]? =some o->aF o.op<=1-> ∀ d∈fQ ops.toList,o.dst≠some d
 pair: ∀ (i j:Nat) (oi oj:Oper),i<j->ops[i]? =some oi->ops[j]? =some oj->comm ops oi oj=true\/waits ops 8 j i=true\/y5 ops i oi oj j=true
theorem NI (h:KY ops=true):Zz ops:=by
 unfold KY at h
 rw[List.all_eq_true]at h
 have hat: ∀ (j:Nat) (oj:Oper),ops[j]? =some oj->_:=fun j oj hj=>by
  have hlt:j<ops.size:=(Array.getElem?_eq_some_iff.1 hj).1
  have:=h j (List.mem_range.2 hlt)
  rw[hj]at this
  simp only[Bool.and_eq_true,Array.all_eq_true_iff_forall_mem,List.all_eq_true]at this
  exact this
 refine⟨fun j o hj=>?_,fun j o hj e he hb=>?_,fun j k o o' hj hk ha hne=>?_,fun k o hk hm d hd=>?_,fun i j oi oj hij hi hj=>?_⟩
 ·have:=(hat j o hj).1.1.1.2
  simpa using this
 ·have:=(hat j o hj).1.1.1.1 e he
  simpa [hb]using this
 ·have h3:=(hat j o hj).1.1.2
  rw[ha]at h3
  simp only[Bool.not_true,Bool.false_or,List.all_eq_true]at h3
  have hlt:k<ops.size:=(Array.getElem?_eq_some_iff.1 hk).1
  have:=h3 k (List.mem_range.2 hlt)
  rw[hk]at this
  simp only[Bool.or_eq_true,beq_iff_eq,bne_iff_ne]at this
  rcases this with h4|h4
  ·exact absurd h4 hne
  ·exact h4
 ·have h3:=(hat k o hk).1.2
  have h4:decide (2<=aF o.op)=false:=by simp;omega
  rw[h4,Bool.false_or,List.all_eq_true]at h3
  have:=h3 d hd
  simpa using this
 ·have:=(hat j oj hj).2 i (List.mem_range.2 hij)
  rw[hi]at this
  simp only[Bool.or_eq_true]at this
  rcases this with(h4|h4)|h4
  ·exact .inl h4
  ·exact .inr (.inl h4)
  ·exact .inr (.inr h4)
theorem RS (hpl:cu env) (hx:Zz ops) {listed:Array Bool} {j:Nat} (hj:ops[j]? =some oj) (hp:Pt ops listed st) (h:aP P env ops oj st=some s2):Pt ops (listed.setIfInBounds j true) s2:=by
 intro k o t d hk hop hd hg hl ht
 by_cases hkj:j=k
 ·subst hkj
  rw[hj]at hk
  cases hk
  rcases ji h with⟨h1,_⟩|⟨_,_,h3⟩
  ·unfold asked at h1
   rw[hg]at h1
   cases h1
  ·obtain⟨d',e,b,hd',rfl,hb⟩:=P9 hpl hop h3
   rw[hd]at hd'
   cases hd'
   rw[get_put]at ht⊢
   split at ht
   ·rename_i hc
    rw[if_pos hc]
    exact hb ht
   ·rename_i hc
    exfalso
    have hlen: ¬ d<st.sl.length:=fun hlt=>hc ⟨rfl,hlt⟩
    have:(st.upd d e).get d=dead:=by
     show st.sl.getD d dead=dead
     rw[List.getD_eq_getElem?_getD,List.getElem?_eq_none (by omega)]
     rfl
    rw[this]at ht
    cases ht
 ·rw[getD_set_ne false hkj]at hl
  have hne:oj.dst≠some d:=by
   rw[<-hd]
   exact hx.uniq k j o oj hk hj (by rw[hop];rfl) hkj
  rw[Vx hpl (hx.small j oj hj) h hne]at ht⊢
  exact hp k o t d hk hop hd hg hl ht
theorem QM {i j:Nat} (h:y5 ops i oi oj j=true):oi.apart ops oj=true/\aF oi.op<=1/\(∀ (k:Nat) (o:Oper),k<i->ops[k]? =some o->aF o.op≠2)/\
  ∃ t a y k o t',oj.op=.store t (.tmp a) y/\ops[k]? =some o/\o.op=.alloc t'/\o.dst=some a/\o.guard=none/\waits ops 8 j k=true:=by
 unfold y5 at h
 simp only[Bool.and_eq_true,decide_eq_true_eq,List.all_eq_true]at h
 obtain⟨⟨⟨h1,h2⟩,h3⟩,h4⟩:=h
 refine⟨h1,h2,fun k o hk ho=>?_,?_⟩
 ·have:=h3 k (List.mem_range.2 hk)
  rw[ho]at this
  simpa using this
 ·split at h4
  ·rename_i t a y hop
   rw[List.any_eq_true]at h4
   obtain⟨k,hk,h5⟩:=h4
   cases ho:ops[k]? with
   |none=>rw[ho]at h5;cases h5
   |some o=>
    rw[ho]at h5
    simp only[Bool.and_eq_true,beq_iff_eq,Option.isNone_iff_eq_none]at h5
    obtain⟨⟨⟨g1,g2⟩,g3⟩,g4⟩:=h5
    obtain⟨t',ht'⟩:=Om g1
    exact⟨t,a,y,k,o,t',hop,ho,ht',g2,g3,g4⟩
  ·cases h4
theorem Py (hpl:cu env) (hx:Zz ops) {G:St->Prop} {i:Nat} (hi:ops[i]? =some oi):
  ∀ (n:Nat) (listed:Array Bool) (st s1:St),ND2 st->Closed ops listed->listed.size=ops.size->Pt ops listed st->i∈Region.ready .any ops listed->
   (∀ (j:Nat) (oj:Oper),ops[j]? =some oj->j≠i->listed.getD j true=false->comm ops oi oj=true\/waits ops 8 j i=true\/y5 ops i oi oj j=true)->
   (aF oi.op<=1->(aF oi.op=0\/ ∀ (k:Nat) (o:Oper),k<i->ops[k]? =some o->aF o.op≠2)-> ∃ v,Lat P env ops (Xof ops oi) oi st v)->
   aP P env ops oi st=some s1->rF P env ops G n (listed.setIfInBounds i true) s1->rF P env ops G (n+1) listed st:=by
 intro n
 induction n with
 |zero=>
  intro listed st s1 hn hc hsz hp hr hfree hlat h1 H
  refine⟨fun h=>(by rw[h]at hr;cases hr),fun j hj=>?_⟩
  by_cases hji:j=i
  ·subst hji;exact⟨oi,s1,hi,h1,H⟩
  ·have:=ready_mono hj hji
   rw[H.1]at this
   cases this
 |succ n ih=>
  intro listed st s1 hn hc hsz hp hr hfree hlat h1 H
  refine⟨fun h=>(by rw[h]at hr;cases hr),fun j hj=>?_⟩
  by_cases hji:j=i
  ·subst hji;exact⟨oi,s1,hi,h1,H⟩
  ·obtain⟨oj,s12,hoj,h2,hrest⟩:=H.2 j (ready_mono hj hji)
   have hiun:=(mem_ready.1 hr).1
   have hjun:=(mem_ready.1 hj).1
   have hmj:=hx.small j oj hoj
   have key: ∃ s2,aP P env ops oj st=some s2/\aP P env ops oi s2=some s12/\(aF oi.op<=1->(aF oi.op=0\/ ∀ (k:Nat) (o:Oper),k<i->ops[k]? =some o->aF o.op≠2)-> ∃ v,Lat P env ops (Xof ops oi) oi s2 v):=by
    rcases hfree j oj hoj hji hjun with h|h|h
    ·obtain⟨s2,g1,g2⟩:=diamond hpl h hn.1 h1 h2
     refine⟨s2,g1,g2,fun hm he=>?_⟩
     obtain⟨v,L⟩:=hlat hm he
     unfold comm at h
     simp only[Bool.and_eq_true,Bool.not_eq_true',Bool.and_eq_false_iff,beq_eq_false_iff_ne,decide_eq_false_iff_not]at h
     obtain⟨⟨⟨⟨hap,_⟩,_⟩,_⟩,hc2⟩:=h
     exact⟨v,Nw hpl hm hoj hap hmj (fun h3 k e hs _ _=>⟨k,e,hs,.inl (by omega)⟩) L g1⟩
    ·rw[gQ hc hiun hj]at h;cases h
    ·obtain⟨hap,hm,he,t,x,y,k,o,t',hop,hk,hal,hd,hg,hw⟩:=QM h
     obtain⟨v,L⟩:=hlat hm (.inr he)
     obtain⟨a1,a2,a3⟩:=Oper.apart_spec hap
     have e1:s1=st.put oi.dst v:=by
      have:=L [] (fun p hp=>by cases hp)
      rw[show kX st []=st from rfl,h1]at this
      exact Option.some.inj this
     rw[e1,gK hpl hmj a1 a2]at h2
     obtain⟨s2,g1,g2⟩:=Option.map_eq_some_iff.1 h2
     have hkl:listed.getD k false=true:=by
      have hlt:k<listed.size:=by rw[hsz];exact(Array.getElem?_eq_some_iff.1 hk).1
      cases hv:listed.getD k true with
      |false=>rw[gQ hc hv hj]at hw;cases hw
      |true=>simpa [hlt]using hv
     have hm2:aF o.op=2:=by rw[hal];rfl
     have hst:aF oj.op=3-> ∀ i e,s2=st.upd i e->dh P env oj st=some s2->(st.bx i).isSome=true-> ∃ i' e',s2=st.upd i' e'/\Xof ops oi i':=by
      intro _ _ _ _ hev _
      obtain⟨e',q1,q2,_⟩:=Lr hpl hop hev
      have hid:=hp k o t' x hk hal hd hg hkl q2
      exact⟨_,e',q1,.inr (by rw[hid];exact F9 _ o x (at_mem hk) hm2 hd)⟩
     have L2:=Nw hpl hm hoj hap hmj hst L g1
     refine⟨s2,g1,?_,fun _ _=>⟨v,L2⟩⟩
     have:=L2 [] (fun p hp=>by cases hp)
     rw[show kX s2 []=s2 from rfl]at this
     rw[this,g2]
   obtain⟨s2,g1,g2,hlat2⟩:=key
   refine⟨oj,s2,hoj,g1,?_⟩
   refine ih (listed.setIfInBounds j true) s2 s12 (iV hpl hn g1) (mO hc hj) (by simpa using hsz) (RS hpl hx hoj hp g1) (ready_mono hr (Ne.symm hji)) ?_ hlat2 g2 ?_
   ·intro k ok hk hki hun
    refine hfree k ok hk hki ?_
    by_cases hjk:j=k
    ·subst hjk;exact hjun
    ·rw[getD_set_ne true hjk]at hun;exact hun
   ·rw[Array.setIfInBounds_comm _ _ hji]
    exact hrest
theorem FU (hpl:cu env) (hm:aF o.op<=1) (h:aP P env ops o st=some s'): ∃ v,s'=st.put o.dst v:=by
 rcases sZ hpl (by omega) h with⟨u,hu,_⟩|⟨h2,_⟩|⟨h3,_⟩
 ·exact⟨u,hu⟩
 ·omega
 ·omega
theorem Je (hpl:cu env) (hx:Zz ops) {G:St->Prop} (hG:G st'):
  ∀ (l:List Oper) (k:Nat) (listed:Array Bool) (st:St),(∀ j,l[j]? =ops[k+j]?)->listed.size=ops.size->(∀ j,j<ops.size->listed.getD j true=decide (j<k))->k+l.length=ops.size->
   ND2 st->Pt ops listed st->((∀ (k':Nat) (o:Oper),k'<k->ops[k']? =some o->aF o.op≠2)-> ∀ d∈fQ ops.toList,st.bx d=none)->di P env ops l st=some st'->rF P env ops G l.length listed st
 | [],k,listed,st,hl,hsz,hlist,hlen,hn,hp,hX,h=>by
  simp only[di,Option.some.injEq]at h
  subst h
  refine⟨?_,hG⟩
  rw[List.eq_nil_iff_forall_not_mem]
  intro j hj
  obtain⟨h1,o,ho,_⟩:=mem_ready.1 hj
  have hlt:j<ops.size:=(Array.getElem?_eq_some_iff.1 ho).1
  rw[hlist j hlt]at h1
  simp at hlen h1
  omega
 |o::l,k,listed,st,hl,hsz,hlist,hlen,hn,hp,hX,h=>by
  simp only[di]at h
  obtain⟨s1,h1,h2⟩:=Option.bind_eq_some_iff.1 h
  have h0:ops[k]? =some o:=by simpa using(hl 0).symm
  have hk:k<ops.size:=(Array.getElem?_eq_some_iff.1 h0).1
  have hlf: ∀ j,j<ops.size->listed.getD j false=decide (j<k):=fun j hj=>by
   have:=hlist j hj
   have hj':j<listed.size:=by omega
   simpa [hj']using this
  have hready:k∈Region.ready .any ops listed:=mem_ready.2 ⟨by rw[hlist k hk];simp,o,h0,fun e he hb=>by
   have hlt:=hx.aft k o h0 e he hb
   rw[hlf e.on (by omega)]
   simpa using hlt⟩
  have hclosed:Closed ops listed:=by
   intro j oj hj hjl e he hb
   have hlt:j<ops.size:=(Array.getElem?_eq_some_iff.1 hj).1
   rw[hlf j hlt]at hjl
   have:=hx.aft j oj hj e he hb
   rw[hlf e.on (by omega)]
   simp at hjl⊢
   omega
  refine Py hpl hx h0 l.length listed st s1 hn hclosed hsz hp hready ?_ ?_ h1 ?_
  ·intro j oj hj hjk hun
   have hlt:j<ops.size:=(Array.getElem?_eq_some_iff.1 hj).1
   rw[hlist j hlt]at hun
   simp at hun
   exact hx.pair k j o oj (by omega) h0 hj
  ·intro hm he
   obtain⟨v,rfl⟩:=FU hpl hm h1
   refine⟨v,fun m hmm=>?_⟩
   by_cases h00:aF o.op=0
   ·exact adF hpl h00 m st h1
   ·have he2: ∀ (k':Nat) (o':Oper),k'<k->ops[k']? =some o'->aF o'.op≠2:=by
     rcases he with he|he
     ·exact absurd he h00
     ·exact he
    have hmem: ∀ p∈m,p.1∈fQ ops.toList:=fun p hp=>by
     rcases hmm p hp with h|h
     ·exact absurd h h00
     ·exact h
    exact acz hpl hm m st hn.1 (fun p hp=>hX he2 p.1 (hmem p hp)) (fun p hp=>hx.newdst k o h0 hm p.1 (hmem p hp)) h1
  ·refine Je hpl hx hG l (k+1) _ s1 (fun j=>by have:=hl (j+1);simpa [Nat.add_assoc,Nat.add_comm 1 j]using this) (by simpa using hsz) ?_ (by simp at hlen;omega) (iV hpl hn h1) (RS hpl hx h0 hp h1) ?_ h2
   ·intro j hj
    by_cases hjk:k=j
    ·subst hjk
     have:k<listed.size:=by omega
     simp[this]
    ·rw[getD_set_ne true hjk,hlist j hj]
     simp
     omega
   ·intro hall d hd
    have hprev:=hX (fun k' o' hk' ho'=>hall k' o' (by omega) ho') d hd
    have hno:=hall k o (by omega) h0
    rcases sZ hpl (hx.small k o h0) h1 with⟨u,rfl,_⟩|⟨h2,_⟩|⟨_,i,e,rfl,hsome,_⟩
    ·rw[bU];exact hprev
    ·exact absurd h2 hno
    ·rw[aW,if_neg (fun he=>by rw[<-he,hprev]at hsome;cases hsome)]
     exact hprev
theorem yj (hpl:cu env) (hm:P.follows .mixedOrders=true) (henv:EnvOK P env) (hlex:KY ops=true) (hnew: ∀ d∈fQ ops.toList,st.bx d=none) {id:Nat} (h:di P env ops ops.toList st=some st') (R:Rel P F st a w)
  (hQ: ∀ a w,Rel P F st' a w->Q .normal a w):(Code.region id ops true).wp P Q a w:=by
 obtain⟨ok,β,R⟩:=R
 refine wp_region_any hm ?_
 refine kJ (G:=fun s=>s=st') henv (fun s a w hs R'=>hQ a w (hs▸R')) _ _ st a _ ?_ ⟨ok,β,R.drawn⟩
 have:=Je (G:=fun s=>s=st') hpl (NI hlex) rfl ops.toList 0 (Array.replicate ops.size false) st (by simp) (by simp) (fun j hj=>by simp[hj]) (by simp) ⟨R.nd,R.hp.nb⟩
  (fun k o t d hk hop hd hg hl=>by
   have hlt:k<ops.size:=(Array.getElem?_eq_some_iff.1 hk).1
   simp[hlt]at hl) (fun _=>hnew) h
 simpa using this
theorem SA (i j:Nat):(st.kill i).bx j=if j=i then none else(st.bx j).map (Ent.mapC (bg [i])):=rfl
theorem Gj: ∀ (l:List Nat) (st:St) (d:Nat),(d∈l\/st.bx d=none)->(l.foldl St.kill st).bx d=none
 | [],st,d,h=>by
  rcases h with h|h
  ·cases h
  ·exact h
 |i::l,st,d,h=>by
  rw[List.foldl_cons]
  refine Gj l _ d ?_
  by_cases hd:d=i
  ·right;rw[SA,if_pos hd]
  ·rcases h with h|h
   ·rcases List.mem_cons.1 h with h|h
    ·exact absurd h hd
    ·exact .inl h
   ·right;rw[SA,if_neg hd,h];rfl
theorem UH (env:Env) (st:St) {l:List Oper} {d:Nat} (h:d∈fQ l):(prep env l st).bx d=none:=Gj _ _ d (.inl h)
end
end
end Go.Ev
