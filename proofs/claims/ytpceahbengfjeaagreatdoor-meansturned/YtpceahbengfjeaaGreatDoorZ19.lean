/- Trees of functions, and lemmas. Nothing here is trusted. -/
import Derived.Test.YtpceahbengfjeaaGreatDoorZ16
import Derived.BigCall
namespace Go.Ev
open Go.RowKit
set_option linter.unusedVariables false
set_option linter.unusedSimpArgs false
section
variable {P:Program} {w w':World} {ok ok':Nat->Prop} {β β':Nat->Nat×Nat} {ops:Array Oper}
variable {F:Fr P} {st st' s:St} {a:Act} {env:Env}
theorem HeapOK.still {bx:Nat->Option Ent} (H:HeapOK P w ok β bx) (hs:w.heap.size<=w'.heap.size) (hb: ∀ b,ok b->w'.heap[b]? =w.heap[b]?) (hx: ∀ i e,bx i=some e->e.live=true->w'.heap[(β i).1]? =w.heap[(β i).1]?):HeapOK P w' ok β bx:=by
 refine⟨fun i e hi hl=>Nat.lt_of_lt_of_le (H.siz i e hi hl) hs,H.sep,H.inj,fun i e hi h0 hc=>?_,fun i e v hi h0 hc=>?_,fun i e hi h0=>?_,H.nb,H.rc⟩
 ·obtain⟨cs,h1,n,h2⟩:=H.box i e hi h0 hc
  exact⟨cs,by rw[hx i e hi (bI h0)];exact h1,n,h2.move hb (fun _ h=>h)⟩
 ·obtain⟨h1,val,h2,h3,h4⟩:=H.con i e v hi h0 hc
  exact⟨h1,val,by rw[hx i e hi (bI h0)];exact h2,h3,h4.move hb (fun _ h=>h)⟩
 ·exact(H.row i e hi h0).move (fun hl=>hx i e hi hl) hb (fun _ h=>h)
def HStay (P:Program) (h:List Ent) (h':List (Option Ent)) (w:World) (okA:Nat->Prop) (β:Nat->Nat×Nat) (ok':Nat->Prop) (β':Nat->Nat×Nat) (w':World):Prop:=
 BelowX (XOf β (bQ h)) w.heap.size w w'/\(∀ b,ok' b->b<w'.heap.size/\(okA b\/w.heap.size<=b\/XOf β (bQ h) b))/\
  HeapOK P w' ok' β' (cO h')/\
  (∀ i e,cO h' i=some e->e.live=true->w.heap.size<=(β' i).1\/XOf β (bQ h) (β' i).1)/\
  (∀ i e',cO h' i=some e'->(e'.row=0\/e'.row=3\/e'.row=4)-> ∃ e,bQ h i=some e/\Alike (β i) e (β' i) e')
theorem HPost.parts {h:List Ent} {r:AV} {h':List (Option Ent)} {okA:Nat->Prop} {e:Ending} (H:HPost P h r h' w okA β e w'): ∃ v ok' β',e=.returned v/\HStay P h h' w okA β ok' β' w'/\RepAV P w' ok' β' (cO h') r v/\aV (cO h') r:=by
 obtain⟨v,ok',β',h1,h2,h3,h4,h5,h6,h7,h8⟩:=H
 exact⟨v,ok',β',h1,⟨h2,h3,h4,h7,h8⟩,h5,h6⟩
theorem HStay.post {h:List Ent} {r:AV} {h':List (Option Ent)} {okA:Nat->Prop} {v:Value} (H:HStay P h h' w okA β ok' β' w') (h1:RepAV P w' ok' β' (cO h') r v) (h2:aV (cO h') r):HPost P h r h' w okA β (.returned v) w':=
 ⟨v,ok',β',rfl,H.1,H.2.1,H.2.2.1,h1,h2,H.2.2.2.1,H.2.2.2.2⟩
structure ER (P:Program) (f:FuncId) (args:List AV) (h:List Ent) (u:TypeId) (pv:Value):Prop where
 call: ∀ (w:World) (okA:Nat->Prop) (β:Nat->Nat×Nat) (vs:List Value),oz P (XOf β (bQ h)) w->(∀ b,okA b->b<w.heap.size)->HeapOK P w okA β (bQ h)->eG P w okA β (bQ h) args vs->
  Calls P f vs.toArray w fun e w'=>e=.panicked [{v:=.iface u pv,recovered:=false }]/\ ∃ ok' β',HStay P h (h.map some) w okA β ok' β' w'
theorem FH (henv:EnvOK P env) {Q:Exit->Act->World->Prop} {rest:List Nat} (hQ: ∀ a w,Rel P F st' a w->wpOps P ops Q rest a w):
  ∀ (l:List Oper) (k:Nat) (st:St) (a:Act) (w:World),(∀ j o,l[j]? =some o->ops[k+j]? =some o)->di P env ops l st=some st'->Rel P F st a w->wpOps P ops Q (List.range' k l.length++rest) a w
 | [],k,st,a,w,hl,h,R=>by
  simp only[di,Option.some.injEq]at h
  subst h
  exact hQ a w R
 |o::l,k,st,a,w,hl,h,R=>by
  simp only[di]at h
  obtain⟨s1,h1,h2⟩:=Option.bind_eq_some_iff.1 h
  have h0:ops[k]? =some o:=by simpa using hl 0 o rfl
  simp only[List.length_cons,List.range'_succ,List.cons_append]
  rw[wpOps_cons]
  exact wpOp_mono (fun a' w' R'=>FH henv hQ l (k+1) s1 a' w' (fun j x hx=>by have:=hl (j+1) x (by simpa using hx);simpa [Nat.add_assoc,Nat.add_comm 1 j]using this) h2 R') (uD henv R h0 h1)
theorem UV {f g:FuncId} {fn gn:Func} {args:List AV} {h:List Ent} {id0 id1 t:Nat} {ty4:TypeId} {ops0 ops1:Array Oper} {rest c0:Code} {pre:List Oper} {s0 s1:St} {pos:String} {after:Array Edge} {dst:Option Nat} {tg:TypeId} {ats:Array TypeId} {u:TypeId} {pv:Value}
  (henv:EnvOK P env) (hf:P.funcs[f]? =some fn) (hb:fn.body=some (.seq (.region id0 ops0 false) (.seq (.region id1 ops1 false) rest)))
  (hg : P.funcs[g]? = some gn) (hgb : gn.body = some c0) (hgn : (gn.name == "runtime.NumGoroutine") = false)
  (hpanic: ∀ w,Calls P g #[.bool false] w fun e w'=>e=.panicked [{v:=.iface u pv,recovered:=false }]/\w'=w)
  (h0:di P env ops0 ops0.toList (ou fn args h)=some s0) (h1:di P env ops1 pre s0=some s1)
  (hops:ops1.toList=pre++[{dst:=dst,op:=.call {callee:=.value (.func g),args:= #[.tmp t],argTypes:=ats },type:=tg,pos:=pos,after:=after,guard:=none }])
  (hs:s1.get t=dat ty4 (.lit (.bool false))) (h4:P.underlying ty4=some .bool) (hh:Ef h.length s1=h.map some) (hcl:h.all (fun e=>oG h.length (jV e))=true):ER P f args h u pv:=by
 refine⟨fun w okA β vs htb hok H hargs=>?_⟩
 have hl:=tN hargs
 have R:Rel P ⟨w.heap.size,w,okA,XOf β (bQ h),fun i=>match bQ h i with|some e=>hval (β i) e|none=>undef,fun i=>match bQ h i with|some e=>e.ty|none=>0,htb,[]⟩ (ou fn args h)
   {tmps:=vs.toArray++Array.replicate (fn.ntmps - vs.toArray.size) undef,defers:=[] } w:=by
  refine⟨okA,β,by simp[ou,hl],rfl,H,BelowX.refl _ _ _,Nat.le_refl _,fun b hb=>⟨hok b hb,.inl hb⟩,fun i e hi hlv=>.inr ⟨i,e,hi,hlv,rfl⟩,fun i e hi _=>?_,fun i=>?_,fun i=>?_⟩
  ·have hi':bQ h i=some e:=hi
   simp only[hi']
   exact⟨trivial,trivial⟩
  ·have hg:(ou fn args h).get i=args.getD i dead:=pq fn args _ i
   rw[hg,yu]
   exact(lw hargs i).1
  ·have hg:(ou fn args h).get i=args.getD i dead:=pq fn args _ i
   rw[hg]
   exact(lw hargs i).2
 refine calls_of_wp hf hb (wp_seq (Aa henv h0 R fun a1 w1 R1=>?_))
 refine wp_seq (wp_region ?_)
 have hsz:ops1.size=pre.length+1:=by
  have:=congrArg List.length hops
  simpa using this
 have hlast:ops1[pre.length]? =some {dst:=dst,op:=.call {callee:=.value (.func g),args:= #[.tmp t],argTypes:=ats },type:=tg,pos:=pos,after:=after,guard:=none } :=by
  rw[<-Array.getElem?_toList,hops]
  simp
 have hpre: ∀ j o,pre[j]? =some o->ops1[0+j]? =some o:=by
  intro j o hj
  rw[<-Array.getElem?_toList,hops,Nat.zero_add,List.getElem?_append_left (List.getElem?_eq_some_iff.1 hj).1]
  exact hj
 rw[hsz,List.range_eq_range',List.range'_concat,Nat.zero_add,Nat.one_mul]
 refine FH henv (fun a2 w2 R2=>?_) pre 0 s0 a1 w1 hpre h1 R1
 rw[wpOps_cons]
 unfold wpOp
 rw[hlast]
 simp only
 have hw:Region.wanted {dst:=dst,op:=.call {callee:=.value (.func g),args:= #[.tmp t],argTypes:=ats },type:=tg,pos:=pos,after:=after,guard:=none } (yielded ops1 a2.tmps)=true:=rfl
 rw[hw,if_pos rfl]
 refine .inl ?_
 obtain⟨ok',β',R2⟩:=R2
 have hv:a2.eval (.tmp t)=.bool false:=by
  have hr:=R2.slot t
  rw[hs]at hr
  obtain⟨⟨n,hr⟩,hagg,hone⟩:=hr.d1 rfl
  have e:(dat ty4 (.lit (.bool false))).ty=ty4:=rfl
  rw[e]at hr hagg hone
  cases n with
  |zero=>exact hr.elim
  |succ n=>
   obtain⟨q1,q2,q3⟩:=hr
   have e2:(dat ty4 (.lit (.bool false))).d=.lit (.bool false):=rfl
   rw[e2]at q3
   simp only[h4]at q3
   have hb1:bu P ty4=false:=by unfold bu;rw[h4]
   have:=hone hb1
   rw[this]at q3
   have hval:a2.tmps.getD t undef=.bool false:=by simpa using q3
   exact hval
 have hrun:(execOp a2.eval {dst:=dst,op:=.call {callee:=.value (.func g),args:= #[.tmp t],argTypes:=ats },type:=tg,pos:=pos,after:=after,guard:=none }).run P w2=.ok (.enter g #[.bool false]) w2:=by
  rw[execOp_call_go]
  have hgn' : ¬ gn.name = "runtime.NumGoroutine" := by simpa using hgn
  simp[callFunc,hg,hgn',hgb,hv]
 unfold Oper.wp
 rw[hrun,Oper.upon_enter]
 refine(hpanic w2).mono ?_
 rintro e w3 ⟨rfl,rfl⟩
 have hget:=MN h.length s1
 rw[hh]at hget
 have hin: ∀ k e,cO (h.map some) k=some e->s1.bx k=some e/\OID<=k/\k - OID<h.length:=by
  intro k e hk
  rw[hget]at hk
  split at hk
  ·rename_i hc;exact⟨hk,hc⟩
  ·cases hk
 have hclo: ∀ k e v,cO (h.map some) k=some e->e.c=some v-> ∀ j∈refs v,OID<=j/\j - OID<h.length:=by
  intro k e v hk hc j hj
  obtain⟨hk1,hk2,hk3⟩:=hin k e hk
  have hm:e∈h:=by
   have h5:cO (h.map some) k=(h.map some)[k - OID]?.join:=by
    unfold cO
    rw[if_neg (by omega)]
   rw[h5,List.getElem?_map]at hk
   cases h6:h[k - OID]? with
   |none=>rw[h6]at hk;cases hk
   |some y=>
    rw[h6]at hk
    have:y=e:=by simpa using hk
    rw[<-this]
    exact List.mem_of_getElem? h6
  rw[List.all_eq_true]at hcl
  have:=hcl e hm
  simp only[oG,List.all_eq_true,Bool.and_eq_true,decide_eq_true_eq]at this
  have:=this j (by unfold jV;rw[hc];exact hj)
  omega
 have hlv: ∀ k e v,cO (h.map some) k=some e->e.c=some v->aV (cO (h.map some)) v:=by
  intro k e v hk hc j hj
  rw[hget,if_pos (hclo k e v hk hc j hj)]
  exact R2.hp.nb k e v (hin k e hk).1 hc j hj
 refine⟨R2.df,rfl,ok',β',R2.bel,fun b hb=>R2.okb b hb,?_,fun i e hi hlive=>R2.own i e (hin i e hi).1 hlive,fun i e' hi hrow=>?_⟩
 ·have H':=R2.hp
  refine⟨fun i e hi=>H'.siz i e (hin i e hi).1,fun b i e hb hi=>H'.sep b i e hb (hin i e hi).1,fun i j e f hi hj=>H'.inj i j e f (hin i e hi).1 (hin j f hj).1,fun i e hi=>H'.box i e (hin i e hi).1,fun i e v hi h0 hc=>?_,
   fun i e hi=>H'.row i e (hin i e hi).1,fun i e v hi hc=>hlv i e v hi hc,fun i e hi=>H'.rc i e (hin i e hi).1⟩
  obtain⟨g1,val,g2,g3,g4⟩:=H'.con i e v (hin i e hi).1 h0 hc
  exact⟨g1,val,g2,g3,g4.tr (fun _ _=>rfl) (fun _ h=>h) (fun j _ f hf=>⟨f,(hin j f hf).1,Alike.refl _ _⟩)⟩
 ·obtain⟨hi1,hi2,hi3⟩:=hin i e' hi
  have hcond:(OID<=i/\e'.row=0)\/e'.row=3\/e'.row=4:=by
   rcases hrow with h0|h0
   ·exact .inl ⟨hi2,h0⟩
   ·exact .inr h0
  have hh2:=R2.hdr i e' hi1 hcond
  have hb2:bQ h i=h[i - OID]? :=by unfold bQ;rw[if_neg (by omega)]
  obtain⟨e,he⟩: ∃ e,bQ h i=some e:=⟨h[i - OID],by rw[hb2];simp[hi3]⟩
  simp only[he]at hh2
  exact⟨e,he,MW hh2.1 hh2.2⟩
theorem TP {f g:FuncId} {fn gn:Func} {args:List AV} {h:List Ent} {id0 id1 t:Nat} {ty4:TypeId} {ops0 ops1:Array Oper} {rest:Code} {pre:List Oper} {pos:String} {after:Array Edge} {dst:Option Nat} {tg:TypeId} {ats:Array TypeId} {u:TypeId} {pv:Value}
  (henv:EnvOK P env) (hf:FnOK P f fn) (hb:fn.body=some (.seq (.region id0 ops0 false) (.seq (.region id1 ops1 false) rest)))
  (hg:FnOK P g gn)
  (hpanic: ∀ w,Calls P g #[.bool false] w fun e w'=>e=.panicked [{v:=.iface u pv,recovered:=false }]/\w'=w)
  (hops:ops1.toList=pre++[{dst:=dst,op:=.call {callee:=.value (.func g),args:= #[.tmp t],argTypes:=ats },type:=tg,pos:=pos,after:=after,guard:=none }])
  (h4:P.underlying ty4=some .bool) (hcl:h.all (fun e=>oG h.length (jV e))=true)
  (hev:pY P env ops0 ops0.toList (ou fn args h) (fun s0=>pY P env ops1 pre s0 (fun s1=>some (s1.get t,Ef h.length s1)))=some (dat ty4 (.lit (.bool false)),h.map some)):ER P f args h u pv:=by
 obtain⟨s0,h0,hk⟩:=iq _ _ _ hev
 obtain⟨s1,h1,hk⟩:=iq _ _ _ hk
 simp only[Option.some.injEq,Prod.mk.injEq]at hk
 obtain⟨c0,hc0⟩:=Option.isSome_iff_exists.1 hg.2.1
 exact UV henv hf.1 hb hg.1 hc0 hg.2.2 hpanic h0 h1 hops hk.1 h4 hk.2 hcl
end
section
variable {P:Program} {w w' w2 w3 w4:World} {ok ok' okA:Nat->Prop} {β β':Nat->Nat×Nat}
theorem Ut {bx:Nat->Option Ent} {i:Nat} {t:TypeId} {e:Ent} (h:bx i=some e) (h0:e.row=0) (ht:e.ty=t):RepAV P w ok β bx (bxp i t) (.pointer (some ⟨(β i).1,0,none⟩)):=by
 have hix:(bxp i t).ix=0:=rfl
 refine⟨by simp[bxp],fun _ f hf _=>?_,fun _ f hf hn=>?_,by simp[bxp],by simp[bxp],by simp[bxp],by simp[bxp],by simp[bxp],by simp[bxp],by simp[bxp],by simp[bxp]⟩
 ·have hf:bx i=some f:=hf
  rw[h]at hf
  cases hf
  exact⟨rfl,fun _ _=>⟨rfl,ht⟩,fun k hk=>(by rw[hix]at hk;omega),fun hh=>absurd rfl hh⟩
 ·have hf:bx i=some f:=hf
  rw[h]at hf
  cases hf
  exact absurd h0 hn
theorem Di {bx:Nat->Option Ent} : ∀ (xs:List AV) (vs:List Value),xs.length=vs.length->(∀ k x,xs[k]? =some x->lY x=true/\RepAV P w ok β bx x (vs.getD k undef)/\aV bx x)->eG P w ok β bx xs vs
 | [],[],_,_=>trivial
 | [],_::_,h,_=>by simp at h
 |_::_,[],h,_=>by simp at h
 |x::xs,v::vs,h,hh=>by
  refine⟨?_,Di xs vs (by simpa using h) fun k y hy=>?_⟩
  ·obtain⟨h1,h2,h3⟩:=hh 0 x rfl
   exact⟨.inr h1,by simpa using h2,h3⟩
  ·obtain⟨h1,h2,h3⟩:=hh (k+1) y (by simpa using hy)
   exact⟨h1,by simpa using h2,h3⟩
theorem Yj {h:List Ent} {ids:List Nat} {b:List AV} {caps:Array Value} (hb:b.length=ids.length) (hcs:caps.size=ids.length)
  (hbi: ∀ (k i:Nat),ids[k]? =some i-> ∃ (t:TypeId) (e:Ent),b[k]? =some (bxp i t)/\bQ h i=some e/\e.row=0/\e.ty=t)
  (hc: ∀ (k i:Nat) (e:Ent),ids[k]? =some i->bQ h i=some e->e.row=0->caps[k]? =some (Value.pointer (some ⟨(β i).1,0,none⟩))):eG P w ok β (bQ h) b caps.toList:=by
 refine Di b caps.toList (by simp[hb,hcs]) fun k x hx=>?_
 have hk:k<ids.length:=by have:=(List.getElem?_eq_some_iff.1 hx).1;omega
 obtain⟨t,e,h1,h2,h3,h4⟩:=hbi k ids[k] (by simp[hk])
 rw[h1]at hx
 cases hx
 have h5:=hc k ids[k] e (by simp[hk]) h2 h3
 have h6:caps.toList.getD k undef=.pointer (some ⟨(β ids[k]).1,0,none⟩):=by
  rw[List.getD_eq_getElem?_getD,Array.getElem?_toList,h5]
  rfl
 refine⟨rfl,?_,fun j hj=>?_⟩
 ·rw[h6]
  exact Ut h2 h3 h4
 ·rw[bY rfl,List.mem_singleton]at hj
  have:j=ids[k]:=hj
  rw[this,h2]
  rfl
theorem HStay.wrap {h:List Ent} {h':List (Option Ent)} (H:HStay P h h' w2 okA β ok' β' w3) (hb:BelowX (fun _=>False) w.heap.size w w2) (h2:w2.heap.size=w.heap.size+2)
  (hok: ∀ b,okA b->b<w.heap.size) (hx: ∀ b,XOf β (bQ h) b->b<w.heap.size)
  (ho:w4.os=w3.os) (ht:w4.tape=w3.tape) (hu:w4.output=w3.output) (hs:w4.heap.size=w3.heap.size) (hk: ∀ k,k≠w.heap.size->k≠w.heap.size+1->w4.heap[k]? =w3.heap[k]?):
  HStay P h h' w okA β ok' β' w4/\ ∀ b,ok' b->w4.heap[b]? =w3.heap[b]? :=by
 obtain⟨g1,g2,g3,g4,g5⟩:=H
 have hb': ∀ b,ok' b->w4.heap[b]? =w3.heap[b]? :=by
  intro b hb
  obtain⟨_,h1|h1|h1⟩:=g2 b hb
  ·have:=hok b h1;exact hk b (by omega) (by omega)
  ·exact hk b (by omega) (by omega)
  ·have:=hx b h1;exact hk b (by omega) (by omega)
 have hown: ∀ i e,cO h' i=some e->e.live=true->w4.heap[(β' i).1]? =w3.heap[(β' i).1]? :=by
  intro i e hi hl
  rcases g4 i e hi hl with h1|h1
  ·exact hk _ (by omega) (by omega)
  ·have:=hx _ h1;exact hk _ (by omega) (by omega)
 refine⟨⟨⟨ho.trans (g1.os.trans hb.os),ht.trans (g1.tape.trans hb.tape),hu.trans (g1.output.trans hb.output),?_,fun k h1 h3=>?_⟩,fun b hb=>⟨?_,?_⟩,g3.still (by omega) hb' hown,fun i e hi hl=>?_,g5⟩,hb'⟩
 ·have:=g1.size;have:=hb.size;omega
 ·rw[hk k (by omega) (by omega),g1.block k (by omega) h3,hb.block k h1 (fun h=>h)]
 ·have:=(g2 b hb).1;omega
 ·rcases(g2 b hb).2 with h1|h1|h1
  ·exact .inl h1
  ·exact .inr (.inl (by omega))
  ·exact .inr (.inr h1)
 ·rcases g4 i e hi hl with h1|h1
  ·exact .inl (by omega)
  ·exact .inr h1
end
end Go.Ev
