/- Trees of functions, and lemmas. Nothing here is trusted. -/
import Derived.Test.YtpceahbengfjeaaGreatDoorZ10
namespace Go.Ev
open Go.RowKit
set_option linter.unusedVariables false
set_option linter.unusedSimpArgs false
section
section
variable {P:Program} {w w':World} {ok ok':Nat->Prop} {β:Nat->Nat×Nat} {ops:Array Oper}
variable {F:Fr P} {st st' s s':St} {a:Act} {env:Env} {o:Oper} {av:AV} {Q:Exit->Act->World->Prop}
def Same (o:Oper) (s s':St):Prop:= ∀ i,Operand.tmp i∈o.op.operands.toList->s.get i=s'.get i
theorem jm {x:Operand} (h:Same o s s') (hx:x∈o.op.operands.toList) (t:TypeId):opd P s t x=opd P s' t x:=by
 cases x with
 |tmp i=>exact h i hx
 |const v=>rfl
 |global g=>rfl
 |func f=>rfl
theorem jL: ∀ (xs:List Operand) (ts:List TypeId),(∀ x∈xs,∀ t,opd P s t x=opd P s' t x)->dU P s xs ts=dU P s' xs ts
 | [],[],_=>rfl
 | [],_::_,_=>rfl
 |_::_,[],_=>rfl
 |x::xs,t::ts,h=>by
  unfold dU
  rw[h x (by simp) t,jL xs ts (fun y hy=>h y (by simp[hy]))]
theorem ny {f:Nat->Option TypeId} : ∀ (ps:List (Nat×Operand)) (d:D),(∀ p∈ps,∀ t,opd P s t p.2=opd P s' t p.2)->partsOf P s f ps d=partsOf P s' f ps d
 | [],_,_=>rfl
 |(k,x)::ps,d,h=>by
  unfold partsOf
  cases f k with
  |none=>rfl
  |some t=>
   simp only
   rw[h (k,x) (by simp) t]
   split
   ·exact ny ps _ (fun y hy=>h y (by simp[hy]))
   ·rfl
theorem zq: ∀ (xs:List Operand),(∀ x∈xs,∀ t,opd P s t x=opd P s' t x)->nY P s xs=nY P s' xs
 | [],_=>rfl
 |x::xs,h=>by
  unfold nY
  rw[h x (by simp) 0,zq xs (fun y hy=>h y (by simp[hy]))]
def cu (env:Env):Prop:=env.hp=false/\(∀ f,env.f f=none)/\(∀ f,env.h f=none)/\ ∀ f,env.g f=none
theorem iX (env:Env):cu env.plain:=⟨rfl,fun _=>rfl,fun _=>rfl,fun _=>rfl⟩
theorem iL (h:cu env) (d:Option Nat):PH env d=false:=by unfold PH;rw[h.1];rfl
theorem fJ {c:Call} (h:cu env):mr P env st c=none:=by
 unfold mr
 split
 ·split
  ·exact h.2.2.1 _
  ·rfl
 ·rfl
theorem kL {c:Call} (h:cu env):mD env c=none:=by
 unfold mD
 split
 ·exact h.2.1 _
 ·rfl
theorem jr {c:Call} (h:cu env):kT env c=none:=by
 unfold kT
 split
 ·exact h.2.2.2 _
 ·rfl
theorem uz {c:Call} (h:Same o s s') (hop:o.op=.call c):gW s c=gW s' c:=by
 unfold gW
 cases hcal:c.callee with
 |builtin b=>rfl
 |invoke r m=>rfl
 |value g=>
  cases g with
  |tmp i=>
   have:=h i (by simp[hop,Op.operands,Call.operands,hcal])
   simp only[this]
  |const v=>rfl
  |global g=>rfl
  |func f=>rfl
theorem Hr {c:Call} {i:Nat} (h:Same o s s') (hop:o.op=.call c) (hro:gW s' c=some i):s.get i=s'.get i:=by
 obtain⟨hcal,_⟩:=nP hro
 exact h i (by simp[hop,Op.operands,Call.operands,hcal])
theorem Hu (h:s.bx=s'.bx) (all:List Nat): ∀ ids,lN s all ids=lN s' all ids
 | []=>rfl
 |i::l=>by simp only[lN,h,Hu h all l]
theorem Ja (h:s.bx=s'.bx) (ids:List Nat):vg s ids=vg s' ids:=Hu h ids ids
theorem Ea {i:Nat} {e:Ent} (hi:st.bx i=none) (all:List Nat): ∀ (ids:List Nat),(∀ j∈ids,(st.bx j).isSome=true)->lN (st.upd i e) all ids=lN st all ids
 | [],_=>rfl
 |j::l,h=>by
  have hne:j≠i:=fun hh=>by have:=h j (by simp);rw[hh,hi]at this;cases this
  simp only[lN]
  rw[aW,if_neg hne,Ea hi all l (fun q hq=>h q (by simp[hq]))]
theorem GK {i:Nat} {e:Ent} (hi:st.bx i=none) (ids:List Nat) (h: ∀ j∈ids,(st.bx j).isSome=true):vg (st.upd i e) ids=vg st ids:=Ea hi ids ids h
theorem dM (h:Same o s s'):eQ P env o s=eQ P env o s':=by
 have key:=fun t x hx=>jm (P:=P) (x:=x) h hx t
 unfold eQ aJ
 cases hop:o.op<;>simp only[hop,Op.operands]at key⊢ <;>try rfl
 case move x=>rw[key _ x (by simp)]
 case assign x=>rw[key _ x (by simp)]
 case pick c x y=>rw[key _ c (by simp),key _ x (by simp),key _ y (by simp)]
 case binOp op t x y yt=>rw[key _ x (by simp),key _ y (by simp)]
 case convert a b x=>rw[key _ x (by simp)]
 case slice t x lo hi mx=>
  have hlo: ∀ y,lo=some y-> ∀ t,opd P s t y=opd P s' t y:=fun y hy t=>key t y (by subst hy;simp)
  have hhi: ∀ y,hi=some y-> ∀ t,opd P s t y=opd P s' t y:=fun y hy t=>key t y (by subst hy;simp)
  have e1:gJ P s lo=gJ P s' lo:=by cases lo with|none=>rfl|some y=>simp only[gJ,hlo y rfl]
  have e2:gJ P s hi=gJ P s' hi:=by cases hi with|none=>rfl|some y=>simp only[gJ,hhi y rfl]
  have e3:oL P s lo=oL P s' lo:=by cases lo with|none=>rfl|some y=>simp only[oL,hlo y rfl]
  have e4:iP P s x o.type hi=iP P s' x o.type hi:=by
   cases hi with
   |none=>simp only[iP];rw[key _ x (by simp)]
   |some y=>simp only[iP,hhi y rfl]
  rw[key _ x (by simp),e1,e2,e3,e4]
 case unOp op t x => cases op<;>simp only<;>try rfl
                     all_goals rw[key _ x (by simp)]
 case field t x k=>rw[key _ x (by simp)]
 case indexAddr t x i=>rw[key _ x (by simp),key _ i (by simp)]
 case extract x k=>rw[key _ x (by simp)]
 case build t ps=>
  have: ∀ p∈ps.toList,∀ t,opd P s t p.2=opd P s' t p.2:=fun p hp t=>key t p.2 (by simpa using⟨p.1,by simpa using hp⟩)
  split
  ·split
   ·split
    ·rw[ny _ _ this]
    ·rfl
   ·rfl
  ·split
   ·split
    ·rw[ny _ _ this]
    ·rfl
   ·rfl
  ·rfl
 case index t x i=>rw[key _ x (by simp),key _ i (by simp)]
 case makeFunc fn first caps=>
  cases fn<;>simp only<;>try rfl
  split
  ·rw[zq caps.toList (fun x hx t=>key t x (by simp only[Array.toList_append,List.mem_append];exact .inr hx))]
  ·rename_i x hfl
   rw[key _ x (by simp only[Array.toList_append,List.mem_append];exact .inl (by rw[hfl];simp))]
  ·rfl
 case buildSlice t len ps=>
  have: ∀ p∈ps.toList,∀ t,opd P s t p.2=opd P s' t p.2:=fun p hp t=>key t p.2 (by simpa using⟨p.1,by simpa using hp⟩)
  split
  ·split
   ·split
    ·rfl
    ·split
     ·rw[ny _ _ this]
     ·rfl
   ·rfl
  ·rfl
 case call c=>
  have hargs: ∀ x∈c.args.toList,∀ t,opd P s t x=opd P s' t x:=fun x hx t=>key t x (by
   simp only[Call.operands,Array.toList_append,List.mem_append];exact .inr hx)
  cases hcal:c.callee with
  |builtin b=>
   simp only
   unfold xg
   split
   ·rename_i hb hx ht
    rw[hx]at hargs
    split
    ·rw[hargs _ (by simp)]
    ·rw[hargs _ (by simp)]
    ·rfl
   ·rfl
  |invoke r m=>
   simp only[fK]
  |value g=>
   simp only
   have hcal':fK P s (.value g)=fK P s' (.value g):=by
    cases g with
    |tmp i=>
     have:=h i (by simp[hop,Op.operands,Call.operands,hcal])
     simp only[fK,this]
    |const v=>rfl
    |global g=>rfl
    |func f=>rfl
   have hbo:oC P s (.value g)=oC P s' (.value g):=by
    cases g with
    |tmp i=>
     have:=h i (by simp[hop,Op.operands,Call.operands,hcal])
     simp only[oC,this]
    |const v=>rfl
    |global g=>rfl
    |func f=>rfl
   rw[hcal',hbo,jL _ _ hargs]
theorem Zn {c:Call} (h:(dW c).isSome=true):jO c=none:=by
 unfold dW at h
 unfold jO
 split at h
 ·rename_i h1 h2 h3
  rw[h1,h2,h3]
 ·cases h
theorem wI {c:Call} (h:aF (.call c)<=3):jO c=none:=by
 cases hn:(dW c).isSome with
 |true=>exact Zn hn
 |false=>
  cases ha:jO c with
  |none=>rfl
  |some x=>simp[aF,ha,hn]at h
theorem not_nil {c:Call} (h:aF (.call c)<=1):dW c=none:=by
 cases hn:dW c with
 |none=>rfl
 |some x=>simp[aF,hn]at h
theorem Y6 {c:Call} (h:aF (.call c)=2): ∃ x t,dW c=some (x,t):=by
 cases hn:dW c with
 |some x=>exact⟨x.1,x.2,rfl⟩
 |none=>
  exfalso
  simp only[aF,hn]at h
  cases ha:(jO c).isSome<;>cases hl:(lenOf c).isSome<;>cases ht:fG c<;>simp[ha,hl,ht]at h
theorem Eb {c:Call} (h:aF (.call c)=0):gW st c=none:=by
 have ht:fG c=false:=by
  unfold aF at h
  cases hn:(dW c).isSome<;>cases ha:(jO c).isSome<;>cases hl:(lenOf c).isSome<;>cases ht:fG c<;>simp[hn,ha,hl,ht]at h⊢
 unfold gW
 unfold fG at ht
 split
 ·rename_i i hc
  rw[hc]at ht
  cases ht
 ·rfl
theorem Dq {i:Nat} {t:TypeId} (h:s.get i=s'.get i) (hb:s.bx=s'.bx):rowOf s i t=rowOf s' i t:=by unfold rowOf;rw[h,hb]
theorem yz {x:Operand} {t:TypeId} (h: ∀ i,x=.tmp i->s.get i=s'.get i) (hb:s.bx=s'.bx):og s x t=og s' x t:=by
 unfold og
 split
 ·rename_i i;exact Dq (h i rfl) hb
 ·rfl
theorem QT {c:Call} {i:Nat} {t:TypeId} (h:lenOf c=some (i,t)):c.args.toList=[.tmp i]:=by
 unfold lenOf at h
 split at h
 ·rename_i ha _;cases h;exact ha
 ·cases h
theorem Lp {c:Call} (h: ∀ i,Operand.tmp i∈c.args.toList->s.get i=s'.get i) (hb:s.bx=s'.bx):lenRow s c=lenRow s' c:=by
 unfold lenRow
 split
 ·rename_i i t hl
  exact Dq (h i (by rw[QT hl];simp)) hb
 ·rfl
theorem DJ {c:Call} (h:aF (.call c)=0):lenRow st c=none:=by
 unfold lenRow
 cases hl:lenOf c with
 |none=>rfl
 |some x=>
  exfalso
  unfold aF at h
  cases hn:(dW c).isSome<;>cases ha:(jO c).isSome<;>simp[hn,ha,hl]at h
theorem Jg {i j:Nat} {e:Ent} {t:TypeId} (hi:st.bx i=none) (hn:ND st):rowOf (st.upd i e) j t=rowOf st j t:=by
 unfold rowOf
 rw[RH]
 by_cases ht:(st.get j).tag=2
 ·have hne:(st.get j).id≠i:=fun hh=>by
   have:=hn j (st.get j).id (by rw[bY ht];exact List.mem_singleton.2 rfl)
   rw[hh,hi]at this
   cases this
  rw[aW,if_neg hne]
 ·have:((st.get j).tag==2)=false:=by simpa using ht
  rw[this]
  rfl
theorem GL {i:Nat} {x:Operand} {e:Ent} {t:TypeId} (hi:st.bx i=none) (hn:ND st):og (st.upd i e) x t=og st x t:=by
 unfold og
 split
 ·exact Jg hi hn
 ·rfl
theorem PX {i:Nat} {c:Call} {e:Ent} (hi:st.bx i=none) (hn:ND st):lenRow (st.upd i e) c=lenRow st c:=by
 unfold lenRow
 split
 ·exact Jg hi hn
 ·rfl
def V8:Op->Option (TypeId×Operand)
 | .indexAddr t x _=>some (t,x)
 | .slice t x _ _ _=>some (t,x)
 |_=>none
theorem Um {op:Op} {t:TypeId} {x:Operand} (h:V8 op=some (t,x)):x∈op.operands.toList:=by
 unfold V8 at h
 split at h
 ·cases h;simp[Op.operands]
 ·cases h;simp[Op.operands]
 ·cases h
theorem rq (hpl:cu env) (hm:aF o.op<=3) (h:Same o s s') (hb:aF o.op=1-> ∀ t x,V8 o.op=some (t,x)->og s x t=og s' x t)
  (hre:aF o.op=1-> ∀ c i,o.op=.call c->gW s' c=some i->vg s (s'.get i).tys=vg s' (s'.get i).tys):aT P env s o=aT P env s' o:=by
 have key:=fun t x hx=>jm (P:=P) (x:=x) h hx t
 unfold aT
 cases hop:o.op<;>simp only[hop,Op.operands]at key⊢ <;>try rfl
 case binOp op t x y yt => cases op<;>simp only<;>try rfl
                           case add=>rw[key _ x (by simp),key _ y (by simp)]
                           all_goals rw[key _ y (by simp)]
 case indexAddr t x i=>
  rw[hb (by rw[hop];rfl) t x (by rw[hop];rfl),key _ x (by simp),key _ i (by simp)]
 case index t x i=>rw[key _ i (by simp),key _ x (by simp)]
 case makeSlice t x y=>rw[key _ x (by simp),key _ y (by simp)]
 case slice t x lo hi mx=>
  have hlo: ∀ y,lo=some y-> ∀ t,opd P s t y=opd P s' t y:=fun y hy t=>key t y (by subst hy;simp)
  have hhi: ∀ y,hi=some y-> ∀ t,opd P s t y=opd P s' t y:=fun y hy t=>key t y (by subst hy;simp)
  have e3:oL P s lo=oL P s' lo:=by cases lo with|none=>rfl|some y=>simp only[oL,hlo y rfl]
  have e4:iP P s x o.type hi=iP P s' x o.type hi:=by
   cases hi with
   |none=>simp only[iP];rw[key _ x (by simp)]
   |some y=>simp only[iP,hhi y rfl]
  rw[hb (by rw[hop];rfl) t x (by rw[hop];rfl),key _ x (by simp),e3,e4]
 case call c=>
  have hargs: ∀ x∈c.args.toList,∀ t,opd P s t x=opd P s' t x:=fun x hx t=>key t x (by
   simp only[Call.operands,Array.toList_append,List.mem_append];exact .inr hx)
  have hcal':fK P s c.callee=fK P s' c.callee:=by
   cases hcal:c.callee with
   |builtin b=>rfl
   |invoke r m=>rfl
   |value g=>
    cases g with
    |tmp i=>
     have:=h i (by simp[hop,Op.operands,Call.operands,hcal])
     simp only[fK,this]
    |const v=>rfl
    |global g=>rfl
    |func f=>rfl
  have hbo:oC P s c.callee=oC P s' c.callee:=by
   cases hcal:c.callee with
   |builtin b=>rfl
   |invoke r m=>rfl
   |value g=>
    cases g with
    |tmp i=>
     have:=h i (by simp[hop,Op.operands,Call.operands,hcal])
     simp only[oC,this]
    |const v=>rfl
    |global g=>rfl
    |func f=>rfl
  rw[hop]at hm
  cases hn:dW c with
  |some q=>
   obtain⟨y,t⟩:=q
   simp only
   have hy:y∈c.args.toList:=by rw[rD hn];simp
   rw[hargs y hy]
  |none=>
   simp only
   rw[hcal',hbo,jL _ _ hargs,wI hm,fJ hpl,fJ hpl,kL hpl,jr hpl,uz h hop]
   cases hro:gW s' c with
   |none=>rfl
   |some i=>
    have h1:aF (.call c)=1:=by
     have ht:fG c=true:=by unfold fG;rw[(nP hro).1]
     have ha:=wI hm
     unfold aF
     cases hl:(lenOf c).isSome<;>simp[hn,ha,hl,ht]
    simp only
    rw[Hr h hop hro,hre (by rw[hop];exact h1) c i hop hro]
theorem jh {d:Option Nat} {x:AV} {i:Nat} (h:d≠some i):(st.put d x).get i=st.get i:=by
 rw[get_put,if_neg (fun hh=>h hh.1)]
theorem put_comm {d e:Option Nat} {x y:AV} (h: ∀ i,d=some i->e≠some i):(st.put d x).put e y=(st.put e y).put d x:=by
 cases d with
 |none=>rfl
 |some d=>
  cases e with
  |none=>rfl
  |some e=>
   have:d≠e:=fun hh=>h d rfl (by rw[hh])
   simp only[St.put]
   rw[List.set_comm _ _ this]
theorem aY {d:Option Nat} {x:AV} {i:Nat} {e:Ent} :(st.put d x).upd i e=(st.upd i e).put d x:=by cases d<;>rfl
theorem qo {d i:Nat} {e f:Ent} (h:d≠i):(st.upd i e).upd d f=(st.upd d f).upd i e:=by
 simp only[St.upd,St.mk.injEq,true_and]
 funext j
 by_cases h1:j=d
 ·subst h1;simp[h]
 ·simp[h1]
theorem NU {j d:Nat} {want:Bool} (hg:o.guard=some (j,want)) (hd:(ops[j]?).bind (·.dst)=some d):d∈o.looksAt ops:=by
 unfold Oper.looksAt
 rw[hg]
 simp[hd]
theorem ni {i:Nat} (h:Operand.tmp i∈o.op.operands.toList):i∈o.looksAt ops:=by
 unfold Oper.looksAt
 exact List.mem_append_left _ (List.mem_filterMap.2 ⟨.tmp i,h,rfl⟩)
theorem nS {d:Option Nat} {x:AV} (h: ∀ i,d=some i->i∉o.looksAt ops):Same o (st.put d x) st:=by
 intro i hi
 exact jh (fun hd=>h i hd (ni hi))
theorem jo {i:Nat} {e:Ent} :Same o (st.upd i e) st:=fun _ _=>rfl
theorem Same.trans {s1 s2 s3:St} (h:Same o s1 s2) (k:Same o s2 s3):Same o s1 s3:=fun i hi=>(h i hi).trans (k i hi)
theorem NF {d:Option Nat} {x:AV} {j:Nat} {want:Bool} (hg:o.guard=some (j,want)) (h: ∀ i,d=some i->i∉o.looksAt ops):guardOf P ops (st.put d x) j want=guardOf P ops st j want:=by
 unfold guardOf
 cases hd:(ops[j]?).bind (·.dst)with
 |none=>rfl
 |some g=>
  simp only
  rw[jh (fun hh=>h g hh (NU hg hd))]
theorem qg (hpl:cu env) (hm:aF o.op<=1) (h:dh P env o s=some s'): ∃ v,s'=s.put o.dst v:=by
 unfold dh at h
 cases hop:o.op<;>simp only[iL hpl,Bool.false_eq_true,if_false,hop]at h hm<;>try (simp[aF]at hm;done)
 case load t x=>
  simp only[hpl.1,Bool.false_eq_true,if_false]at h
  obtain⟨d,_,rfl⟩:=Option.map_eq_some_iff.1 h;exact⟨_,rfl⟩
 case fieldAddr t x k=>
  split at h
  ·split at h
   ·cases h;exact⟨_,rfl⟩
   ·split at h
    ·cases h;exact⟨_,rfl⟩
    ·split at h
     ·cases h;exact⟨_,rfl⟩
     ·cases h
  ·cases h
 case assign x=>
  split at h
  ·rename_i hn
   simp[aF,hn]at hm
  ·obtain⟨v,_,rfl⟩:=Option.map_eq_some_iff.1 h;exact⟨_,rfl⟩
 case call c=>
  rw[not_nil hm,wI (Nat.le_trans hm (by decide)),fJ hpl,kL hpl,jr hpl]at h
  simp only[Option.isSome_none,Bool.false_eq_true,if_false]at h
  split at h
  ·obtain⟨v,_,rfl⟩:=Option.map_eq_some_iff.1 h;exact⟨_,rfl⟩
  ·split at h
   ·unfold xU at h
    split at h
    ·split at h
     ·split at h
      ·obtain⟨v,_,rfl⟩:=Option.map_eq_some_iff.1 h;exact⟨_,rfl⟩
      ·cases h
     ·cases h
    ·cases h
   ·obtain⟨v,_,rfl⟩:=Option.map_eq_some_iff.1 h;exact⟨_,rfl⟩
 case indexAddr t x i=>
  split at h
  ·split at h
   ·split at h
    ·cases h;exact⟨_,rfl⟩
    ·cases h
   ·cases h
  ·split at h
   ·split at h
    ·cases h;exact⟨_,rfl⟩
    ·obtain⟨v,_,rfl⟩:=Option.map_eq_some_iff.1 h;exact⟨_,rfl⟩
   ·obtain⟨v,_,rfl⟩:=Option.map_eq_some_iff.1 h;exact⟨_,rfl⟩
 case slice t x lo hi mx=>
  split at h
  ·split at h
   ·cases h;exact⟨_,rfl⟩
   ·cases h
  ·obtain⟨v,_,rfl⟩:=Option.map_eq_some_iff.1 h;exact⟨_,rfl⟩
 all_goals (obtain⟨v,_,rfl⟩:=Option.map_eq_some_iff.1 h;exact⟨_,rfl⟩)
theorem xk {d:Option Nat} {x:AV} (h: ∀ i,d=some i->i∉o.looksAt ops):asked P ops o (st.put d x)=asked P ops o st:=by
 unfold asked
 cases hg:o.guard with
 |none=>rfl
 |some g=>obtain⟨j,want⟩:=g;exact NF hg h
theorem wR {i:Nat} {e:Ent} :asked P ops o (st.upd i e)=asked P ops o st:=rfl
theorem Zr {d:Option Nat} {x y:AV} {t:TypeId} :ldA P (st.put d x) t y=ldA P st t y:=by unfold ldA;rw[bU]
theorem Wi {d:Option Nat} {x y:AV} {t:TypeId} :xq (st.put d x) t y=xq st t y:=by unfold xq;rw[bU]
theorem Rj {d:Option Nat} {x y:AV} {t:TypeId} :ldV P (st.put d x) t y=ldV P st t y:=by unfold ldV;rw[Wi,Zr]
theorem Zh {d:Option Nat} {x y z:AV} {t:TypeId} :stC P (st.put d x) t y z=(stC P st t y z).map fun s=>s.put d x:=by
 unfold stC
 rw[bU]
 split
 ·split
  ·split
   ·simp only[Option.map_some,aY]
   ·rfl
  ·rfl
 ·rfl
theorem Zq {d:Option Nat} {x y:AV} {t:TypeId} {z:D} :stA P (st.put d x) t y z=(stA P st t y z).map fun s=>s.put d x:=by
 unfold stA
 rw[bU]
 split
 ·split
  ·split
   ·split
    ·split
     ·split
      ·simp only[Option.map_some,aY]
      ·rfl
     ·split
      ·rfl
      ·split
       ·split
        ·simp only[Option.map_some,aY]
        ·rfl
       ·rfl
    ·split
     ·simp only[Option.map_some,aY]
     ·rfl
   ·split
    ·cases stE P _ t y z with
     |none=>rfl
     |some e'=>simp only[Option.map_some,aY]
    ·rfl
  ·rfl
 ·rfl
theorem WX (hpl:cu env) {d:Option Nat} {x:AV} (hm:aF o.op<=3) (hl: ∀ i,d=some i->i∉o.looksAt ops) (hd: ∀ i,d=some i->o.dst≠some i):
  dh P env o (st.put d x)=(dh P env o st).map fun s=>s.put d x:=by
 have hs:Same o (st.put d x) st:=nS hl
 have key:=fun t x hx=>jm (P:=P) (x:=x) hs hx t
 unfold dh aJ
 cases hop:o.op<;>simp only[iL hpl,Bool.false_eq_true,if_false,hop,Op.operands]at key⊢
 case load t y=>
  simp only[hpl.1,Bool.false_eq_true,if_false]
  rw[key _ y (by simp),Rj]
  cases ldV P st t (opd P st o.type y)with
  |none=>rfl
  |some r=>simp only[Option.map_some,Option.some.injEq];exact put_comm hd
 case store t y z=>
  simp only[hpl.1,Bool.false_eq_true,if_false]
  rw[key _ y (by simp),key _ z (by simp)]
  split
  ·split
   ·exact Zq
   ·exact Zh
  ·rfl
 case fieldAddr t y k=>
  have hib:ed (st.put d x)=ed st:=by funext j;unfold ed;rw[bU]
  have hir:mM (st.put d x)=mM st:=by funext j;unfold mM;rw[bU]
  rw[key _ y (by simp),hib,hir]
  split
  ·split
   ·simp only[Option.map_some,Option.some.injEq];exact put_comm hd
   ·split
    ·simp only[Option.map_some,Option.some.injEq];exact put_comm hd
    ·split
     ·simp only[Option.map_some,Option.some.injEq];exact put_comm hd
     ·rfl
  ·rfl
 case alloc t=>
  rw[bU,hpl.1]
  simp only[Bool.false_and,Bool.false_eq_true,if_false]
  split
  ·rename_i dd z hdd hz
   split
   ·simp only[Option.map_some,Option.some.injEq,aY]
    rw[hdd]at hd
    exact put_comm hd
   ·rfl
  ·rfl
 case box t y=>
  rw[bU,key _ y (by simp)]
  split
  ·rename_i dd hdd
   rw[hdd]at hd
   split
   ·split
    ·simp only[Option.map_some,Option.some.injEq,aY]
     exact put_comm hd
    ·split
     ·simp only[Option.map_some,Option.some.injEq,aY]
      exact put_comm hd
     ·rfl
   ·rfl
  ·rfl
 case makeSlice t y z=>
  rw[bU,key _ y (by simp),key _ z (by simp)]
  split
  ·rename_i dd el hdd hso
   rw[hdd]at hd
   split
   ·split
    ·simp only[Option.map_some,Option.some.injEq,aY]
     exact put_comm hd
    ·rfl
   ·rfl
  ·rfl
 case assign y=>
  split
  ·unfold nilRow
   rw[bU]
   split
   ·rename_i dd z hdd hz
    split
    ·simp only[Option.map_some,Option.some.injEq,aY]
     rw[hdd]at hd
     exact put_comm hd
    ·rfl
   ·rfl
  ·rw[dM hs]
   cases eQ P env o st with
   |none=>rfl
   |some r=>simp only[Option.map_some,Option.some.injEq];exact put_comm hd
 case call c=>
  rw[hop]at hm
  have hlr:lenRow (st.put d x) c=lenRow st c:=Lp (fun i hi=>hs i (by simp only[hop,Op.operands,Call.operands,Array.toList_append,List.mem_append];exact .inr hi)) bU
  cases hn:dW c with
  |some q=>
   obtain⟨y,t⟩:=q
   simp only
   unfold vR
   have hy:y∈c.args.toList:=by rw[rD hn];simp
   rw[bU,key _ y (by simp only[Call.operands,Array.toList_append,List.mem_append];exact .inr hy)]
   split
   ·rename_i dd z hdd hz
    split
    ·simp only[Option.map_some,Option.some.injEq,aY]
     rw[hdd]at hd
     exact put_comm hd
    ·rfl
   ·rfl
  |none=>
   simp only
   rw[wI hm,dM hs,hlr,fJ hpl,fJ hpl,kL hpl,jr hpl,uz hs hop]
   simp only[Option.isSome_none,Bool.false_eq_true,if_false]
   split
   ·cases mf P (mi P o P.rt.int) .i64 _ with
    |none=>rfl
    |some r=>simp only[Option.map_some,Option.some.injEq];exact put_comm hd
   ·cases hro:gW st c with
    |some i=>
     simp only
     unfold xU
     rw[Hr hs hop hro,jL c.args.toList c.argTypes.toList (fun y hy t=>key t y (by simp only[Call.operands,Array.toList_append,List.mem_append];exact .inr hy)),Ja (s:=st.put d x) (s':=st) bU]
     split
     ·split
      ·rename_i t0 q0 F0 as0 es0 h1 h2 h3
       split
       ·cases F0 (as0.map vX++pG 0 es0) es0 with
        |none=>rfl
        |some r=>simp only[Option.map_some,Option.some.injEq];exact put_comm hd
       ·rfl
      ·rfl
     ·rfl
    |none=>
     simp only
     cases eQ P env o st with
     |none=>rfl
     |some r=>simp only[Option.map_some,Option.some.injEq];exact put_comm hd
 case indexAddr t y i=>
  have hrx:og (st.put d x) y t=og st y t:=yz (fun j hj=>hs j (by rw[hop,Op.operands,<-hj];simp)) bU
  have hib:ed (st.put d x)=ed st:=by funext j;unfold ed;rw[bU]
  rw[hrx,key _ y (by simp),key _ i (by simp),key _ y (by simp),dM hs,hib]
  split
  ·split
   ·split
    ·simp only[Option.map_some,Option.some.injEq];exact put_comm hd
    ·rfl
   ·rfl
  ·split
   ·split
    ·simp only[Option.map_some,Option.some.injEq];exact put_comm hd
    ·cases eQ P env o st with
     |none=>rfl
     |some r=>simp only[Option.map_some,Option.some.injEq];exact put_comm hd
   ·cases eQ P env o st with
    |none=>rfl
    |some r=>simp only[Option.map_some,Option.some.injEq];exact put_comm hd
 case slice t y lo hi mx=>
  have hrx:og (st.put d x) y t=og st y t:=yz (fun j hj=>hs j (by rw[hop,Op.operands,<-hj];simp)) bU
  have hhi: ∀ z,hi=some z-> ∀ t,opd P (st.put d x) t z=opd P st t z:=fun z hz t=>key t z (by subst hz;simp)
  have e2:gJ P (st.put d x) hi=gJ P st hi:=by cases hi with|none=>rfl|some z=>simp only[gJ,hhi z rfl]
  have e4:iP P (st.put d x) y o.type hi=iP P st y o.type hi:=by
   cases hi with
   |none=>simp only[iP];rw[key _ y (by simp)]
   |some z=>simp only[iP,hhi z rfl]
  rw[hrx,dM hs,e2,e4,key _ y (by simp)]
  split
  ·split
   ·simp only[Option.map_some,Option.some.injEq];exact put_comm hd
   ·rfl
  ·cases eQ P env o st with
   |none=>rfl
   |some r=>simp only[Option.map_some,Option.some.injEq];exact put_comm hd
 case range t y=>rw[hop]at hm;simp[aF]at hm
 case next y b=>rw[hop]at hm;simp[aF]at hm
 all_goals
  rw[dM hs]
  cases eQ P env o st with
  |none=>rfl
  |some r=>simp only[Option.map_some,Option.some.injEq];exact put_comm hd
theorem gK (hpl:cu env) {d:Option Nat} {x:AV} (hm:aF o.op<=3) (hl: ∀ i,d=some i->i∉o.looksAt ops) (hd: ∀ i,d=some i->o.dst≠some i):
  aP P env ops o (st.put d x)=(aP P env ops o st).map fun s=>s.put d x:=by
 unfold aP
 rw[xk hl,rq hpl hm (nS hl) (fun _ t y hro=>yz (fun j hj=>nS hl j (by rw[<-hj];exact Um hro)) bU) (fun _ c i _ _=>Ja bU _)]
 split
 ·split
  ·exact WX hpl hm hl hd
  ·rfl
 ·simp only[Option.map_some,Option.some.injEq];exact put_comm hd
 ·rfl
theorem U0 (hpl:cu env) {i:Nat} {e:Ent} (hm:aF o.op=0):dh P env o (st.upd i e)=(dh P env o st).map fun s=>s.upd i e:=by
 unfold dh
 cases hop:o.op<;>simp only[iL hpl,Bool.false_eq_true,if_false,hop]at hm⊢ <;>try (simp[aF]at hm;done)
 case assign y=>
  split
  ·rename_i hn
   simp[aF,hn]at hm
  ·rw[dM (jo (st:=st) (i:=i) (e:=e))]
   cases eQ P env o st with
   |none=>rfl
   |some r=>simp only[Option.map_some,aY]
 case call c=>
  rw[not_nil (by omega),wI (by omega),DJ hm,DJ hm,fJ hpl,fJ hpl,kL hpl,jr hpl,Eb hm,Eb hm,dM (jo (st:=st) (i:=i) (e:=e))]
  simp only[Option.isSome_none,Bool.false_eq_true,if_false]
  cases eQ P env o st with
  |none=>rfl
  |some r=>simp only[Option.map_some,aY]
 all_goals
  rw[dM (jo (st:=st) (i:=i) (e:=e))]
  cases eQ P env o st with
  |none=>rfl
  |some r=>simp only[Option.map_some,aY]
theorem je {i:Nat} {e:Ent} (t:TypeId) (x:Operand):opd P (st.upd i e) t x=opd P st t x:=by cases x<;>rfl
theorem Zi {i:Nat} {e:Ent} {t:TypeId} {x:AV} (hi:st.bx i=none) (hx:aV st.bx x):ldA P (st.upd i e) t x=ldA P st t x:=by
 unfold ldA
 split
 ·rename_i ht
  have hne:x.id≠i:=fun hh=>by
   have:=hx x.id (by rw[bY ht];exact List.mem_singleton.2 rfl)
   rw[hh,hi]at this
   cases this
  rw[aW,if_neg hne]
 ·rfl
theorem Xy {i:Nat} {e:Ent} {t:TypeId} {x:AV} (hi:st.bx i=none) (hx:aV st.bx x):xq (st.upd i e) t x=xq st t x:=by
 unfold xq
 split
 ·rename_i ht
  simp only[Bool.and_eq_true,beq_iff_eq]at ht
  have hne:x.id≠i:=fun hh=>by
   have:=hx x.id (by rw[bY ht.1.1];exact List.mem_singleton.2 rfl)
   rw[hh,hi]at this
   cases this
  rw[aW,if_neg hne]
 ·rfl
theorem Zk {i:Nat} {e:Ent} {t:TypeId} {x:AV} (hi:st.bx i=none) (hx:aV st.bx x):ldV P (st.upd i e) t x=ldV P st t x:=by
 unfold ldV
 rw[Xy hi hx,Zi hi hx]
theorem Ul (hpl:cu env) {i:Nat} {e:Ent} (hm:aF o.op<=2) (hi:st.bx i=none) (hn:ND st) (hd:o.dst≠some i):dh P env o (st.upd i e)=(dh P env o st).map fun s=>s.upd i e:=by
 have hi_:=hi
 unfold dh aJ
 cases hop:o.op<;>simp only[iL hpl,Bool.false_eq_true,if_false,hop]at hm⊢ <;>try (simp[aF]at hm;done)
 case load t x=>
  simp only[hpl.1,Bool.false_eq_true,if_false]
  rw[je,Zk hi (fM hn _ _)]
  cases ldV P st t (opd P st o.type x)with
  |none=>rfl
  |some r=>simp only[Option.map_some,aY]
 case fieldAddr t y k=>
  rw[je]
  have hlive:=fM (P:=P) hn o.type y
  split
  ·by_cases ht:(opd P st o.type y).tag=2
   ·have hne:(opd P st o.type y).id≠i:=fun hh=>by
     have:=hlive (opd P st o.type y).id (by rw[bY ht];exact List.mem_singleton.2 rfl)
     rw[hh,hi]at this
     cases this
    have hib:ed (st.upd i e) (opd P st o.type y).id=ed st (opd P st o.type y).id:=by unfold ed;rw[aW,if_neg hne]
    have hir:mM (st.upd i e) (opd P st o.type y).id=mM st (opd P st o.type y).id:=by unfold mM;rw[aW,if_neg hne]
    rw[hib,hir]
    split
    ·simp only[Option.map_some,aY]
    ·split
     ·simp only[Option.map_some,aY]
     ·split
      ·simp only[Option.map_some,aY]
      ·rfl
   ·have ht':((opd P st o.type y).tag==2)=false:=by simpa using ht
    simp only[ht',Bool.false_and,Bool.false_eq_true,if_false]
    split
    ·simp only[Option.map_some,aY]
    ·rfl
  ·rfl
 case alloc t=>
  rw[hpl.1]
  simp only[Bool.false_and,Bool.false_eq_true,if_false]
  split
  ·rename_i d z hdd hz
   have hne:d≠i:=fun hh=>hd (by rw[hdd,hh])
   rw[aW,if_neg hne]
   split
   ·simp only[Option.map_some,Option.some.injEq,aY,qo hne]
   ·rfl
  ·rfl
 case box t y=>
  rw[je]
  split
  ·rename_i d hdd
   have hne:d≠i:=fun hh=>hd (by rw[hdd,hh])
   rw[aW,if_neg hne]
   split
   ·split
    ·simp only[Option.map_some,Option.some.injEq,aY,qo hne]
    ·split
     ·simp only[Option.map_some,Option.some.injEq,aY,qo hne]
     ·rfl
   ·rfl
  ·rfl
 case makeSlice t y z=>
  rw[je,je]
  split
  ·rename_i d el hdd hso
   have hne:d≠i:=fun hh=>hd (by rw[hdd,hh])
   rw[aW,if_neg hne]
   split
   ·split
    ·simp only[Option.map_some,Option.some.injEq,aY,qo hne]
    ·rfl
   ·rfl
  ·rfl
 case assign y=>
  split
  ·unfold nilRow
   split
   ·rename_i d z hdd hz
    have hne:d≠i:=fun hh=>hd (by rw[hdd,hh])
    rw[aW,if_neg hne]
    split
    ·simp only[Option.map_some,Option.some.injEq,aY,qo hne]
    ·rfl
   ·rfl
  ·rw[dM (jo (st:=st) (i:=i) (e:=e))]
   cases eQ P env o st with
   |none=>rfl
   |some r=>simp only[Option.map_some,aY]
 case call c=>
  cases hnl:dW c with
  |some q=>
   obtain⟨y,t⟩:=q
   simp only
   unfold vR
   rw[je]
   split
   ·rename_i d z hdd hz
    have hne:d≠i:=fun hh=>hd (by rw[hdd,hh])
    rw[aW,if_neg hne]
    split
    ·simp only[Option.map_some,Option.some.injEq,aY,qo hne]
    ·rfl
   ·rfl
  |none=>
   simp only
   have hs2:=jo (o:=o) (st:=st) (i:=i) (e:=e)
   rw[wI (by omega),PX hi hn,fJ hpl,fJ hpl,kL hpl,jr hpl,uz hs2 hop,dM hs2]
   simp only[Option.isSome_none,Bool.false_eq_true,if_false]
   split
   ·cases mf P (mi P o P.rt.int) .i64 _ with
    |none=>rfl
    |some r=>simp only[Option.map_some,aY]
   ·cases hro:gW st c with
    |some k=>
     simp only
     unfold xU
     rw[RH,jL (P:=P) (s:=st.upd i e) (s':=st) c.args.toList c.argTypes.toList (fun y _ t=>je t y),GK hi _ (fun j hj=>hn k j (by rw[yB (nP hro).2];exact hj))]
     split
     ·split
      ·rename_i t0 q0 F0 as0 es0 h1 h2 h3
       split
       ·cases F0 (as0.map vX++pG 0 es0) es0 with
        |none=>rfl
        |some r=>simp only[Option.map_some,aY]
       ·rfl
      ·rfl
     ·rfl
    |none=>
     simp only
     cases eQ P env o st with
     |none=>rfl
     |some r=>simp only[Option.map_some,aY]
 case indexAddr t y j=>
  rw[GL hi hn,je,je,je,dM (jo (st:=st) (i:=i) (e:=e))]
  split
  ·split
   ·split
    ·simp only[Option.map_some,aY]
    ·rfl
   ·rfl
  ·split
   ·by_cases ht:(opd P st o.type y).tag=2
    ·have hne:(opd P st o.type y).id≠i:=fun hh=>by
      have:=fM (P:=P) hn o.type y (opd P st o.type y).id (by rw[bY ht];exact List.mem_singleton.2 rfl)
      rw[hh,hi]at this
      cases this
     have hib:ed (st.upd i e) (opd P st o.type y).id=ed st (opd P st o.type y).id:=by unfold ed;rw[aW,if_neg hne]
     rw[hib]
     split
     ·simp only[Option.map_some,aY]
     ·cases eQ P env o st with
      |none=>rfl
      |some r=>simp only[Option.map_some,aY]
    ·have ht':((opd P st o.type y).tag==2)=false:=by simpa using ht
     simp only[ht',Bool.false_and,Bool.false_eq_true,if_false]
     cases eQ P env o st with
     |none=>rfl
     |some r=>simp only[Option.map_some,aY]
   ·cases eQ P env o st with
    |none=>rfl
    |some r=>simp only[Option.map_some,aY]
 case slice t y lo hi mx=>
  have e2:gJ P (st.upd i e) hi=gJ P st hi:=by cases hi with|none=>rfl|some z=>simp only[gJ,je]
  have e4:iP P (st.upd i e) y o.type hi=iP P st y o.type hi:=by
   cases hi with
   |none=>simp only[iP,je]
   |some z=>simp only[iP,je]
  rw[GL hi_ hn,dM (jo (st:=st) (i:=i) (e:=e)),e2,e4,je]
  split
  ·split
   ·simp only[Option.map_some,aY]
   ·rfl
  ·cases eQ P env o st with
   |none=>rfl
   |some r=>simp only[Option.map_some,aY]
 all_goals
  rw[dM (jo (st:=st) (i:=i) (e:=e))]
  cases eQ P env o st with
  |none=>rfl
  |some r=>simp only[Option.map_some,aY]
end
end
section
section
variable {P:Program} {w w':World} {ok ok':Nat->Prop} {β:Nat->Nat×Nat} {ops:Array Oper}
variable {F:Fr P} {st st' s s' s1 s2 s12:St} {a:Act} {env:Env} {o oi oj:Oper} {av:AV} {Q:Exit->Act->World->Prop}
theorem vH (hpl:cu env) {i:Nat} {e:Ent} (hm:aF o.op=0):aP P env ops o (st.upd i e)=(aP P env ops o st).map fun s=>s.upd i e:=by
 unfold aP
 rw[wR,rq hpl (by omega) (jo (st:=st) (i:=i) (e:=e)) (fun h1=>by omega) (fun h1=>by omega)]
 split
 ·split
  ·exact U0 hpl hm
  ·rfl
 ·simp only[Option.map_some,aY]
 ·rfl
theorem qJ (hpl:cu env) {i:Nat} {e:Ent} (hm:aF o.op<=2) (hi:st.bx i=none) (hn:ND st) (hd:o.dst≠some i):aP P env ops o (st.upd i e)=(aP P env ops o st).map fun s=>s.upd i e:=by
 unfold aP
 rw[wR,rq hpl (by omega) (jo (st:=st) (i:=i) (e:=e)) (fun _ t y hro=>GL hi hn) (fun _ c k _ hro=>GK hi _ (fun j hj=>hn k j (by rw[yB (nP hro).2];exact hj)))]
 split
 ·split
  ·exact Ul hpl hm hi hn hd
  ·rfl
 ·simp only[Option.map_some,aY]
 ·rfl
theorem y8 (hpl:cu env) (hm:aF o.op=2) (h:dh P env o st=some s'): ∃ d e b,o.dst=some d/\st.bx d=none/\s'=(st.upd d e).put (some d) b/\
  ∀ s2,Same o s2 st->s2.bx d=none->dh P env o s2=some ((s2.upd d e).put (some d) b):=by
 unfold dh aJ at h
 cases hop:o.op<;>simp only[iL hpl,Bool.false_eq_true,if_false,hop]at h hm<;>try (simp[aF]at hm;done)
 case alloc t=>
  rw[hpl.1]at h
  simp only[Bool.false_and,Bool.false_eq_true,if_false]at h
  split at h
  ·rename_i d z hd hz
   split at h
   ·rename_i hf
    rw[Bool.and_eq_true]at hf
    cases h
    have hf':st.bx d=none:=by simpa using hf.1
    have hlt:d<RID:=by simpa using hf.2
    refine⟨d,_,_,hd,hf',rfl,fun s2 _ h2=>?_⟩
    unfold dh aJ
    simp[hop,hd,hz,h2,hpl.1,hlt]
   ·cases h
  ·cases h
 case box t y=>
  split at h
  ·rename_i d hd
   split at h
   ·rename_i hf
    rw[Bool.and_eq_true]at hf
    have hf':st.bx d=none:=by simpa using hf.1
    have hlt:d<RID:=by simpa using hf.2
    split at h
    ·rename_i hc
     cases h
     refine⟨d,_,_,hd,hf',rfl,fun s2 hs h2=>?_⟩
     have key:=jm (P:=P) (x:=y) hs (by simp[hop,Op.operands]) t
     unfold dh aJ
     simp only[hop,hd,key,h2,hc,if_true]
     simp[hlt]
    ·rename_i hc
     split at h
     ·rename_i hc2
      cases h
      refine⟨d,_,_,hd,hf',rfl,fun s2 hs h2=>?_⟩
      have key:=jm (P:=P) (x:=y) hs (by simp[hop,Op.operands]) t
      unfold dh aJ
      simp only[hop,hd,key,h2,hc,hc2,if_true]
      simp[hlt]
     ·cases h
   ·cases h
  ·cases h
 case makeSlice t y z1=>
  split at h
  ·rename_i d el hd hso
   split at h
   ·rename_i z hz
    split at h
    ·rename_i hf
     have hf0:=hf
     simp only[Bool.and_eq_true]at hf
     cases h
     have hf':st.bx d=none:=by simpa using hf.1.1.1
     refine⟨d,_,_,hd,hf',rfl,fun s2 hs h2=>?_⟩
     have key:=jm (P:=P) (x:=y) hs (by simp[hop,Op.operands]) P.rt.int
     have key2:=jm (P:=P) (x:=z1) hs (by simp[hop,Op.operands]) P.rt.int
     unfold dh aJ
     simp only[hop,hd,hso,hz,key,key2,h2]
     rw[hf']at hf0
     rw[if_pos hf0]
    ·cases h
   ·cases h
  ·cases h
 case assign y=>
  split at h
  ·rename_i hn
   unfold nilRow at h
   split at h
   ·rename_i d z hd hz
    split at h
    ·rename_i hf
     rw[Bool.and_eq_true]at hf
     cases h
     have hf':st.bx d=none:=by simpa using hf.1
     have hlt:d<RID:=by simpa using hf.2
     refine⟨d,_,_,hd,hf',rfl,fun s2 _ h2=>?_⟩
     unfold dh aJ
     simp[hop,hn,nilRow,hd,hz,h2,hlt]
    ·cases h
   ·cases h
  ·rename_i hn
   simp[aF,hn]at hm
 case call c=>
  obtain⟨y,t,hn⟩:=Y6 hm
  simp only[hn]at h
  unfold vR at h
  split at h
  ·rename_i d el hd hso
   split at h
   ·rename_i hf
    have hf0:=hf
    simp only[Bool.and_eq_true]at hf
    cases h
    have hf':st.bx d=none:=by simpa using hf.1.2
    refine⟨d,_,_,hd,hf',rfl,fun s2 hs h2=>?_⟩
    have hy:y∈c.args.toList:=by rw[rD hn];simp
    have key:=jm (P:=P) (x:=y) hs (by simp only[hop,Op.operands,Call.operands,Array.toList_append,List.mem_append];exact .inr hy) t
    unfold dh aJ
    simp only[hop,hn]
    unfold vR
    simp only[hd,hso,key,h2]
    rw[hf']at hf0
    rw[if_pos hf0]
   ·cases h
  ·cases h
theorem yl (hpl:cu env) (hm:aF o.op=3) (h:dh P env o st=some s'): ∃ i e,s'=st.upd i e/\o.dst=none/\(st.bx i).isSome=true:=by
 unfold dh aJ at h
 cases hop:o.op<;>simp only[iL hpl,Bool.false_eq_true,if_false,hop]at h hm<;>try (simp[aF]at hm;done)
 case assign y=>
  cases hn:uA y<;>simp[aF,hn]at hm
 case call c=>
  exfalso
  simp only[aF]at hm
  cases hn:(dW c).isSome<;>cases ha:(jO c).isSome<;>cases hl:(lenOf c).isSome<;>cases ht:fG c<;>simp[hn,ha,hl,ht]at hm
 case store t x y=>
  simp only[hpl.1,Bool.false_eq_true,if_false]at h
  split at h
  ·rename_i hc
   have hd:o.dst=none:=by simpa using hc
   split at h
   rotate_left
   ·unfold stC at h
    split at h
    ·split at h
     ·rename_i e he
      split at h
      ·cases h;exact⟨_,_,rfl,hd,by rw[he];rfl⟩
      ·cases h
     ·cases h
    ·cases h
   unfold stA at h
   split at h
   ·split at h
    ·rename_i e he
     split at h
     ·split at h
      ·split at h
       ·split at h
        ·cases h;exact⟨_,_,rfl,hd,by rw[he];rfl⟩
        ·cases h
       ·split at h
        ·cases h
        ·split at h
         ·split at h
          ·cases h;exact⟨_,_,rfl,hd,by rw[he];rfl⟩
          ·cases h
         ·cases h
      ·split at h
       ·cases h;exact⟨_,_,rfl,hd,by rw[he];rfl⟩
       ·cases h
     ·split at h
      ·obtain⟨e',_,rfl⟩:=Option.map_eq_some_iff.1 h
       exact⟨_,_,rfl,hd,by rw[he];rfl⟩
      ·cases h
    ·cases h
   ·cases h
  ·cases h
theorem ji (h:aP P env ops o st=some s'):
  (asked P ops o st=some false/\s'=st.put o.dst vW)\/(asked P ops o st=some true/\aT P env st o=true/\dh P env o st=some s'):=by
 unfold aP at h
 split at h
 ·rename_i ha
  split at h
  ·rename_i hc;exact .inr ⟨ha,hc,h⟩
  ·cases h
 ·rename_i ha;cases h;exact .inl ⟨ha,rfl⟩
 ·cases h
theorem BU (ha:asked P ops o st=some true) (hc:aT P env st o=true) (h:dh P env o st=some s'):aP P env ops o st=some s':=by
 unfold aP;rw[ha];simp[hc,h]
theorem qU (ha:asked P ops o st=some false):aP P env ops o st=some (st.put o.dst vW):=by
 unfold aP;rw[ha]
theorem diamond (hpl:cu env) (hc:comm ops oi oj=true) (hn:ND st) (h1:aP P env ops oi st=some s1) (h2:aP P env ops oj s1=some s12):
  ∃ s2,aP P env ops oj st=some s2/\aP P env ops oi s2=some s12:=by
 unfold comm at hc
 simp only[Bool.and_eq_true,Bool.not_eq_true',Bool.and_eq_false_iff,beq_eq_false_iff_ne,decide_eq_false_iff_not]at hc
 obtain⟨⟨⟨⟨hap,li⟩,lj⟩,hc1⟩,hc2⟩:=hc
 have li:aF oi.op<=3:=by simpa using li
 have lj:aF oj.op<=3:=by simpa using lj
 obtain⟨a1,a2,a3⟩:=Oper.apart_spec hap
 have a4: ∀ d,oj.dst=some d->oi.dst≠some d:=fun d hd hd'=>a2 d hd' hd
 have hput: ∀ v,s1=st.put oi.dst v->(asked P ops oi st=some false\/aF oi.op<=1)-> ∃ s2,aP P env ops oj st=some s2/\aP P env ops oi s2=some s12:=by
  intro v hs1 hkind
  subst hs1
  rw[gK hpl lj a1 a2]at h2
  obtain⟨s2,hs2,rfl⟩:=Option.map_eq_some_iff.1 h2
  refine⟨s2,hs2,?_⟩
  have hupd: ∀ i e,(aF oj.op=3\/(st.bx i=none/\oj.dst=some i))->aP P env ops oi (st.upd i e)=some ((st.upd i e).put oi.dst v):=by
   intro i e hi
   rcases hkind with hk|hk
   ·rw[qU hk]at h1
    have:(st.put oi.dst vW)=st.put oi.dst v:=Option.some.inj h1
    rw[qU (by rw[wR];exact hk)]
    rw[<-aY,<-aY,this]
   ·rcases hi with hi|⟨hi,hd⟩
    ·rw[vH hpl (by omega),h1]
     simp only[Option.map_some,aY]
    ·rw[qJ hpl (by omega) hi hn (a4 i hd),h1]
     simp only[Option.map_some,aY]
  rcases ji hs2 with⟨_,rfl⟩|⟨haj,hcj,hej⟩
  ·rw[gK hpl li a3 a4,h1]
   simp only[Option.map_some,Option.some.injEq]
   exact put_comm a2
  ·by_cases hj1:aF oj.op<=1
   ·obtain⟨u,rfl⟩:=qg hpl hj1 hej
    rw[gK hpl li a3 a4,h1]
    simp only[Option.map_some,Option.some.injEq]
    exact put_comm a2
   ·by_cases hj2:aF oj.op=2
    ·obtain⟨d,e,b,hd,hf,rfl,_⟩:=y8 hpl hj2 hej
     rw[hd]at a3 a4
     rw[gK hpl li a3 a4,hupd d e (.inr ⟨hf,hd⟩)]
     simp only[Option.map_some,Option.some.injEq]
     rw[hd]at a2
     exact put_comm a2
    ·obtain⟨i,e,rfl,hd,_⟩:=yl hpl (by omega) hej
     exact hupd i e (.inl (by omega))
 rcases ji h1 with⟨hai,hs1⟩|⟨hai,hci,hei⟩
 ·exact hput _ hs1 (.inl hai)
 ·by_cases hi1:aF oi.op<=1
  ·obtain⟨v,hv⟩:=qg hpl hi1 hei
   exact hput v hv (.inr hi1)
  ·by_cases hi2:aF oi.op=2
   ·obtain⟨d,e,b,hd,hf,rfl,hre⟩:=y8 hpl hi2 hei
    have hjd:oj.dst≠some d:=fun hh=>a2 d hd hh
    rw[hd]at a1 a2
    rw[gK hpl lj a1 a2,qJ hpl (by omega) hf hn hjd]at h2
    obtain⟨s3,hs3,rfl⟩:=Option.map_eq_some_iff.1 h2
    obtain⟨s2,hs2,rfl⟩:=Option.map_eq_some_iff.1 hs3
    refine⟨s2,hs2,?_⟩
    have hsame:asked P ops oi s2=some true/\Same oi s2 st/\s2.bx d=none:=by
     rcases ji hs2 with⟨_,rfl⟩|⟨_,_,hej⟩
     ·exact⟨by rw[xk a3];exact hai,nS a3,by rw[bU];exact hf⟩
     ·by_cases hj1:aF oj.op<=1
      ·obtain⟨u,rfl⟩:=qg hpl hj1 hej
       exact⟨by rw[xk a3];exact hai,nS a3,by rw[bU];exact hf⟩
      ·obtain⟨d',e',b',hd',hf',rfl,_⟩:=y8 hpl (by omega) hej
       rw[hd']at a3
       have hne:d≠d':=fun hh=>hjd (by rw[hd',hh])
       exact⟨by rw[xk a3,wR];exact hai,(nS a3).trans jo,by rw[bU,aW,if_neg hne];exact hf⟩
    obtain⟨g1,g2,g3⟩:=hsame
    exact BU g1 (by rw[rq hpl li g2 (fun h1=>by omega) (fun h1=>by omega)];exact hci) (hre s2 g2 g3)
   ·obtain⟨i,e,rfl,hd,_⟩:=yl hpl (by omega) hei
    have hj0:aF oj.op=0:=by omega
    rw[vH hpl hj0]at h2
    obtain⟨s2,hs2,rfl⟩:=Option.map_eq_some_iff.1 h2
    refine⟨s2,hs2,?_⟩
    have hp: ∃ u,s2=st.put oj.dst u:=by
     rcases ji hs2 with⟨_,rfl⟩|⟨_,_,hej⟩
     ·exact⟨_,rfl⟩
     ·exact qg hpl (by omega) hej
    obtain⟨u,rfl⟩:=hp
    rw[gK hpl li a3 a4,h1]
    simp only[Option.map_some,aY]
def ND2 (st:St):Prop:=ND st/\ ∀ i e v,st.bx i=some e->e.c=some v->aV st.bx v
theorem dG (hn:ND2 st) {d:Option Nat} {v:AV} (hv:aV st.bx v):ND2 (st.put d v):=by
 refine⟨fun i=>?_,by rw[bU];exact hn.2⟩
 rw[get_put,bU]
 split
 ·exact hv
 ·exact hn.1 i
theorem yG {i:Nat} {e:Ent} {v:AV} (h:aV st.bx v):aV (st.upd i e).bx v:=by
 intro j hj
 rw[aW]
 split
 ·rfl
 ·exact h j hj
theorem lW (hn:ND2 st) (i:Nat) (e:Ent) (hc: ∀ v,e.c=some v->aV st.bx v):ND2 (st.upd i e):=by
 refine⟨fun j=>yG (hn.1 j),fun j f v hj hv=>?_⟩
 rw[aW]at hj
 split at hj
 ·cases hj;exact yG (hc v hv)
 ·exact yG (hn.2 j f v hj hv)
theorem OG (hn:ND2 st) (i:Nat) (e:Ent) (hc:e.c=none):ND2 (st.renew i e):=by
 have key: ∀ v,aV st.bx v->aV (st.renew i e).bx (bg [i] v):=by
  intro v hv
  rcases eu [i] v with h|⟨h,hne⟩
  ·rw[h];exact ai (lJ v)
  ·rw[h]
   intro j hj
   have hji:j≠i:=fun hh=>hne j hj (by simp[hh])
   rw[eH,if_neg hji]
   simpa using hv j hj
 refine⟨fun j=>by rw[Jr];exact key _ (hn.1 j),fun j f v hj hv=>?_⟩
 rw[eH]at hj
 split at hj
 ·cases hj;rw[hc]at hv;cases hv
 ·obtain⟨g,hg,rfl⟩:=Option.map_eq_some_iff.1 hj
  simp only[Ent.mapC,Option.map_eq_some_iff]at hv
  obtain⟨u,hu,rfl⟩:=hv
  exact key u (hn.2 j g u hg hu)
theorem JW (i j:Nat):(st.kill i).get j=bg [i] (st.get j):=tC _ (pF _) j
theorem Fp (i j:Nat):(st.kill i).bx j=if j=i then none else(st.bx j).map (Ent.mapC (bg [i])):=rfl
theorem Xl (hn:ND2 st) (i:Nat):ND2 (st.kill i):=by
 have key: ∀ v,aV st.bx v->aV (st.kill i).bx (bg [i] v):=by
  intro v hv
  rcases eu [i] v with h|⟨h,hne⟩
  ·rw[h];exact ai (lJ v)
  ·rw[h]
   intro j hj
   have hji:j≠i:=fun hh=>hne j hj (by simp[hh])
   rw[Fp,if_neg hji]
   simpa using hv j hj
 refine⟨fun j=>by rw[JW];exact key _ (hn.1 j),fun j f v hj hv=>?_⟩
 rw[Fp]at hj
 split at hj
 ·cases hj
 ·obtain⟨g,hg,rfl⟩:=Option.map_eq_some_iff.1 hj
  simp only[Ent.mapC,Option.map_eq_some_iff]at hv
  obtain⟨u,hu,rfl⟩:=hv
  exact key u (hn.2 j g u hg hu)
theorem jY {d:Nat} {t:TypeId} {e:Ent} (h:st.bx d=some e):aV st.bx (bxp d t):=by
 intro j hj
 rw[bY rfl]at hj
 obtain rfl:j=d:=by simpa [bxp]using hj
 rw[h]
 rfl
theorem Vd (hn:ND2 st) {t:TypeId} {x v:AV} (h:xq st t x=some v):aV st.bx v:=by
 unfold xq at h
 split at h
 ·split at h
  ·rename_i e he
   split at h
   ·split at h
    ·rename_i v' hv'
     split at h
     ·cases h
     ·cases h
      exact hn.2 _ e v he hv'
    ·cases h
   ·cases h
  ·cases h
 ·cases h
theorem Zu (hpl:cu env) (hn:ND2 st) (h:dh P env o st=some s'):ND2 s':=by
 unfold dh aJ at h
 cases hop:o.op<;>simp only[iL hpl,Bool.false_eq_true,if_false,hop]at h
 case load t x=>
  simp only[hpl.1,Bool.false_eq_true,if_false]at h
  obtain⟨v,hv,rfl⟩:=Option.map_eq_some_iff.1 h
  unfold ldV at hv
  split at hv
  ·rename_i hb;cases hv;exact dG hn (Vd hn hb)
  ·obtain⟨d,_,rfl⟩:=Option.map_eq_some_iff.1 hv;exact dG hn (ai rfl)
 case store t x y=>
  simp only[hpl.1,Bool.false_eq_true,if_false]at h
  split at h
  ·split at h
   ·unfold stA at h
    split at h
    ·split at h
     ·split at h
      ·split at h
       ·split at h
        ·split at h
         ·cases h;exact lW hn _ _ (fun v hv=>by cases hv)
         ·cases h
        ·split at h
         ·cases h
         ·split at h
          ·split at h
           ·cases h;exact lW hn _ _ (fun v hv=>by cases hv)
           ·cases h
          ·cases h
       ·split at h
        ·cases h;exact lW hn _ _ (fun v hv=>by cases hv)
        ·cases h
      ·split at h
       ·obtain⟨e',he',rfl⟩:=Option.map_eq_some_iff.1 h
        refine lW hn _ _ (fun v hv=>?_)
        unfold stE at he'
        split at he'
        ·split at he'
         ·split at he'
          ·cases he';cases hv
          ·cases he'
         ·split at he'
          ·split at he'
           ·cases he';cases hv
           ·cases he'
          ·cases he'
        ·cases he'
       ·cases h
     ·cases h
    ·cases h
   ·unfold stC at h
    split at h
    ·split at h
     ·split at h
      ·cases h
       refine lW hn _ _ (fun v hv=>?_)
       cases hv
       exact fM hn.1 _ _
      ·cases h
     ·cases h
    ·cases h
  ·cases h
 case fieldAddr t x k=>
  split at h
  ·split at h
   ·rename_i hc
    simp only[Bool.and_eq_true]at hc
    cases h
    refine dG hn ?_
    have hib:=hc.2
    unfold ed at hib
    split at hib
    ·rename_i e he
     intro j hj
     rw[bY rfl]at hj
     obtain rfl:j=(opd P st o.type x).id:=by simpa [fdp]using hj
     rw[he];rfl
    ·cases hib
   ·split at h
    ·cases h;exact dG hn (ai rfl)
    ·split at h
     ·rename_i hc
      simp only[Bool.and_eq_true]at hc
      cases h
      refine dG hn ?_
      have hib:=hc.2
      unfold mM at hib
      split at hib
      ·rename_i e he
       intro j hj
       rw[bY rfl]at hj
       obtain rfl:j=(opd P st o.type x).id:=by simpa [elf]using hj
       rw[he];rfl
      ·cases hib
     ·cases h
  ·cases h
 case alloc t=>
  rw[hpl.1]at h
  simp only[Bool.false_and,Bool.false_eq_true,if_false]at h
  split at h
  ·split at h
   ·cases h;exact dG (lW hn _ _ (fun v hv=>by cases hv)) (jY (by rw[aW,if_pos rfl]))
   ·cases h
  ·cases h
 case box t y=>
  split at h
  ·split at h
   ·split at h
    ·cases h;exact dG (lW hn _ _ (fun v hv=>by cases hv)) (jY (by rw[aW,if_pos rfl]))
    ·split at h
     ·cases h;exact dG (lW hn _ _ (fun v hv=>by cases hv;exact fM hn.1 _ _)) (jY (by rw[aW,if_pos rfl]))
     ·cases h
   ·cases h
  ·cases h
 case makeSlice t y z=>
  split at h
  ·split at h
   ·split at h
    ·cases h;exact dG (lW hn _ _ (fun v hv=>by cases hv)) (jY (by rw[aW,if_pos rfl]))
    ·cases h
   ·cases h
  ·cases h
 case assign y=>
  split at h
  ·unfold nilRow at h
   split at h
   ·split at h
    ·cases h;exact dG (lW hn _ _ (fun v hv=>by cases hv)) (jY (by rw[aW,if_pos rfl]))
    ·cases h
   ·cases h
  ·obtain⟨v,hv,rfl⟩:=Option.map_eq_some_iff.1 h;exact dG hn (dY hn.1 hv)
 case call c=>
  rw[fJ hpl,kL hpl,jr hpl]at h
  simp only[Option.isSome_none,Bool.false_eq_true,if_false]at h
  split at h
  ·unfold vR at h
   split at h
   ·split at h
    ·cases h;exact dG (lW hn _ _ (fun v hv=>by cases hv)) (jY (by rw[aW,if_pos rfl]))
    ·cases h
   ·cases h
  split at h
  ·split at h
   ·unfold wP at h
    split at h
    ·split at h
     ·cases h;exact dG (Xl hn _) (ai rfl)
     ·cases h
    ·split at h
     ·cases h;exact dG hn (ai rfl)
     ·cases h
    ·cases h
   split at h
   ·unfold QQ at h
    split at h
    ·split at h
     ·cases h;exact dG (OG hn _ _ rfl) (jY (by rw[eH,if_pos rfl]))
     ·cases h
    ·cases h
   unfold appRow at h
   split at h
   ·split at h
    ·split at h
     ·split at h
      ·cases h
      ·split at h
       ·cases h;exact dG (lW hn _ _ (fun v hv=>by cases hv)) (jY (by rw[aW,if_pos rfl]))
       ·cases h
     ·cases h;exact dG hn (ai rfl)
    ·cases h
   ·split at h
    ·cases h;exact dG (OG hn _ _ rfl) (jY (by rw[eH,if_pos rfl]))
    ·cases h
   ·cases h
  ·split at h
   ·obtain⟨v,hv,rfl⟩:=Option.map_eq_some_iff.1 h;exact dG hn (ai (l7 hv))
   ·split at h
    ·unfold xU at h
     split at h
     ·split at h
      ·split at h
       ·obtain⟨v,hv,rfl⟩:=Option.map_eq_some_iff.1 h
        refine dG hn ?_
        rcases wZ (P:=P) _ v with e|e
        ·exact mG (fun h2=>by rw[e]at h2;cases h2) (fun h2=>by rw[e]at h2;cases h2) (fun h2=>by rw[e]at h2;cases h2)
        ·exact mG (fun h2=>by rw[e]at h2;cases h2) (fun h2=>by rw[e]at h2;cases h2) (fun h2=>by rw[e]at h2;cases h2)
       ·cases h
      ·cases h
     ·cases h
    ·obtain⟨v,hv,rfl⟩:=Option.map_eq_some_iff.1 h;exact dG hn (dY hn.1 hv)
 case indexAddr t y j=>
  split at h
  ·rename_i e hrx
   split at h
   ·split at h
    ·cases h
     refine dG hn ?_
     unfold og at hrx
     split at hrx
     ·rename_i s
      have he:=(gV hrx).2.2.1
      intro j hj
      rw[bY rfl]at hj
      obtain rfl:j=(st.get s).id:=by simpa [elp,opd]using hj
      rw[he];rfl
     ·cases hrx
    ·cases h
   ·cases h
  ·split at h
   ·split at h
    ·rename_i hc
     simp only[Bool.and_eq_true]at hc
     cases h
     refine dG hn ?_
     have hib:=hc.1.1.2
     unfold ed at hib
     split at hib
     ·rename_i e he
      intro j hj
      rw[bY rfl]at hj
      obtain rfl:j=(opd P st o.type y).id:=by simpa [arp]using hj
      rw[he];rfl
     ·cases hib
    ·obtain⟨v,hv,rfl⟩:=Option.map_eq_some_iff.1 h;exact dG hn (dY hn.1 hv)
   obtain⟨v,hv,rfl⟩:=Option.map_eq_some_iff.1 h;exact dG hn (dY hn.1 hv)
 case slice t y lo hi mx=>
  split at h
  ·rename_i e hrx
   split at h
   ·cases h
    refine dG hn ?_
    unfold og at hrx
    split at hrx
    ·rename_i s
     have he:=(gV hrx).2.2.1
     intro j hj
     rw[bY rfl]at hj
     obtain rfl:j=(st.get s).id:=by simpa [prf,opd]using hj
     rw[he];rfl
    ·cases hrx
   ·cases h
  ·obtain⟨v,hv,rfl⟩:=Option.map_eq_some_iff.1 h;exact dG hn (dY hn.1 hv)
 case range t y=>
  unfold KD at h
  split at h
  ·split at h
   ·cases h;exact dG (lW hn _ _ (fun v hv=>by cases hv;exact ai rfl)) (jY (by rw[aW,if_pos rfl]))
   ·cases h
  ·cases h
 case next y b=>
  cases y with
  |tmp i=>
   cases b with
   |true=>
    simp only at h
    split at h
    ·split at h
     ·split at h
      ·cases h;exact dG (lW hn _ _ (fun v hv=>by cases hv;exact ai rfl)) (ai rfl)
      ·cases h;exact dG hn (ai rfl)
     ·cases h
    ·cases h
   |false=>cases h
  |_=>cases h
 all_goals (obtain⟨v,hv,rfl⟩:=Option.map_eq_some_iff.1 h;exact dG hn (dY hn.1 hv))
theorem iV (hpl:cu env) (hn:ND2 st) (h:aP P env ops o st=some s'):ND2 s':=by
 rcases ji h with⟨_,rfl⟩|⟨_,_,he⟩
 ·exact dG hn (ai rfl)
 ·exact Zu hpl hn he
end
end
end Go.Ev
