/- Trees of functions, and lemmas. Nothing here is trusted. -/
import Derived.Test.YtpceahbengfjeaaGreatDoorZ34
import Derived.Test.YtpceahbengfjeaaGreatDoorZ16
import Derived.Test.YtpceahbengfjeaaGreatDoorZ17
namespace Go.Proofs.YtpceahbengfjeaaGreatDoor
open Go.Shelf Go.RowKit Go.Maps Go.Ev
set_option linter.unusedVariables false
def pr (v:D):Int×Int:=(intD (af v 0),intD (af v 1))
def txt (r:D):List UInt8:=wrs ((ae r).map pr)
theorem cells39:Tryz.prog.cellsOf 59=2:=by kernel_rfl
theorem cells34:Tryz.prog.cellsOf 67=1:=by kernel_rfl
theorem cells23:Tryz.prog.cellsOf 35=1:=by kernel_rfl
theorem cells22:Tryz.prog.cellsOf 28=1:=by kernel_rfl
theorem cells25:Tryz.prog.cellsOf 37=2:=by kernel_rfl
theorem cells3:Tryz.prog.cellsOf 3=1:=by kernel_rfl
theorem aaj {z:Int} (h:(Lit.int .i64 z).wf=true):inI z:=by
 exact bH.1 (KG h)
theorem two {c:List Value} (h:c.length=2): ∃ a b,c=[a,b]:=by
 match c,h with
 | [a,b],_=>exact⟨a,b,rfl⟩
theorem adh {c:List D} (h:c.length=2): ∃ a b,c=[a,b]:=by
 match c,h with
 | [a,b],_=>exact⟨a,b,rfl⟩
theorem aae {w:World} {ok:Nat->Prop} {n:Nat} {c:List Value} {y:D} (h:Rep Tryz.prog w ok n 59 c y):c=[.int .i64 (pr y).1,.int .i64 (pr y).2]/\inI (pr y).1/\inI (pr y).2:=by
 have hl:=h.len
 rw[cells39]at hl
 obtain⟨c0,c1,rfl⟩:=two hl
 obtain⟨m,ps,_,rfl,hps,hf⟩:=h.struct Tryz.underlying59
 obtain⟨p0,p1,rfl⟩:=adh (show ps.length=2 from hps)
 have f0:Rep Tryz.prog w ok m 3 (([c0,c1].drop 0).take (Tryz.prog.cellsOf 3)) p0:=hf 0 _ rfl
 have f1:Rep Tryz.prog w ok m 3 (([c0,c1].drop 1).take (Tryz.prog.cellsOf 3)) p1:=hf 1 _ rfl
 rw[cells3]at f0 f1
 obtain⟨z0,e0,h0,g0⟩:=f0.int Tryz.underlying3
 obtain⟨z1,e1,h1,g1⟩:=f1.int Tryz.underlying3
 subst e0 e1
 have h0: [c0]=[.int .i64 z0]:=h0
 have h1: [c1]=[.int .i64 z1]:=h1
 cases h0
 cases h1
 exact⟨rfl,aaj g0,aaj g1⟩
theorem BG (b off j:Nat):(⟨b,off,none⟩:Addr).add j=⟨b,off+j,none⟩:=by
 unfold Addr.add
 split
 ·rename_i h;subst h;rfl
 ·rfl
theorem TF {w:World} {x:Addr} {v:Value} (h:w.cell? x=some v):x=⟨x.block,x.off,none⟩:=by
 cases x with
 |mk b o s=>
  cases s with
  |none=>rfl
  |some s=>
   unfold World.cell? at h
   split at h<;>simp at h
theorem ZY {w:World} {ok:Nat->Prop} {n:Nat} {c:List Value} {y:D} (h:Rep Tryz.prog w ok n 67 c y): ∃ a cap,c=[.slice a (ae y).length cap]/\(∀ v∈ae y,inI (pr v).1/\inI (pr v).2)/\
  (0<(ae y).length-> ∃ b off,a=some ⟨b,off,none⟩/\ok b/\(∀ j,j<(ae y).length->w.cell? ⟨b,off+j*2,none⟩=some (.int .i64 (((ae y).map pr).getD j (0,0)).1))/\(∀ j,j<(ae y).length->w.cell? ⟨b,off+j*2+1,none⟩=some (.int .i64 (((ae y).map pr).getD j (0,0)).2))):=by
 obtain⟨m,es,a,cap,_,rfl,rfl,h1,_,h2,h3⟩:=h.slice Tryz.underlying67
 rw[cells39]at h3
 refine⟨a,cap,rfl,fun v hv=>?_,fun hpos=>?_⟩
 ·obtain⟨i,hi⟩:=List.getElem?_of_mem (show v∈es from hv)
  cases a with
  |none=>
   have:=h2 rfl
   have hlt:i<es.length:=(List.getElem?_eq_some_iff.1 hi).1
   omega
  |some x=>
   obtain⟨_,c,_,hr⟩:=h3 x rfl i v hi
   exact(aae hr).2
 ·have hpos:0<es.length:=hpos
  cases a with
  |none=>
   have:=h2 rfl
   omega
  |some x=>
   have key: ∀ j,j<es.length->ok x.block/\w.cell? ((x.add (j*2)).add 0)=some (.int .i64 (pr (es.getD j .nil)).1)/\w.cell? ((x.add (j*2)).add 1)=some (.int .i64 (pr (es.getD j .nil)).2):=by
    intro j hj
    obtain⟨hok,c,hrow,hr⟩:=h3 x rfl j (es.getD j .nil) (by rw[List.getD_eq_getElem?_getD,List.getElem?_eq_getElem hj];rfl)
    obtain⟨rfl,_⟩:=aae hr
    exact⟨hok,hrow 0 _ rfl,hrow 1 _ rfl⟩
   have hx:=TF (key 0 hpos).2.1
   have hx:x=⟨x.block,x.off,none⟩:=hx
   have hmap: ∀ j,j<es.length->(es.map pr).getD j (0,0)=pr (es.getD j .nil):=by
    intro j hj
    simp[List.getD,List.getElem?_eq_getElem hj]
   refine⟨x.block,x.off,congrArg some hx,(key 0 hpos).1,fun j hj=>?_,fun j hj=>?_⟩
   ·have hk:=(key j hj).2.1
    rw[hx,BG,BG]at hk
    show _=some (Value.int .i64 ((es.map pr).getD j (0,0)).1)
    rw[hmap j hj]
    exact hk
   ·have hk:=(key j hj).2.2
    rw[hx,BG,BG]at hk
    show _=some (Value.int .i64 ((es.map pr).getD j (0,0)).2)
    rw[hmap j hj]
    exact hk
theorem X4 {w w':World} (h:oz Tryz.prog (fun _=>False) w) (hb:Below w.heap.size w w'):oz Tryz.prog (fun _=>False) w':=fun w'' h'=>
 h w'' ((BelowX.of hb).trans ⟨h'.os,h'.tape,h'.output,h'.size,fun k hk hx=>h'.block k (Nat.lt_of_lt_of_le hk hb.size) hx⟩)
theorem Zb {w : World} (h : oz Tryz.prog (fun _ => False) w) : Lib.TabBelow Tryz.prog w.heap.size w "internal/strconv.uint64pow10" .u64 Lib.pow10Tab := fun w' hb =>
 h w' (BelowX.of hb) ("internal/strconv.uint64pow10", .u64, (List.range 20).map fun i => (10 : Int) ^ i) (List.mem_cons_self ..) (by kernel_rfl)
theorem aak {w:World} {ok:Nat->Prop} {n:Nat} {c:List Value} {y:D} (h:Rep Tryz.prog w ok n 35 c y) (hok: ∀ b,ok b->b<w.heap.size) (htb:oz Tryz.prog (fun _=>False) w) (hsm: ∀ r∈ae y,(ae r).length<=1000000):
  ∃ a cap,c=[.slice a (ae y).length cap]/\Qu w a ((ae y).map txt)/\ ∀ l∈(ae y).map txt,l.length<=1000000000:=by
 obtain⟨m,es,a,cap,_,rfl,rfl,h1,_,h2,h3⟩:=h.slice Tryz.underlying35
 rw[cells34]at h3
 have hsm: ∀ r∈es,(ae r).length<=1000000:=hsm
 have hin: ∀ r∈es,∀ v∈ae r,inI (pr v).1/\inI (pr v).2:=by
  intro r hr
  obtain⟨i,hi⟩:=List.getElem?_of_mem hr
  cases a with
  |none=>
   have:=h2 rfl
   have hlt:i<es.length:=(List.getElem?_eq_some_iff.1 hi).1
   omega
  |some x=>
   obtain⟨_,c,_,hr⟩:=h3 x rfl i r hi
   obtain⟨_,_,_,hv,_⟩:=ZY hr
   exact hv
 refine⟨a,cap,rfl,fun hpos=>?_,fun l hl=>?_⟩
 ·have hpos:0<es.length:=by rw[List.length_map]at hpos;exact hpos
  cases a with
  |none=>
   have:=h2 rfl
   omega
  |some x=>
   have key: ∀ j,j<es.length->ok x.block/\ ∃ a' cap',w.cell? ((x.add (j*1)).add 0)=some (.slice a' (ae (es.getD j .nil)).length cap')/\
     ∀ w',Below w.heap.size w w'->Calls Tryz.prog 69 #[.slice a' (ae (es.getD j .nil)).length cap'] w' fun e w''=>e=.returned (.string ⟨(txt (es.getD j .nil)).toArray⟩)/\Below w'.heap.size w' w'':=by
    intro j hj
    have hmem:es.getD j .nil∈es:=by rw[List.getD_eq_getElem?_getD,List.getElem?_eq_getElem hj];exact List.getElem_mem hj
    obtain⟨hok1,c,hrow,hr⟩:=h3 x rfl j (es.getD j .nil) (by rw[List.getD_eq_getElem?_getD,List.getElem?_eq_getElem hj];rfl)
    obtain⟨a',cap',rfl,hv,hc⟩:=ZY hr
    refine⟨hok1,a',cap',hrow 0 _ rfl,fun w' hb=>?_⟩
    refine Na a' _ cap' ((ae (es.getD j .nil)).map pr) w' (by simp) (hsm _ hmem) ?_ (fun hpos=>?_) (Zb (X4 htb hb))
    ·intro p hp
     obtain⟨v,hv',rfl⟩:=List.mem_map.1 hp
     exact hv v hv'
    ·obtain⟨b,off,rfl,hob,k0,k1⟩:=hc hpos
     have hlt:=hok b hob
     refine⟨b,off,rfl,Nat.lt_of_lt_of_le hlt hb.size,fun j hj=>?_,fun j hj=>?_⟩
     ·exact(hb.cell (p:=⟨b,off+j*2,none⟩) hlt).trans (k0 j hj)
     ·exact(hb.cell (p:=⟨b,off+j*2+1,none⟩) hlt).trans (k1 j hj)
   obtain⟨_,_,_,k0,_⟩:=key 0 hpos
   have hx:x=⟨x.block,x.off,none⟩:=TF k0
   refine⟨x.block,x.off,congrArg some hx,hok _ (key 0 hpos).1,fun j hj=>?_⟩
   have hj:j<es.length:=by rw[List.length_map]at hj;exact hj
   obtain⟨_,a',cap',kc,kw⟩:=key j hj
   rw[hx,BG,BG,Nat.mul_one]at kc
   refine⟨_,kc,fun w' hb=>?_⟩
   have hmap:(es.map txt).getD j []=txt (es.getD j .nil):=by simp[List.getD,List.getElem?_eq_getElem hj]
   show Calls Tryz.prog 69 _ w' fun e w''=>e=.returned (.string ⟨((es.map txt).getD j []).toArray⟩)/\_
   rw[hmap]
   exact kw w' hb
 ·obtain⟨r,hr,rfl⟩:=List.mem_map.1 (show l∈es.map txt from hl)
  have h1:=KE (l:=(ae r).map pr) (fun p hp=>by obtain⟨v,hv',rfl⟩:=List.mem_map.1 hp;exact hin r hr v hv')
  have h2:=hsm r hr
  rw[List.length_map]at h1
  unfold txt
  omega
theorem aah {w:World} {ok:Nat->Prop} {v:Value} {x:D} (h:RepV Tryz.prog w ok 37 v x): ∃ c0 c1 m,v=.agg #[c0,c1]/\Rep Tryz.prog w ok m 28 [c0] (af x 0)/\Rep Tryz.prog w ok m 35 [c1] (af x 1):=by
 obtain⟨⟨n,hn⟩,ha,_⟩:=h
 obtain⟨cs,rfl⟩:=ha (by kernel_rfl)
 have hn:Rep Tryz.prog w ok n 37 cs.toList x:=hn
 have hl:=hn.len
 rw[cells25]at hl
 obtain⟨c0,c1,hcs⟩:=two hl
 obtain⟨m,ps,_,rfl,hps,hf⟩:=hn.struct Tryz.underlying37
 obtain⟨p0,p1,rfl⟩:=adh (show ps.length=2 from hps)
 have f0:Rep Tryz.prog w ok m 28 ((cs.toList.drop 0).take (Tryz.prog.cellsOf 28)) p0:=hf 0 _ rfl
 have f1:Rep Tryz.prog w ok m 35 ((cs.toList.drop 1).take (Tryz.prog.cellsOf 35)) p1:=hf 1 _ rfl
 rw[cells22,hcs]at f0
 rw[cells23,hcs]at f1
 refine⟨c0,c1,m,?_,f0,f1⟩
 congr 1
 apply Array.ext'
 exact hcs
theorem aan:bu Tryz.prog 28=false:=by kernel_rfl
def jg (x:D):List D:=ae (af x 1)
def SH (q:Bool) (x y:D):Bool:=q&&(decide ((jg x).length=(jg y).length)&&Iu (fun key=>((jg x).map txt).count key) ((jg y).map txt))
theorem YL {x y:D} {q:Bool} (hEq:CallOK Tryz.prog 67 [dat 28 (af x 0),dat 28 (af y 0)] (dat 4 (.lit (.bool q)))) (sx:(jg x).length<=1000000) (sy:(jg y).length<=1000000)
  (hx: ∀ r∈jg x,(ae r).length<=1000000) (hy: ∀ r∈jg y,(ae r).length<=1000000):CallOK Tryz.prog 25 [dat 37 x,dat 37 y] (dat 4 (.lit (.bool (SH q x y)))):=by
 refine⟨⟨Tryz.f25,_,Tryz.func25,rfl,by kernel_rfl⟩,.inl rfl,fun w okA vs htb hok hargs=>?_⟩
 match vs,hargs with
 | [vx,vy],hargs=>
  obtain⟨⟨_,rx⟩,⟨_,ry⟩,_⟩:=hargs
  obtain⟨c0,c1,m,rfl,r0,r1⟩:=aah rx
  obtain⟨d0,d1,m',rfl,s0,s1⟩:=aah ry
  obtain⟨_,es0,aC,cC,_,_,hc0,_⟩:=r0.slice Tryz.underlying28
  obtain⟨_,es1,aE,cE,_,_,hd0,_⟩:=s0.slice Tryz.underlying28
  cases hc0
  cases hd0
  obtain⟨aA,cA,hc1,rowsA,szA⟩:=aak r1 hok htb hx
  obtain⟨aB,cB,hd1,rowsB,szB⟩:=aak s1 hok htb hy
  cases hc1
  cases hd1
  have v0:RepV Tryz.prog w okA 28 (.slice aC es0.length cC) (af x 0):=⟨⟨_,r0⟩,(fun h=>absurd h (by rw[aan];decide)),(fun _=>rfl)⟩
  have v1:RepV Tryz.prog w okA 28 (.slice aE es1.length cE) (af y 0):=⟨⟨_,s0⟩,(fun h=>absurd h (by rw[aan];decide)),(fun _=>rfl)⟩
  refine(X3 aC aE aA aB es0.length cC es1.length cE (jg x).length cA (jg y).length cB q ((jg x).map txt) ((jg y).map txt) w (by simp) (by simp) sx sy szB rowsB (fun w' hb=>?_) (fun w' hb=>?_)).mono ?_
  ·have hmv: ∀ b,okA b->w'.heap[b]? =w.heap[b]? :=fun b h=>hb.block b (hok b h)
   refine(hEq.call w' okA [.slice aC es0.length cC,.slice aE es1.length cE] (X4 htb hb) (fun b h=>Nat.lt_of_lt_of_le (hok b h) hb.size) ⟨⟨rfl,v0.move hmv (fun _ h=>h)⟩,⟨rfl,v1.move hmv (fun _ h=>h)⟩,trivial⟩).mono ?_
   rintro e w'' ⟨v,ok',rfl,hbel,_,hr⟩
   obtain⟨b,h1,h2⟩:=(hr.d1 rfl).bool Tryz.underlying4
   have h1:((.lit (.bool q)):D)=.lit (.bool b):=h1
   cases h1
   subst h2
   exact⟨rfl,hbel⟩
  ·refine Q8 aA _ cA _ w' (by simp) sx szA (fun hpos=>?_)
   obtain⟨b,off,ha,hlt,hrows⟩:=rowsA hpos
   refine⟨b,off,ha,Nat.lt_of_lt_of_le hlt hb.size,fun j hj=>?_⟩
   obtain⟨rv,hc,hcall⟩:=hrows j hj
   exact⟨rv,(hb.cell (p:=⟨b,off+j,none⟩) hlt).trans hc,fun w'' hb'=>hcall w'' (hb.trans (hb'.mono hb.size))⟩
  ·rintro e w' ⟨rfl,hbel⟩
   exact⟨_,fun _=>False,rfl,hbel,fun b h=>h.elim,bP (pg Tryz.underlying4 (by kernel_rfl))⟩
end Go.Proofs.YtpceahbengfjeaaGreatDoor
