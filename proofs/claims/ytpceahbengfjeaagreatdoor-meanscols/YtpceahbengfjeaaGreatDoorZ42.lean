/- Trees of functions, and lemmas. Nothing here is trusted. -/
import Derived.Test.YtpceahbengfjeaaGreatDoorZ41
import Derived.Test.YtpceahbengfjeaaGreatDoorZ03
import Derived.Test.YtpceahbengfjeaaGreatDoorZ19
import Derived.Test.YtpceahbengfjeaaGreatDoorZ30
namespace Go.Proofs.YtpceahbengfjeaaGreatDoor
set_option linter.unusedVariables false
set_option maxRecDepth 10000
section
open Go.Ev
set_option linter.unusedSimpArgs false
noncomputable def agh:Code->Array Oper| .seq (.region _ o _) _=>o|_=> #[]
noncomputable def afS:Code->Array Oper| .seq _ (.seq (.region _ o _) _)=>o|_=> #[]
noncomputable def o49 (k:Nat):Array Oper:=match Tryz.f49.body with|some c=>(if k=0 then agh c else afS c)|none=> #[]
noncomputable def o39 (k:Nat):Array Oper:=match Tryz.f39.body with|some c=>(if k=0 then agh c else afS c)|none=> #[]
def e3 (c d q:D):List Ent:=[⟨24,c,0,none⟩,⟨27,d,0,none⟩,⟨31,q,0,none⟩]
def e4 (c d q x:D):List Ent:=[⟨24,c,0,none⟩,⟨27,d,0,none⟩,⟨31,q,0,none⟩,⟨34,x,0,none⟩]
def b3:List AV:=[bxp 1000000 24,bxp 1000001 27,bxp 1000002 31]
def b4:List AV:=[bxp 1000000 24,bxp 1000001 27,bxp 1000002 31,bxp 1000003 34]
theorem agk (c d q:D):pY Tryz.prog (ak M4 [] [] []) (o49 0) (o49 0).toList (ou Tryz.f49 b3 (e3 c d q)) (fun s0=>pY Tryz.prog (ak M4 [] [] []) (o49 1) ((o49 1).toList.take 4) s0 (fun s1=>some (s1.get 7,Ef (e3 c d q).length s1)))=
  some (dat 4 (.lit (.bool (iR c d q))),(e3 c d q).map some):=by kernel_rfl
theorem amx (c d q x:D):pY Tryz.prog (ak M4 [] [] []) (o39 0) (o39 0).toList (ou Tryz.f39 b4 (e4 c d q x)) (fun s0=>pY Tryz.prog (ak M4 [] [] []) (o39 1) ((o39 1).toList.take 9) s0 (fun s1=>some (s1.get 13,Ef (e4 c d q x).length s1)))=
  bif iR c d q==true then some (dat 4 (.lit (.bool (adW q x))),(e4 c d q x).map some)else some (dat 4 (.lit (.bool false)),(e4 c d q x).map some):=by kernel_rfl
def msg:Value:=.string ⟨#[105,116,32,109,97,121,32,110,111,116,32,98,101]⟩
theorem k49:FnOK Tryz.prog 49 Tryz.f49:=⟨Tryz.func49,rfl,by kernel_rfl⟩
theorem k39:FnOK Tryz.prog 39 Tryz.f39:=⟨Tryz.func39,rfl,by kernel_rfl⟩
theorem p49 {c d q:D} (h:iR c d q=false):ER Tryz.prog 49 b3 (e3 c d q) 9 msg:=by
 refine TP (id0 := 0) (id1 := 1) (t := 7) (ty4 := 4) (ops0 := o49 0) (ops1 := o49 1) (pre := (o49 1).toList.take 4) (g := 40) (gn := Tryz.f40) (dst := some 8) (ats := #[4]) (tg := 0) (pos := "means.go:28") (after := #[{ on := 3, ground := Ground.data }, { on := 3, ground := Ground.chain }]) Sr k49 rfl k40 ZF rfl (by kernel_rfl) (by kernel_rfl) ((agk c d q).trans (by rw [h]))
theorem p39 {c d q x:D} (h:(iR c d q&&adW q x)=false):ER Tryz.prog 39 b4 (e4 c d q x) 9 msg:=by
 refine TP (id0 := 0) (id1 := 1) (t := 13) (ty4 := 4) (ops0 := o39 0) (ops1 := o39 1) (pre := (o39 1).toList.take 9) (g := 40) (gn := Tryz.f40) (dst := some 14) (ats := #[4]) (tg := 0) (pos := "means.go:12") (after := #[{ on := 8, ground := Ground.data }, { on := 7, ground := Ground.chain }]) Sr k39 rfl k40 ZF rfl (by kernel_rfl) (by kernel_rfl) ((amx c d q x).trans ?_)
 ·cases ha:iR c d q with
  |false=>rfl
  |true=>
   rw[ha,Bool.true_and]at h
   rw[h]
   rfl
end
section
open Go.Ev Go.RowKit
set_option linter.unusedSimpArgs false
noncomputable def X6:Array Field:=match Tryz.prog.underlying 37 with|some (.struct fs)=>fs|_=> #[]
theorem u37:Tryz.prog.underlying 37=some (.struct X6):=by kernel_rfl
noncomputable def fa:Field:=X6.getD 0 default
noncomputable def fb:Field:=X6.getD 1 default
theorem acZ:X6[0]? =some fa:=by kernel_rfl
theorem adQ:X6[1]? =some fb:=by kernel_rfl
theorem abB:fa.offset=0:=by kernel_rfl
theorem abv:fb.offset=1:=by kernel_rfl
theorem acU:Tryz.prog.cellsOf fa.type=1:=by kernel_rfl
theorem abW:Tryz.prog.cellsOf fb.type=1:=by kernel_rfl
theorem ae5:Tryz.prog.underlying fa.type=some (.slice 3):=by kernel_rfl
theorem aez:Tryz.prog.underlying fb.type=some (.slice 67):=by kernel_rfl
theorem agC:Tryz.prog.cellsOf 37=2:=by kernel_rfl
theorem YC {w:World} {ok:Nat->Prop} {v:Value} {d:D} (h:RepV Tryz.prog w ok 37 v d): ∃ p n c p' n' c',v=.agg #[.slice p n c,.slice p' n' c']:=by
 obtain⟨⟨n,hr⟩,hagg,_⟩:=h
 obtain⟨cs,rfl⟩:=hagg (by kernel_rfl)
 have hcs:(Value.agg cs).cells=cs:=rfl
 rw[hcs]at hr
 have hsz:cs.toList.length=2:=by rw[hr.len];exact agC
 obtain⟨m,ps,_,_,_,h4⟩:=hr.struct u37
 obtain⟨_,es,a,cap,_,_,q0,_⟩:=(h4 0 fa acZ).slice ae5
 obtain⟨_,es',a',cap',_,_,q1,_⟩:=(h4 1 fb adQ).slice aez
 rw[abB,acU]at q0
 rw[abv,abW]at q1
 match cs,hsz,q0,q1 with
 |⟨[x,y]⟩,_,q0,q1=>
  simp at q0 q1
  exact⟨_,_,_,_,_,_,by rw[q0,q1]⟩
theorem WV {w:World} {ok:Nat->Prop} :RepV Tryz.prog w ok 37 (.agg #[.slice none 0 0,.slice none 0 0]) (aX [] []):=by
 obtain⟨i,v,n,h1,h2,h3,h4⟩:=iE (P:=Tryz.prog) (t:=37) (z:=aX [] []) (by kernel_rfl)
 have hv:v=.agg #[.slice none 0 0,.slice none 0 0]:=by
  have e:(Tryz.prog.info? 37).bind (·.zero)=some (.agg #[.slice none 0 0,.slice none 0 0]):=by kernel_rfl
  rw[h1,Option.bind_some,h2]at e
  exact Option.some.inj e
 subst hv
 exact⟨⟨n,h4 w ok⟩,fun _=>⟨_,rfl⟩,fun hh=>absurd hh (by rw[show bu Tryz.prog 37=true by kernel_rfl];exact fun h=>by cases h)⟩
theorem Ql (w:World) (B:Nat) (x y z:Value):(vP w B x y z).os=w.os/\(vP w B x y z).tape=w.tape/\(vP w B x y z).output=w.output/\(vP w B x y z).heap.size=w.heap.size:=by
 unfold vP World.setCell
 simp
theorem ach {f:FuncId} {fn:Func} {ids:List Nat} {b:List AV} {h:List Ent} {r:D} {cond:Bool} (hf:FnOK Tryz.prog f fn) (hb:b.length=ids.length)
  (hbi: ∀ (k i:Nat),ids[k]? =some i-> ∃ (t:TypeId) (e:Ent),b[k]? =some (bxp i t)/\bQ h i=some e/\e.row=0/\e.ty=t) (hlv: ∀ i e,bQ h i=some e->e.live=true)
  (hret:cond=true->HCallOK Tryz.prog f b h (dat 37 r) (h.map some)) (hpan:cond=false-> ∃ u pv,ER Tryz.prog f b h u pv):
  HCallOK Tryz.prog 38 [clo 79 f ids] h (aL [37,4] (.agg [bif cond then r else aX [] [],.lit (.bool cond)])) (h.map some):=by
 refine⟨(show FnOK Tryz.prog 38 Tryz.f38 from⟨Tryz.func38,rfl,by kernel_rfl⟩).ex,fun w okA β vs htb hok H hargs=>?_⟩
 match vs,hargs with
 | [v],hargs=>
  obtain⟨caps,rfl,hcs,hcaps⟩:=hargs.1.2.1.d4 rfl
  have hcs:caps.size=ids.length:=hcs
  obtain⟨c0,hc0⟩:=Option.isSome_iff_exists.1 hf.2.1
  have hname : ¬ fn.name = "runtime.NumGoroutine" := by simpa using hf.2.2
  have hcf: ∀ w,(callFunc f caps).run Tryz.prog w=.ok (.enter f caps) w:=by
   intro w
   simp[callFunc,hf.1,hname,hc0]
  have hx: ∀ b,XOf β (bQ h) b->b<w.heap.size:=by
   rintro b ⟨i,e,h1,h2,rfl⟩
   exact H.siz i e h1 h2
  refine orz (R:=HPost Tryz.prog h _ (h.map some) w okA β) hcf ?_
  have hbel:Below w.heap.size w ((w.alloc (.cells #[.slice none 0 0,.slice none 0 0] 37)).alloc (.cells #[.bool false] 4)):=((Below.refl _ _).alloc (Nat.le_refl _) _).alloc (by simp) _
  have hsz:((w.alloc (.cells #[.slice none 0 0,.slice none 0 0] 37)).alloc (.cells #[.bool false] 4)).heap.size=w.heap.size+2:=by simp
  have hrow0:((w.alloc (.cells #[.slice none 0 0,.slice none 0 0] 37)).alloc (.cells #[.bool false] 4)).heap[w.heap.size]? =some (.cells #[.slice none 0 0,.slice none 0 0] 37 (0,0)):=by
   rw[(MapKept.heap_alloc _ _).2 _ (by simp)]
   exact(MapKept.heap_alloc _ _).1
  have hrow1:((w.alloc (.cells #[.slice none 0 0,.slice none 0 0] 37)).alloc (.cells #[.bool false] 4)).heap[w.heap.size+1]? =some (.cells #[.bool false] 4 (0,0)):=by
   have:=(MapKept.heap_alloc (w.alloc (.cells #[.slice none 0 0,.slice none 0 0] 37)) (.cells #[.bool false] 4)).1
   simpa using this
  generalize ((w.alloc (.cells #[.slice none 0 0,.slice none 0 0] 37)).alloc (.cells #[.bool false] 4))=w2 at hbel hsz hrow0 hrow1⊢
  have hok2: ∀ b,okA b->b<w2.heap.size:=fun b hb=>by have:=hok b hb;omega
  have H2:HeapOK Tryz.prog w2 okA β (bQ h):=H.grow hok hbel (fun _ h=>h) (fun _ h=>.inl h)
  have htb2:oz Tryz.prog (XOf β (bQ h)) w2:=fun w' hw'=>htb w' ⟨hw'.os.trans hbel.os,hw'.tape.trans hbel.tape,hw'.output.trans hbel.output,Nat.le_trans hbel.size hw'.size,fun k hk hnx=>(hw'.block k (by omega) hnx).trans (hbel.block k hk)⟩
  have hargs2:eG Tryz.prog w2 okA β (bQ h) b caps.toList:=Yj hb hcs hbi hcaps
  have hkeep: ∀ {ok':Nat->Prop} {β':Nat->Nat×Nat} {w3:World},HStay Tryz.prog h (h.map some) w2 okA β ok' β' w3->
    w3.heap[w.heap.size]? =some (.cells #[.slice none 0 0,.slice none 0 0] 37 (0,0))/\w3.heap[w.heap.size+1]? =some (.cells #[.bool false] 4 (0,0)):=by
   intro ok' β' w3 S
   refine⟨?_,?_⟩
   ·rw[S.1.block _ (by omega) (fun hh=>by have:=hx _ hh;omega)];exact hrow0
   ·rw[S.1.block _ (by omega) (fun hh=>by have:=hx _ hh;omega)];exact hrow1
  have hfin: ∀ {ok':Nat->Prop} {β':Nat->Nat×Nat} {w3:World} {x y:Value} {z:Bool} {d:D},HStay Tryz.prog h (h.map some) w2 okA β ok' β' w3->RepV Tryz.prog w3 ok' 37 (.agg #[x,y]) d->
    HPost Tryz.prog h (aL [37,4] (.agg [d,.lit (.bool z)])) (h.map some) w okA β (.returned (.tuple #[.agg #[x,y],.bool z])) (vP w3 w.heap.size x y (.bool z)):=by
   intro ok' β' w3 x y z d S hr
   obtain⟨f1,f2,f3,f4⟩:=Ql w3 w.heap.size x y (.bool z)
   obtain⟨S4,hsame⟩:=S.wrap (w4:=vP w3 w.heap.size x y (.bool z)) (.of hbel) hsz hok hx f1 f2 f3 f4 (fun k h1 h2=>VF h1 h2)
   refine S4.post ⟨by simp[aL],by simp[aL],by simp[aL],by simp[aL],by simp[aL],fun _=>⟨#[.agg #[x,y],.bool z],rfl,rfl,fun k t hk=>?_⟩,by simp[aL],by simp[aL],by simp[aL],by simp[aL],by simp[aL]⟩ (mG (by simp[aL]) (by simp[aL]) (by simp[aL]))
   match k,hk with
   |0,hk=>
    have:37=t:=by simpa [aL]using hk
    subst this
    exact hr.move hsame (fun _ h=>h)
   |1,hk=>
    have:4=t:=by simpa [aL]using hk
    subst this
    exact pg (by kernel_rfl) (by kernel_rfl)
   |k+2,hk=>simp[aL]at hk
  cases cond with
  |true=>
   have hc:=(hret rfl).call w2 okA β caps.toList htb2 hok2 H2 hargs2
   rw[Array.toArray_toList]at hc
   refine hc.mono ?_
   intro e w3 hp
   obtain⟨v,ok',β',rfl,S,hr,_⟩:=hp.parts
   have hr:=hr.d1 rfl
   obtain⟨p,n,c,p',n',c',rfl⟩:=YC hr
   exact⟨(hkeep S).1,(hkeep S).2,.inl ⟨p,n,c,p',n',c',_,_,rfl,rfl,rfl,hfin S hr⟩⟩
  |false=>
   obtain⟨u,pv,hp⟩:=hpan rfl
   have hc:=hp.call w2 okA β caps.toList htb2 hok2 H2 hargs2
   rw[Array.toArray_toList]at hc
   refine hc.mono ?_
   rintro e w3 ⟨rfl,ok',β',S⟩
   exact⟨(hkeep S).1,(hkeep S).2,.inr ⟨u,pv,rfl,hfin S WV⟩⟩
end
section
open Go.Ev
set_option linter.unusedSimpArgs false
theorem ak7 {c d q x:D} (h:iR c d q=true) (hx:adW q x=true):aiy c d q 4 x=true:=by
 unfold adW at hx
 rw[Bool.and_eq_true,aiV,decide_eq_true_eq]at hx
 unfold aiy
 have e:Qj 4 x=W9 x:=rfl
 rw[h,e,hx.2,Bool.true_and,Bool.and_true]
 have:=hx.1
 rw[bne_iff_ne]
 omega
theorem c49 {c d q:D} (h:iR c d q=true):HCallOK Tryz.prog 49 b3 (e3 c d q) (dat 37 (gp q (uo c d q))) ((e3 c d q).map some):=by
 have ha:=zx h
 refine gZ hm Sr k49 ((t49 1 c d q).trans ?_)
 have e1:oQ (jW c d q) (ae (af q 1))=uo c d q:=rfl
 rw[e1,h,cond_true,cond_true,QU (Ns ha),cond_true,SC ha,cond_true]
 rfl
theorem c39 {c d q x:D} (h:iR c d q=true) (hx:adW q x=true):HCallOK Tryz.prog 39 b4 (e4 c d q x) (dat 37 (XA c d q 4 x)) ((e4 c d q x).map some):=by
 refine gZ hm amr k39 ((t39 1 c d q x).trans ?_)
 rw[h,hx,ak7 h hx]
 rfl
theorem z49 (c d q:D):HCallOK Tryz.prog 38 [clo 79 49 [OID,OID+1,OID+2]] (e3 c d q) (aL [37,4] (.agg [xu c d q,.lit (.bool (iR c d q))])) ((e3 c d q).map some):=by
 refine ach (b:=b3) (r:=gp q (uo c d q)) k49 rfl (fun k i hk=>?_) (fun i e hi=>?_) (fun h=>c49 h) (fun h=>⟨_,_,p49 h⟩)
 ·match k,hk with
  |0,hk=>cases hk;exact⟨24,_,rfl,rfl,rfl,rfl⟩
  |1,hk=>cases hk;exact⟨27,_,rfl,rfl,rfl,rfl⟩
  |2,hk=>cases hk;exact⟨31,_,rfl,rfl,rfl,rfl⟩
  |k+3,hk=>cases hk
 ·unfold bQ at hi
  split at hi
  ·cases hi
  ·have:=List.mem_of_getElem? hi
   simp only[e3,List.mem_cons,List.not_mem_nil,or_false]at this
   rcases this with rfl|rfl|rfl<;>rfl
theorem z39 (c d q x:D):HCallOK Tryz.prog 38 [clo 79 39 [OID,OID+1,OID+2,OID+3]] (e4 c d q x) (aL [37,4] (.agg [ahE c d q x,.lit (.bool (iR c d q&&adW q x))])) ((e4 c d q x).map some):=by
 refine ach (b:=b4) (r:=XA c d q 4 x) k39 rfl (fun k i hk=>?_) (fun i e hi=>?_) (fun h=>?_) (fun h=>⟨_,_,p39 h⟩)
 ·match k,hk with
  |0,hk=>cases hk;exact⟨24,_,rfl,rfl,rfl,rfl⟩
  |1,hk=>cases hk;exact⟨27,_,rfl,rfl,rfl,rfl⟩
  |2,hk=>cases hk;exact⟨31,_,rfl,rfl,rfl,rfl⟩
  |3,hk=>cases hk;exact⟨34,_,rfl,rfl,rfl,rfl⟩
  |k+4,hk=>cases hk
 ·unfold bQ at hi
  split at hi
  ·cases hi
  ·have:=List.mem_of_getElem? hi
   simp only[e4,List.mem_cons,List.not_mem_nil,or_false]at this
   rcases this with rfl|rfl|rfl|rfl<;>rfl
 ·rw[Bool.and_eq_true]at h
  exact c39 h.1 h.2
def adX:List AV:=[clo 79 49 [OID,OID+1,OID+2]]
def alZ:List AV:=[clo 79 39 [OID,OID+1,OID+2,OID+3]]
def ac3:List Ent:=[⟨24,.nil,0,none⟩,⟨27,.nil,0,none⟩,⟨31,.nil,0,none⟩]
def al9:List Ent:=[⟨24,.nil,0,none⟩,⟨27,.nil,0,none⟩,⟨31,.nil,0,none⟩,⟨34,.nil,0,none⟩]
def adb (ds hs:List D):uN:=match ds,hs with
 | [_],[c,d,q]=>some (aL [37,4] (.agg [xu c d q,.lit (.bool (iR c d q))]),[some ⟨24,c,0,none⟩,some ⟨27,d,0,none⟩,some ⟨31,q,0,none⟩])
 |_,_=>none
def amu (ds hs:List D):uN:=match ds,hs with
 | [_],[c,d,q,x]=>some (aL [37,4] (.agg [ahE c d q x,.lit (.bool (iR c d q&&adW q x))]),[some ⟨24,c,0,none⟩,some ⟨27,d,0,none⟩,some ⟨31,q,0,none⟩,some ⟨34,x,0,none⟩])
 |_,_=>none
def H8a:uQ:=[(38,43,fD adX ac3 (fun _ _=>true),iZ adX ac3 adb)]
def H8r:uQ:=[(38,43,fD alZ al9 (fun _ _=>true),iZ alZ al9 amu)]
theorem abR:EnvOK Tryz.prog (bT M4 H8a):=bJ Sr (fV rfl rfl fun ds es r h' _ hd=>by
 unfold adb at hd
 split at hd
 ·rename_i z c d q
  simp only[Option.some.injEq,Prod.mk.injEq]at hd
  obtain⟨rfl,rfl⟩:=hd
  exact z49 c d q
 ·cases hd)
theorem alP:EnvOK Tryz.prog (bT M4 H8r):=bJ Sr (fV rfl rfl fun ds es r h' _ hd=>by
 unfold amu at hd
 split at hd
 ·rename_i z c d q x
  simp only[Option.some.injEq,Prod.mk.injEq]at hd
  obtain⟨rfl,rfl⟩:=hd
  exact z39 c d q x
 ·cases hd)
end
section
open Go.Ev
/- roadbook/means.All -/
def aeo:ay:=fun _=>none
theorem t18 (N:Nat) (x0:D) (x1:D) (x2:D):aU Tryz.prog (ak M4 H8a [] []) aeo N Tryz.f18 [dat 24 x0,dat 27 x1,dat 31 x2]=
 some (aL [37,4] (.agg [xu x0 x1 x2,.lit (.bool (iR x0 x1 x2))])):=by kernel_rfl
/- roadbook/means.Rows -/
def alR:ay:=fun _=>none
theorem t14 (N:Nat) (x0:D) (x1:D) (x2:D) (x3:D):aU Tryz.prog (ak M4 H8r [] []) alR N Tryz.f14 [dat 24 x0,dat 27 x1,dat 31 x2,dat 34 x3]=
 some (aL [37,4] (.agg [ahE x0 x1 x2 x3,.lit (.bool (iR x0 x1 x2&&adW x2 x3))])):=by kernel_rfl
end
section
open Go.Ev
set_option linter.unusedSimpArgs false
def e18:FuncId×TypeId×(List AV->Bool)×(List AV->Option D):=(18,43,yes,ent [24,27,31] (f3 fun x y z=>some (.agg [xu x y z,.lit (.bool (iR x y z))])))
theorem k18:FnOK Tryz.prog 18 Tryz.f18:=⟨Tryz.func18,rfl,by kernel_rfl⟩
theorem c18: ∀ args d,e18.2.2.2 args=some d->CallOK Tryz.prog 18 args (aj Tryz.prog 43 d):=
 O7 k18 fun x y z d h _ _ _=>by
  cases h
  rw[tX,Dz,xX]
  refine aI hm abR k18 ((t18 1 x y z).trans ?_)
  rw[Ua]
def e14:FuncId×TypeId×(List AV->Bool)×(List AV->Option D):=(14,43,yes,ent [24,27,31,34] (f4 fun x y z u=>some (.agg [ahE x y z u,.lit (.bool (iR x y z&&adW z u))])))
theorem k14:FnOK Tryz.prog 14 Tryz.f14:=⟨Tryz.func14,rfl,by kernel_rfl⟩
theorem c14: ∀ args d,e14.2.2.2 args=some d->CallOK Tryz.prog 14 args (aj Tryz.prog 43 d):=
 ag0 k14 fun x y z u d h _ _ _ _=>by
  cases h
  rw[tX,Dz,xX,ale]
  refine aI hm alP k14 ((t14 1 x y z u).trans ?_)
  rw[Ua]
def M5:Tab:=e18::e14::M4
theorem aau:EnvOK Tryz.prog (bT M5 []):=ah (ah Sr c14) c18
theorem Jc {c d q:D} :lG (xu c d q)=true:=by
 obtain⟨h1,h2⟩:=XD (c:=c) (d:=d) (q:=q)
 exact wM.2 ⟨by omega,fun r hr=>by have:=h2 r hr;omega⟩
end
section
open Go.Ev
/- roadbook/means.Right -/
def ac5:ay:=fun _=>none
theorem t21 (N:Nat) (x0:D) (x1:D) (x2:D) (x3:D):aU Tryz.prog (ak M5 [] [] []) ac5 N Tryz.f21 [dat 24 x0,dat 27 x1,dat 31 x2,dat 37 x3]=
 bif ((iR x0 x1 x2)==true)then
  bif lG (xu x0 x1 x2)&&lG x3 then
   bif ((ja (xu x0 x1 x2) x3)==true)then
    bif (((intD (af x2 5))==(-1))==false)then
     some (dat 4 (.lit (.bool (sortedB x3 (intD (af x2 5))))))
    else some (dat 4 (.lit (.bool true)))
   else some (dat 4 (.lit (.bool false)))
  else none
 else some (dat 4 (.lit (.bool false))):=by kernel_rfl
end
section
open Go.Ev
set_option linter.unusedSimpArgs false
def e21:FuncId×TypeId×(List AV->Bool)×(List AV->Option D):=(21,4,jU (q4 fun _ _ _ u=>lG u),ent [24,27,31,37] (f4 fun x y z u=>some (.lit (.bool (qf ja x y z u)))))
theorem k21:FnOK Tryz.prog 21 Tryz.f21:=⟨Tryz.func21,rfl,by kernel_rfl⟩
theorem yg {c d q b:D} (h:iR c d q=true):qf ja c d q b=(ja (xu c d q) b&&(yh q== -1||sortedB b (yh q))):=by
 unfold qf
 rw[h,Bool.true_and,SC (zx h),Bool.true_and]
 unfold xu
 rw[h,cond_true]
theorem U8 {c d q b:D} (h:iR c d q=false):qf ja c d q b=false:=by
 unfold qf
 rw[h,Bool.false_and]
theorem c21: ∀ args d,e21.2.2.1 args=true->e21.2.2.2 args=some d->CallOK Tryz.prog 21 args (aj Tryz.prog 4 d):=
 ZZ k21 fun x y z u d hq h _ _ _ _=>by
  cases h
  rw[tX,Dz,xX,nB]
  refine aI hm aau k21 ((t21 1 x y z u).trans ?_)
  rw[m4,Jc,show lG u=true from hq]
  cases ha:iR x y z with
  |false=>rw[U8 ha];rfl
  |true=>
   rw[yg ha]
   cases ja (xu x y z) u with
   |false=>rfl
   |true=>
    show(bif (yh z== -1)==false then _ else _)=some (dat 4 (.lit (.bool (yh z== -1||sortedB u (yh z)))))
    cases yh z== -1<;>rfl
def M6:Tab:=e21::M5
theorem ZM:EnvOK Tryz.prog (bT M6 []):=aO aau c21
end
section
open Go.Ev
/- roadbook/roadbooklaw07.awake -/
def ag1:ay:=fun _=>none
theorem t9 (N:Nat):aU Tryz.prog (ak M6 [] [] []) ag1 N Tryz.f9 []=
 bif ((iR kZ jd (.agg [.slice [.lit (.int .i64 0)] [],.slice [.agg [.lit (.int .i64 7),.lit (.int .i64 0),.agg [.lit (.int .i64 0),.lit (.int .i64 0)],.slice [.agg [.lit (.int .i64 1),.lit (.int .i64 0),.agg [.lit (.int .i64 0),.lit (.int .i64 0)],.slice [] []],.agg [.lit (.int .i64 0),.lit (.int .i64 0),.agg [.lit (.int .i64 0),.lit (.int .i64 3)],.slice [] []]] []]] [],.lit (.int .i64 (-1)),.slice [] [],.slice [.lit (.int .i64 1)] [],.lit (.int .i64 (-1))]))==true)then
  bif ((RI (xu kZ jd (.agg [.slice [.lit (.int .i64 0)] [],.slice [.agg [.lit (.int .i64 7),.lit (.int .i64 0),.agg [.lit (.int .i64 0),.lit (.int .i64 0)],.slice [.agg [.lit (.int .i64 1),.lit (.int .i64 0),.agg [.lit (.int .i64 0),.lit (.int .i64 0)],.slice [] []],.agg [.lit (.int .i64 0),.lit (.int .i64 0),.agg [.lit (.int .i64 0),.lit (.int .i64 3)],.slice [] []]] []]] [],.lit (.int .i64 (-1)),.slice [] [],.slice [.lit (.int .i64 1)] [],.lit (.int .i64 (-1))])) (.agg [.slice [.lit (.int .i64 1)] [],.slice [.slice [.agg [.lit (.int .i64 0),.lit (.int .i64 2)]] []] []]))==true)then
   bif ((qf ja kZ jd (.agg [.slice [.lit (.int .i64 0)] [],.slice [.agg [.lit (.int .i64 7),.lit (.int .i64 0),.agg [.lit (.int .i64 0),.lit (.int .i64 0)],.slice [.agg [.lit (.int .i64 1),.lit (.int .i64 0),.agg [.lit (.int .i64 0),.lit (.int .i64 0)],.slice [] []],.agg [.lit (.int .i64 0),.lit (.int .i64 0),.agg [.lit (.int .i64 0),.lit (.int .i64 3)],.slice [] []]] []]] [],.lit (.int .i64 (-1)),.slice [] [],.slice [.lit (.int .i64 1)] [],.lit (.int .i64 (-1))]) (.agg [.slice [.lit (.int .i64 1)] [],.slice [.slice [.agg [.lit (.int .i64 0),.lit (.int .i64 2)]] []] []]))==true)then
    some (dat 4 (.lit (.bool (!(qf ja kZ jd (.agg [.slice [.lit (.int .i64 0)] [],.slice [.agg [.lit (.int .i64 7),.lit (.int .i64 0),.agg [.lit (.int .i64 0),.lit (.int .i64 0)],.slice [.agg [.lit (.int .i64 1),.lit (.int .i64 0),.agg [.lit (.int .i64 0),.lit (.int .i64 0)],.slice [] []],.agg [.lit (.int .i64 0),.lit (.int .i64 0),.agg [.lit (.int .i64 0),.lit (.int .i64 3)],.slice [] []]] []]] [],.lit (.int .i64 (-1)),.slice [] [],.slice [.lit (.int .i64 1)] [],.lit (.int .i64 (-1))]) (.agg [.slice [.lit (.int .i64 1)] [],.slice [] []]))))))
   else some (dat 4 (.lit (.bool false)))
  else some (dat 4 (.lit (.bool false)))
 else some (dat 4 (.lit (.bool false))):=by kernel_rfl
end
section
open Go.Ev
set_option linter.unusedSimpArgs false
def qAw:D:=.agg [.slice [.lit (.int .i64 0)] [],.slice [.agg [.lit (.int .i64 7),.lit (.int .i64 0),.agg [.lit (.int .i64 0),.lit (.int .i64 0)],.slice [.agg [.lit (.int .i64 1),.lit (.int .i64 0),.agg [.lit (.int .i64 0),.lit (.int .i64 0)],.slice [] []],.agg [.lit (.int .i64 0),.lit (.int .i64 0),.agg [.lit (.int .i64 0),.lit (.int .i64 3)],.slice [] []]] []]] [],.lit (.int .i64 (-1)),.slice [] [],.slice [.lit (.int .i64 1)] [],.lit (.int .i64 (-1))]
def wAw:D:=.agg [.slice [.lit (.int .i64 1)] [],.slice [.slice [.agg [.lit (.int .i64 0),.lit (.int .i64 2)]] []] []]
def oAw:D:=.agg [.slice [.lit (.int .i64 1)] [],.slice [] []]
theorem aw1:iR kZ jd qAw=true:=by kernel_rfl
theorem aw2:xu kZ jd qAw=wAw:=by kernel_rfl
theorem aw3:RI wAw wAw=true:=by kernel_rfl
theorem aw4:ja wAw wAw=true:=UQ (by kernel_rfl) (List.Perm.refl _)
theorem aw5:ja wAw oAw=false:=by kernel_rfl
theorem aw6:qf ja kZ jd qAw wAw=true:=by rw[yg aw1,aw2,aw4];rfl
theorem aw7:qf ja kZ jd qAw oAw=false:=by rw[yg aw1,aw2,aw5];rfl
def e9:FuncId×TypeId×(List AV->Bool)×(List AV->Option D):=(9,4,yes,ent [] (f0 (some (.lit (.bool true)))))
theorem k9:FnOK Tryz.prog 9 Tryz.f9:=⟨Tryz.func9,rfl,by kernel_rfl⟩
theorem c9: ∀ args d,e9.2.2.2 args=some d->CallOK Tryz.prog 9 args (aj Tryz.prog 4 d):=
 YP fun d h=>by
  cases h
  refine aI hm ZM k9 ((t9 1).trans ?_)
  rw[m4]
  show(bif iR kZ jd qAw==true then bif RI (xu kZ jd qAw) wAw==true then bif qf ja kZ jd qAw wAw==true then some (dat 4 (.lit (.bool (!qf ja kZ jd qAw oAw))))else _ else _ else _)=_
  rw[aw1,aw2,aw3,aw6,aw7]
  rfl
def M7:Tab:=e9::M6
theorem ac2:EnvOK Tryz.prog (bT M7 []):=ah ZM c9
end
section
open Go.Ev
/- roadbook/roadbooklaw07.MeansCols -/
def amW:ay:=fun i=>if i=12 then some ([0,1,2,3,4,5,7,8,9,10,12,17,18,19,20,21,22,23,24,25,26,27,28,29,30,31,32,33,34,35,36,37,38,39,40,41,42,43,44,45,46,47,48,49,50,51,52,53,54,55,56,57,58,59,60,61,62,63,64,65,66,67,68,69,70,71,72,73,74,75,76,77,78,79,80,81,82,83,84,85,86,87,88,89,90,91,92,93,94,95,96,97,98,99,100,101,102,103,104,105,106,107,108,109,110,111,112,113,114,115,116,117,118,119,120,121,122,123,124,125,126,127,128,129,130,131],[6,11,14],[])else none
def alK (P:Program) (fn:Func) (N n:Nat) (x0:D) (x1:D) (x2:D) (x3:D) (v16:Int) (b14:List D):Option AV:=aN (preL amW (sub [1,1,1,1,1,1,1,1,1,0,1,0,0] (ag fn))) (az P (ak M7 [] [] []) amW N (sub [1,1,1,1,1,1,1,1,1,0,1,0,0] (ag fn))) n ⟨[dead,dead,dead,dead,dead,dead,bxp 6 31,dead,dead,dead,dead,bxp 11 37,dead,dat 28 (.slice (ahG x0 x2 (W9 x3)) []),bxp 14 29,dat 28 (.slice (afL x2 (W9 x3)) []),dat 3 (.lit (.int .i64 v16)),dead,dead,dead,dead,dead,dead,dead,dead,dead,dead,dead,dead,dead,dead,dead,dead,dead,dead,dead,dead,dead,dead,dead,dead,dead,dead,dead,dead,dead,dead,dead,dead,dead,dead,dead,dead,dead,dead,dead,dead,dead,dead,dead,dead,dead,dead,dead,dead,dead,dead,dead,dead,dead,dead,dead,dead,dead,dead,dead,dead,dead,dead,dead,dead,dead,dead,dead,dead,dead,dead,dead,dead,dead,dead,dead,dead,dead,dead,dead,dead,dead,dead,dead,dead,dead,dead,dead,dead,dead,dead,dead,dead,dead,dead,dead,dead,dead,dead,dead,dead,dead,dead,dead,dead,dead,dead,dead,dead,dead,dead,dead,dead,dead,dead,dead],aZ [(6,some ⟨31,x2,0,none⟩),(11,some ⟨37,ahE x0 x1 x2 x3,0,none⟩),(14,some ⟨29,.slice b14 [],1,none⟩)]⟩ (aG 0 (cZ P (ak M7 [] [] []) amW N (sub [1,1,1,1,1,1,1,1,1,1] (ag fn)) (dJ P fn)))
theorem amT (N n:Nat) (x0:D) (x1:D) (x2:D) (x3:D) (v16:Int) (b14:List D):alK Tryz.prog Tryz.f6 N (n+1) x0 x1 x2 x3 v16 b14=
 bif decide (v16<((afL x2 (W9 x3)).length:Int))then
  bif (decide (0<=v16)&&decide (v16<((afL x2 (W9 x3)).length:Int)))then
   bif ((decide ((intD ((afL x2 (W9 x3)).getD (v16).toNat .nil))<0))==false)then
    bif (decide (0<=v16)&&decide (v16<((afL x2 (W9 x3)).length:Int)))then
     bif decide ((intD ((afL x2 (W9 x3)).getD (v16).toNat .nil))>=((ae (af x2 1)).length:Int))then
      some (dat 4 (.lit (.bool false)))
     else bif (decide (0<=v16)&&decide (v16<((afL x2 (W9 x3)).length:Int)))then
       bif (decide (0<=(intD ((afL x2 (W9 x3)).getD (v16).toNat .nil)))&&decide ((intD ((afL x2 (W9 x3)).getD (v16).toNat .nil))<((ae (af x2 1)).length:Int)))then
        bif decide ((b14).length+1<=2147483648)then
         alK Tryz.prog Tryz.f6 N n x0 x1 x2 x3 (IntKind.wrap .i64 (v16+1)) (b14++[(ae (af x2 1)).getD (intD ((afL x2 (W9 x3)).getD (v16).toNat .nil)).toNat .nil])
        else none
       else none
      else none
    else none
   else some (dat 4 (.lit (.bool false)))
  else none
 else bif ((bn (ahE x0 x1 x2 x3))==true)then
   bif ((gy (ahE x0 x1 x2 x3) (ahG x0 x2 (W9 x3)))==true)then
    bif ((((ae (af (ahE x0 x1 x2 x3) 0)).length:Int)==((ahG x0 x2 (W9 x3)).length:Int))==true)then
     bif ((((ae (af (gI (ahE x0 x1 x2 x3) (ahG x0 x2 (W9 x3))) 1)).length:Int)==((ae (af (ahE x0 x1 x2 x3) 1)).length:Int))==true)then
      bif iY (ahE x0 x1 x2 x3)then
       some (dat 4 (.lit (.bool (RI (oQ (ahE x0 x1 x2 x3) b14) (ahE x0 x1 x2 x3)))))
      else none
     else some (dat 4 (.lit (.bool false)))
    else some (dat 4 (.lit (.bool false)))
   else some (dat 4 (.lit (.bool false)))
  else some (dat 4 (.lit (.bool false))):=by kernel_rfl
theorem t6 (N:Nat) (x0:D) (x1:D) (x2:D) (x3:D):aU Tryz.prog (ak M7 [] [] []) amW N Tryz.f6 [dat 24 x0,dat 27 x1,dat 31 x2,dat 34 x3]=
 bif ((!(ahK X.fewB x0 x1 x2))==false)then
  bif (((agx x1 x2)!=0)==false)then
   bif (decide (0<=100)&&decide (100<((101:Nat):Int))&&decide (101<=101))then
    bif decide ((szK 101 x3 100)>100)then
     some (dat 4 (.lit (.bool true)))
    else bif (!(iR x0 x1 x2&&adW x2 x3))then
      some (dat 4 (.lit (.bool (((ae (af (ahE x0 x1 x2 x3) 1)).length:Int)==0))))
     else bif decide ((qP x2).length<=2147483647)then
       alK Tryz.prog Tryz.f6 N N x0 x1 x2 x3 0 []
      else none
   else none
  else some (dat 4 (.lit (.bool true)))
 else some (dat 4 (.lit (.bool true))):=by kernel_rfl
end
section
open Go.Ev
set_option linter.unusedSimpArgs false
theorem amY {c d q t:D} (T:ToldT c d q t):
  (bif ((bn (ahE c d q t))==true)then
   bif ((gy (ahE c d q t) (ahG c q (W9 t)))==true)then
    bif ((((ae (af (ahE c d q t) 0)).length:Int)==((ahG c q (W9 t)).length:Int))==true)then
     bif ((((ae (af (gI (ahE c d q t) (ahG c q (W9 t))) 1)).length:Int)==((ae (af (ahE c d q t) 1)).length:Int))==true)then
      bif iY (ahE c d q t)then
       some (dat 4 (.lit (.bool (RI (oQ (ahE c d q t) (aiN q (W9 t))) (ahE c d q t)))))
      else none
     else some (dat 4 (.lit (.bool false)))
    else some (dat 4 (.lit (.bool false)))
   else some (dat 4 (.lit (.bool false)))
  else some (dat 4 (.lit (.bool false))))=some (dat 4 (.lit (.bool true))):=by
 have h1:((ae (af (ahE c d q t) 0)).length:Int)=((ahG c q (W9 t)).length:Int):=by have:=T.colsLen;exact_mod_cast this
 have h2:((ae (af (gI (ahE c d q t) (ahG c q (W9 t))) 1)).length:Int)=((ae (af (ahE c d q t) 1)).length:Int):=by have:=aku T.pick;exact_mod_cast this
 have b1:(((ahG c q (W9 t)).length:Int)==((ahG c q (W9 t)).length:Int))=true:=beq_self_eq_true _
 have b2:(((ae (af (ahE c d q t) 1)).length:Int)==((ae (af (ahE c d q t) 1)).length:Int))=true:=beq_self_eq_true _
 rw[T.may,T.pick,h1,h2,b1,b2,QU T.may,T.again]
 rfl
theorem amR {c d q t:D} (T:ToldT c d q t) {N:Nat} : ∀ (n i:Nat),i<=(afL q (W9 t)).length->(afL q (W9 t)).length - i<n->
  alK Tryz.prog Tryz.f6 N n c d q t (i:Int) (((afL q (W9 t)).take i).map fun z=>(qP q).getD (intD z).toNat .nil)=some (dat 4 (.lit (.bool true)))
 |0,i,_,h=>by omega
 |n+1,i,hi,h=>by
  have hat:=alD T.asks.p6 (W9 t)
  unfold acX at hat
  simp only[Bool.and_eq_true,decide_eq_true_eq,List.all_eq_true]at hat
  obtain⟨hk,hin⟩:=hat
  rw[amT]
  by_cases hlt:i<(afL q (W9 t)).length
  ·have hp:=hin _ (List.getElem_mem hlt)
   have w1:IntKind.wrap .i64 ((i:Int)+1)=((i+1:Nat):Int):=by rw[aH (l_in (by omega) (by omega))];omega
   have e1:decide (intD (afL q (W9 t))[i]<0)=false:=by rw[decide_eq_false_iff_not];omega
   have e2:decide (intD (afL q (W9 t))[i]>=((ae (af q 1)).length:Int))=false:=by rw[decide_eq_false_iff_not];have:intD (afL q (W9 t))[i]<((ae (af q 1)).length:Int):=hp.2;omega
   have e3:(decide (0<=intD (afL q (W9 t))[i])&&decide (intD (afL q (W9 t))[i]<((ae (af q 1)).length:Int)))=true:=by
    simp only[Bool.and_eq_true,decide_eq_true_eq];exact hp
   have e4:decide ((((afL q (W9 t)).take i).map fun z=>(qP q).getD (intD z).toNat .nil).length+1<=2147483648)=true:=by
    rw[decide_eq_true_eq,List.length_map,List.length_take];omega
   have e5:(((afL q (W9 t)).take i).map fun z=>(qP q).getD (intD z).toNat .nil)++[(ae (af q 1)).getD (intD (afL q (W9 t))[i]).toNat .nil]=((afL q (W9 t)).take (i+1)).map fun z=>(qP q).getD (intD z).toNat .nil:=by
    rw[List.take_succ_eq_append_getElem hlt,List.map_append]
    rfl
   rw[bG hlt,eY hlt,cond_true,cond_true,cond_true,cond_true,Int.toNat_natCast,dA hlt,e1]
   show(bif decide (intD (afL q (W9 t))[i]>=((ae (af q 1)).length:Int))then _ else _)=_
   rw[e2,cond_false,e3,cond_true,e4,cond_true,e5,w1]
   exact amR T n (i+1) (by omega) (by omega)
  ·have hi2:i=(afL q (W9 t)).length:=by omega
   rw[fB hlt,cond_false,hi2,List.take_length]
   have e:((afL q (W9 t)).map fun z=>(qP q).getD (intD z).toNat .nil)=aiN q (W9 t):=alx q (W9 t)
   rw[e]
   exact amY T
theorem amS (c d q t:D):aU Tryz.prog (ak M7 [] [] []) amW ((afL q (W9 t)).length+1) Tryz.f6 [dat 24 c,dat 27 d,dat 31 q,dat 34 t]=some (dat 4 (.lit (.bool true))):=by
 rw[t6]
 cases ahK X.fewB c d q with
 |false=>rfl
 |true=>
  show(bif ((agx d q !=0)==false)then _ else _)=_
  cases (agx d q !=0)with
  |true=>rfl
  |false=>
   show(bif decide (szK 101 t 100>100)then _ else _)=_
   cases decide (szK 101 t 100>100)with
   |true=>rfl
   |false=>
    rw[cond_false]
    cases ha:(iR c d q&&adW q t)with
    |false=>
     show some (dat 4 (.lit (.bool (((ae (af (ahE c d q t) 1)).length:Int)==0))))=_
     have e:ahE c d q t=aX [] []:=by unfold ahE;rw[ha];rfl
     rw[e]
     rfl
    |true=>
     rw[Bool.and_eq_true]at ha
     have T:=aiZ ait ha.1 ha.2
     have e:decide ((qP q).length<=2147483647)=true:=by rw[decide_eq_true_eq];have:=T.asks.p6;omega
     have key:=amR T (N:=(afL q (W9 t)).length+1) ((afL q (W9 t)).length+1) 0 (by omega) (by omega)
     have z:((0:Nat):Int)=0:=rfl
     rw[List.take_zero,List.map_nil,z]at key
     rw[e,Bool.not_true,cond_false,cond_true]
     exact key
theorem k6:FnOK Tryz.prog 6 Tryz.f6:=⟨Tryz.func6,rfl,by kernel_rfl⟩
theorem am1 (c d q t:D):CallOK Tryz.prog 6 [dat 24 c,dat 27 d,dat 31 q,dat 34 t] (dat 4 (.lit (.bool true))):=by
 have e0:(dat 4 (.lit (.bool true)):AV)=aj Tryz.prog 4 (.lit (.bool true)):=(m4 (.lit (.bool true))).symm
 rw[e0]
 refine aI hm ac2 k6 ((amS c d q t).trans ?_)
 rw[<-e0]
end
end Go.Proofs.YtpceahbengfjeaaGreatDoor
