/- Trees of functions, and lemmas. Nothing here is trusted. -/
import Derived.Test.YtpceahbengfjeaaGreatDoorZ34
import Derived.Maps.Own
import Derived.Maps.OwnOps
import Derived.Maps.Views
namespace Go.Proofs.YtpceahbengfjeaaGreatDoor
open Go.Shelf Go.RowKit Go.Maps
set_option linter.unusedVariables false
theorem GY:Keyed Tryz.prog 9:=string_keyed Tryz.underlying9
theorem zero3 (w:World):(zeroValue 3).run Tryz.prog w=.ok (.int .i64 0) w:=by kernel_rfl
theorem aeO {l:List UInt8} (h:l.length<=1000000000):keyOf Tryz.prog 9 (.string ⟨l.toArray⟩)=some (.string l):=by
 rw[keyOf_string Tryz.underlying9]
 unfold mapKey
 rw[Tryz.underlying9]
 show(if(ByteArray.mk l.toArray).size<=maxLen then some (Lit.string l.toArray.toList)else none)=_
 rw[if_pos (by show l.toArray.size<=maxLen;simp[maxLen];omega)]
def XL (w:World) (b n:Nat) (f:List UInt8->Nat):Prop:=
 ∃ D:DataW Unit,w.ownsMap Tryz.prog 9 (plainElem Tryz.prog 3) b n D/\IsMap D/\ ∀ key,D.atKey (.string key) (.lit (.int .i64 0))=.lit (.int .i64 (f key))
theorem WO {D:DataW Unit} {f:List UInt8->Nat} (hm:IsMap D) (h: ∀ key,D.atKey (.string key) (.lit (.int .i64 0))=.lit (.int .i64 (f key))) (k:List UInt8) (c:Nat) (key:List UInt8):
  (D.put (.string k) (.lit (.int .i64 c))).atKey (.string key) (.lit (.int .i64 0))=.lit (.int .i64 ((if key=k then c else f key:Nat):Int)):=by
 by_cases hk:key=k
 ·subst hk
  rw[atKey_put_same hm (show WideAt.IsKeyLit (.string key)from trivial),if_pos rfl]
 ·rw[atKey_put_other (by intro h;cases h;exact hk rfl),h,if_neg hk]
theorem own_below {H:Type} {P:Program} {k:TypeId} {R:Value->Option (DataW H×List MemPlace)} {w w':World} {b n B:Nat} {D:DataW H} (h:w.ownsMap P k R b n D) (hb:Below B w w') (hlt:b<B):w'.ownsMap P k R b n D:=by
 obtain⟨es,clock,hbk,F,hs,hD⟩:=h
 exact⟨es,clock,(hb.block b hlt).trans hbk,F,hs,hD⟩
theorem QG (l:List (List UInt8)) (k:Nat) (h:k<l.length):l.take (k+1)=l.take k++[l.getD k []]:=by
 rw[List.take_add_one]
 simp[List.getElem?_eq_getElem h,List.getD]
theorem wrap_small {n:Nat} (h:n<=2000000):wrap64 ((n:Int)+1)=((n+1:Nat):Int):=by
 unfold wrap64
 omega
def aeH (w:World) (b off:Nat) (ws:List (List UInt8)):Prop:=
 ∀ j,j<ws.length-> ∃ rv,w.cell? ⟨b,off+j,none⟩=some rv/\ ∀ w',Below w.heap.size w w'->Calls Tryz.prog 69 #[rv] w' fun e w''=>e=.returned (.string ⟨(ws.getD j []).toArray⟩)/\Below w'.heap.size w' w''
def Qu (w:World) (a:Option Addr) (ws:List (List UInt8)):Prop:=0<ws.length-> ∃ b off,a=some ⟨b,off,none⟩/\b<w.heap.size/\aeH w b off ws
theorem BM {P:Program} {t kt et:TypeId} (ht:P.underlying t=some (.map kt et)) (n:Int) (w:World):(Instr.makeMap t (some (.int .i64 n))).run P w=.ok (.map (some w.heap.size)) (w.alloc (.map #[] 0)):=by
 simp[Instr.makeMap,run_underlying ht,asInt,asIntOf]
set_option maxHeartbeats 6400000 in
set_option maxRecDepth 100000 in
theorem Q8 (a:Option Addr) (len cap:Nat) (ws:List (List UInt8)) (w:World) (hlen:ws.length=len) (hsm:len<=1000000) (hsz: ∀ l∈ws,l.length<=1000000000) (hA:Qu w a ws):
  Calls Tryz.prog 68 #[.slice a len cap] w fun e w'=>e=.returned (.map (some w.heap.size))/\XL w' w.heap.size len (fun key=>ws.count key)/\Below w.heap.size w w'/\w.heap.size<w'.heap.size:=by
 have hmm:=fun n w=>BM (P:=Tryz.prog) Tryz.underlying99 n w
 go_enter Tryz.func68,Tryz.ntmps68
 go_wp2
 go_loopw [11] (fun i wr=> ∃ k:Nat,k<=len/\i=.int .i64 k/\XL wr w.heap.size k (fun key=>(ws.take k).count key)/\Below w.heap.size w wr/\w.heap.size<wr.heap.size)
  (fun i _=>len - (intOf i).toNat)
 case atStart=>exact⟨0,Nat.zero_le _,rfl,⟨.map [],World.ownsMap_made _ _ _ _,isMap_empty,fun key=>rfl⟩,(Below.refl _ _).alloc (Nat.le_refl _) _,by simp⟩
 case round=>
  obtain⟨k,hk,rfl,⟨D,hown,hm,hat0⟩,hnx,hsz1⟩:=hrel
  obtain⟨s,hs⟩: ∃ s,ws.getD k []=s:=⟨_,rfl⟩
  have hsl:k<len->s.length<=1000000000:=fun h=>by
   refine hsz s ?_
   rw[<-hs,List.getD_eq_getElem?_getD,List.getElem?_eq_getElem (by omega)]
   exact List.getElem_mem _
  by_cases hlt:k<len
  ·obtain⟨b,off,rfl,hb,hrow⟩:=hA (by omega)
   obtain⟨rv,hc,hcall⟩:=hrow k (by omega)
   rw[hs]at hcall
   have HS:=Lib.hid hs
   clear hs
   have hcx:wr.cell? ⟨b,off+k,none⟩=some rv:=(hnx.cell (by exact hb)).trans hc
   go_wp2_with (go_at_call 69;refine Hid.out ?_)
   refine Lib.hid ?_
   refine(hcall wr hnx).mono ?_
   rintro e w1 ⟨rfl,hb1⟩
   have hown1:=own_below hown hb1 hsz1
   have hkey:=aeO (hsl hlt)
   have hnx1:=hnx.trans (hb1.mono hnx.size)
   have hsz2:=hb1.size
   go_wp2_with (first
    |(at_lookup;refine wpList_lookup_own_int _ rfl _ _ 99 rfl 9 3 .i64 GY Tryz.underlying99 Tryz.underlying3 (zero3 _) w.heap.size k _ rfl hown1 _ _ rfl hkey ?_;intro c hat hwc)
    |(at_mapUpdate;refine wpList_mapUpdate_own _ rfl _ _ _ 99 rfl 9 3 GY Tryz.underlying99 _ w.heap.size k _ rfl hown1 (by unfold maxLen;omega) _ _ _ rfl rfl hkey _ [] (plainElem_int Tryz.underlying3 (wrap64_wf _)) ?_;intro w2 hown2 hgrow2)
    |go_in)
   go_roundw
   case rel=>
    have hs:=HS.out
    have hcn:c=(((ws.take k).count s:Nat):Int):=by
     have h1:=hat0 s
     rw[hat]at h1
     injection h1 with h1
     injection h1
    have hle:(ws.take k).count s<=1000000:=Nat.le_trans List.count_le_length (by rw[List.length_take];omega)
    rw[hcn,wrap_small (by omega)]at hown2
    refine⟨k+1,by omega,by go_num,⟨_,hown2,hm.put _ _,fun key=>?_⟩,hnx1.grown hgrow2 hnx1.size (fun j hj=>by cases hj;exact Nat.le_refl _),by have:=hgrow2.size;omega⟩
    rw[WO hm hat0,QG ws k (by omega),hs]
    show DataW.lit (Lit.int .i64 _)=DataW.lit (Lit.int .i64 ((List.count key (ws.take k++[s]):Nat):Int))
    rw[List.count_append,List.count_singleton]
    by_cases hks:key=s
    ·subst hks;simp
    ·simp[hks,Ne.symm hks]
   case measure=>simp[intOf];omega
  ·have:k=len:=by omega
   subst this
   go_wp2
   go_ret
   rw[List.take_of_length_le (by omega)]at hat0
   exact⟨rfl,⟨D,hown,hm,hat0⟩,hnx,hsz1⟩
def Iu (f:List UInt8->Nat):List (List UInt8)->Bool
 | []=>true
 |k::l=>if f k=0 then false else Iu (fun x=>if x=k then f k - 1 else f x) l
theorem aca (z:Int) (h0:0<=z) (h1:z<=2000000):(Lit.int .i64 z).wf=true:=by
 have h:=wrap64_wf z
 have e:wrap64 z=z:=by unfold wrap64;omega
 rwa[e]at h
theorem at_eq {D:DataW Unit} {f:List UInt8->Nat} (h: ∀ key,D.atKey (.string key) (.lit (.int .i64 0))=.lit (.int .i64 (f key))) {s:List UInt8} {c:Int} (hat:D.atKey (.string s) (.lit (.int .i64 0))=.lit (.int .i64 c)):c=((f s:Nat):Int):=by
 have h1:=h s
 rw[hat]at h1
 injection h1 with h1
 injection h1
set_option maxHeartbeats 6400000 in
set_option maxRecDepth 100000 in
theorem X3 (aC aE aA aB:Option Addr) (lC cC lE cE lA cA lB cB:Nat) (eq:Bool) (was wbs:List (List UInt8)) (w:World) (hlA:was.length=lA) (hlB:wbs.length=lB) (hsA:lA<=1000000) (hsB:lB<=1000000)
  (hszB: ∀ l∈wbs,l.length<=1000000000) (hA:Qu w aB wbs)
  (hEq: ∀ w',Below w.heap.size w w'->Calls Tryz.prog 67 #[.slice aC lC cC,.slice aE lE cE] w' fun e w''=>e=.returned (.bool eq)/\Below w'.heap.size w' w'')
  (hCnt: ∀ w',Below w.heap.size w w'->Calls Tryz.prog 68 #[.slice aA lA cA] w' fun e w''=>e=.returned (.map (some w'.heap.size))/\XL w'' w'.heap.size lA (fun key=>was.count key)/\Below w'.heap.size w' w''/\w'.heap.size<w''.heap.size):
  Calls Tryz.prog 25 #[.agg #[.slice aC lC cC,.slice aA lA cA],.agg #[.slice aE lE cE,.slice aB lB cB]] w fun e w'=>e=.returned (.bool (eq&&(decide (lA=lB)&&Iu (fun key=>was.count key) wbs)))/\Below w.heap.size w w':=by
 obtain⟨W0,hW0⟩: ∃ W0,W0=(w.alloc (.cells #[.slice aC lC cC,.slice aA lA cA] 37)).alloc (.cells #[.slice aE lE cE,.slice aB lB cB] 37):=⟨_,rfl⟩
 obtain⟨R,hR⟩: ∃ R,(eq&&(decide (lA=lB)&&Iu (fun key=>was.count key) wbs))=R:=⟨_,rfl⟩
 rw[hR]
 have HR:=Lib.hid hR
 clear hR
 go_enter Tryz.func25,Tryz.ntmps25
 go_wp2_with (go_at_call 67;refine Hid.out ?_)
 refine Lib.hid ?_
 rw[<-hW0]
 have hB0:Below w.heap.size w W0:=by rw[hW0];exact((Below.refl _ w).alloc (Nat.le_refl _) _).alloc (by simp) _
 have hz0:W0.heap.size=w.heap.size+2:=by rw[hW0];simp
 have c21:W0.cell? ⟨w.heap.size,1,none⟩=some (.slice aA lA cA):=by rw[hW0];go_simp
 have c31:W0.cell? ⟨w.heap.size+1,1,none⟩=some (.slice aB lB cB):=by rw[hW0];go_simp
 clear hW0
 refine(hEq W0 hB0).mono ?_
 rintro e w1 ⟨rfl,hb1⟩
 have hB1:Below w.heap.size w w1:=hB0.trans (hb1.mono (by omega))
 have hz1:=hb1.size
 have d21:w1.cell? ⟨w.heap.size,1,none⟩=some (.slice aA lA cA):=(hb1.cell (p:=⟨w.heap.size,1,none⟩) (by show w.heap.size<_;omega)).trans c21
 have d31:w1.cell? ⟨w.heap.size+1,1,none⟩=some (.slice aB lB cB):=(hb1.cell (p:=⟨w.heap.size+1,1,none⟩) (by show w.heap.size+1<_;omega)).trans c31
 cases eq with
 |false=>
  go_wp2
  go_ret
  have hR:=HR.out
  subst hR
  exact⟨rfl,hB1⟩
 |true=>
  by_cases hll:lA=lB
  ·subst hll
   go_wp2_with (go_at_call 68;refine Hid.out ?_)
   refine Lib.hid ?_
   refine(hCnt w1 hB1).mono ?_
   rintro e w2 ⟨rfl,⟨D0,hown0,hm0,hat0⟩,hb2,hz2⟩
   have hB2:Below w.heap.size w w2:=hB1.trans (hb2.mono hB1.size)
   have e31:w2.cell? ⟨w.heap.size+1,1,none⟩=some (.slice aB lA cB):=(hb2.cell (p:=⟨w.heap.size+1,1,none⟩) (by show w.heap.size+1<_;omega)).trans d31
   go_wp2
   go_loopw [30] (fun i wr=> ∃ (k n:Nat) (f:List UInt8->Nat) (D:DataW Unit),k<=lA/\i=.int .i64 k/\n<=lA+k/\wr.ownsMap Tryz.prog 9 (plainElem Tryz.prog 3) w1.heap.size n D/\IsMap D/\(∀ key,D.atKey (.string key) (.lit (.int .i64 0))=.lit (.int .i64 (f key)))/\
     (∀ key,f key<=1000000)/\Iu (fun key=>was.count key) wbs=Iu f (wbs.drop k)/\Below w.heap.size w wr/\w1.heap.size<wr.heap.size)
    (fun i _=>lA - (intOf i).toNat)
   case atStart=>exact⟨0,lA,_,D0,Nat.zero_le _,rfl,by omega,hown0,hm0,hat0,fun key=>Nat.le_trans List.count_le_length (by omega),by simp,hB2,hz2⟩
   case round=>
    obtain⟨k,n,f,D,hk,rfl,hn,hown,hm,hat0,hfle,hsub,hnx,hszz⟩:=hrel
    by_cases hlt:k<lA
    ·obtain⟨b,off,rfl,hb,hrow⟩:=hA (by omega)
     obtain⟨rv,hc,hcall⟩:=hrow k (by omega)
     obtain⟨s,hs⟩: ∃ s,wbs.getD k []=s:=⟨_,rfl⟩
     rw[hs]at hcall
     have hsl:s.length<=1000000000:=by
      refine hszB s ?_
      rw[<-hs,List.getD_eq_getElem?_getD,List.getElem?_eq_getElem (by omega)]
      exact List.getElem_mem _
     have hdr:wbs.drop k=s::wbs.drop (k+1):=by
      rw[List.drop_eq_getElem_cons (by omega:k<wbs.length),<-hs,List.getD_eq_getElem?_getD,List.getElem?_eq_getElem (by omega)]
      rfl
     rw[hdr]at hsub
     clear hs hdr
     have hcx:wr.cell? ⟨b,off+k,none⟩=some rv:=(hnx.cell (by exact hb)).trans hc
     go_wp2_with (go_at_call 69;refine Hid.out ?_)
     refine Lib.hid ?_
     refine(hcall wr hnx).mono ?_
     rintro e w3 ⟨rfl,hb3⟩
     have hown3:=own_below hown hb3 hszz
     have hkey:=aeO hsl
     have hnx3:=hnx.trans (hb3.mono hnx.size)
     have hz3:=hb3.size
     by_cases hf:f s=0
     ·have hf':((f s:Nat):Int)=0:=by omega
      have hsub':Iu (fun key=>was.count key) wbs=false:=by
       rw[hsub]
       show(if f s=0 then false else _)=false
       rw[if_pos hf]
      have HSUB:=Lib.hid hsub'
      clear hsub'
      have HSU:=Lib.hid hsub
      clear hsub
      go_wp2_with (first
       |(at_lookup;refine wpList_lookup_own_int _ rfl _ _ 99 rfl 9 3 .i64 GY Tryz.underlying99 Tryz.underlying3 (zero3 _) w1.heap.size n _ rfl hown3 _ _ rfl hkey ?_;intro c hat hwc;have hc0:=at_eq hat0 hat;rw[hf']at hc0;subst hc0)
       |go_in)
      go_ret
      refine⟨?_,hnx3⟩
      have hR:=HR.out
      rw[HSUB.out,Bool.and_false,Bool.and_false]at hR
      subst hR
      rfl
     ·have hf': ¬ ((f s:Nat):Int)=0:=by omega
      have hfs:=hfle s
      have HSU:=Lib.hid hsub
      clear hsub
      go_wp2_with (first
       |(at_lookup;refine wpList_lookup_own_int _ rfl _ _ 99 rfl 9 3 .i64 GY Tryz.underlying99 Tryz.underlying3 (zero3 _) w1.heap.size n _ rfl hown3 _ _ rfl hkey ?_;intro c hat hwc;have hc0:=at_eq hat0 hat;subst hc0)
       |(at_mapUpdate;refine wpList_mapUpdate_own _ rfl _ _ _ 99 rfl 9 3 GY Tryz.underlying99 _ w1.heap.size n _ rfl hown3 (by unfold maxLen;omega) _ _ _ rfl rfl hkey _ [] (plainElem_int Tryz.underlying3 (aca _ (by omega) (by omega))) ?_;intro w4 hown4 hgrow4)
       |go_in)
      go_roundw
      case rel=>
       have hsub:=HSU.out
       have hfn:((f s:Nat):Int) - 1=((f s - 1:Nat):Int):=by omega
       rw[hfn]at hown4
       refine⟨k+1,n+1,fun x=>if x=s then f s - 1 else f x,_,by omega,by go_num,by omega,hown4,hm.put _ _,WO hm hat0 s _,fun key=>?_,?_,hnx3.grown hgrow4 hnx3.size (fun j hj=>by cases hj;exact hB1.size),by have:=hgrow4.size;omega⟩
       ·show(if key=s then f s - 1 else f key)<=1000000
        have:=hfle key
        split<;>omega
       ·rw[hsub]
        show(if f s=0 then false else _)=_
        rw[if_neg hf]
      case measure=>simp[intOf];omega
    ·have hkk:k=lA:=by omega
     subst hkk
     have hsub':Iu (fun key=>was.count key) wbs=true:=by
      rw[hsub,List.drop_of_length_le (by omega)]
      rfl
     have HSUB:=Lib.hid hsub'
     clear hsub'
     have HSU:=Lib.hid hsub
     clear hsub
     go_wp2
     go_ret
     refine⟨?_,hnx⟩
     have hR':R=true:=by rw[<-HR.out,HSUB.out];simp
     rw[hR']
     rfl
  ·have hll': ¬ (lA:Int)=(lB:Int):=by omega
   go_wp2
   go_ret
   refine⟨?_,hB1⟩
   have hR:=HR.out
   rw[decide_eq_false hll]at hR
   subst hR
   rfl
end Go.Proofs.YtpceahbengfjeaaGreatDoor
