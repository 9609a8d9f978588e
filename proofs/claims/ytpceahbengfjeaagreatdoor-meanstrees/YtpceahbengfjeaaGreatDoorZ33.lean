/- Trees of functions, and lemmas. Nothing here is trusted. -/
import Derived.Test.YtpceahbengfjeaaGreatDoorZ09
import Derived.Lib.AppendIntMem
import Derived.Lib.ItoaLen
import Derived.Lib.Slices
import Derived.Lib.Hide
import Derived.Laws.IdiomStrings
import Derived.OwnWalk
import Derived.WalkKit
import Derived.BigCall
import Derived.Laws.BytesArg
namespace Go.Proofs.YtpceahbengfjeaaGreatDoor
open Go.Shelf Go.RowKit
set_option linter.unusedVariables false
theorem infoByte:(Tryz.prog.info? 5).map (fun i=>(i.zero,i.size,i.bytes))=some (some (.int .u8 0),1,1):=by kernel_rfl
def wr1 (p:Int×Int):List UInt8:=Lib.itoa p.1++32::(Lib.itoa p.2++[44])
def wrs (l:List (Int×Int)):List UInt8:=l.flatMap wr1
def inI (z:Int):Prop:= -9223372036854775808<=z/\z<=9223372036854775807
theorem ZC {p:Int×Int} (h1:inI p.1) (h2:inI p.2):(wr1 p).length<=44:=by
 have la:=Lib.itoa_length_le p.1 h1.1 h1.2
 have lb:=Lib.itoa_length_le p.2 h2.1 h2.2
 simp[wr1];omega
theorem KE: ∀ {l:List (Int×Int)},(∀ p∈l,inI p.1/\inI p.2)->(wrs l).length<=44*l.length
 | [],_=>by simp[wrs]
 |p::l,h=>by
  have h1:=ZC (h p (by simp)).1 (h p (by simp)).2
  have h2:=KE (l:=l) (fun q hq=>h q (by simp[hq]))
  simp only[wrs,List.flatMap_cons,List.length_append,List.length_cons]at h2⊢
  omega
theorem XJ (l:List (Int×Int)) (p:Int×Int):wrs (l++[p])=wrs l++wr1 p:=by simp[wrs]
theorem take_snoc (l:List (Int×Int)) (k:Nat) (h:k<l.length):l.take (k+1)=l.take k++[l.getD k (0,0)]:=by
 rw[List.take_add_one]
 simp[List.getElem?_eq_getElem h,List.getD]
theorem Yc {w:World} {base:Nat} {e:TypeId} {size:Nat} {v:Value} {n:Nat} {xs:List Value} (h:w.ownsRow base e size v n xs): ∀ g,v.ownBlock=some g-> ∃ c fz,w.heap[g]? =some (.cells c e fz):=by
 intro g hg
 rcases h.2 with⟨rfl,_⟩|⟨g',cap,cur,rfl,_,hh,_⟩
 ·cases hg
 ·cases hg
  exact⟨cur,(0,0),hh⟩
theorem XP {P:Program} {w:World} {base src dst e:Nat} {v:Value} {l:List UInt8} (hs:P.underlying src=some (.slice e)) (he:P.underlying e=some (.int .u8)) (hd:P.underlying dst=some .string) (h:w.ownsRow base e 1 v l.length (Lib.byteCells l)):
  (convert src dst v).run P w=.ok (.string ⟨l.toArray⟩) w:=by
 rcases h.2 with⟨rfl,h0⟩|⟨g,cap,cur,rfl,_⟩
 ·have:l=[]:=List.eq_nil_of_length_eq_zero h0
  subst this
  exact run_convert_bytes_nil w src e hs he 0 0 dst hd
 ·exact run_convert_bytes_back (P:=P) w src dst e ⟨g,0,none⟩ cap l hs he hd (fun j hj=>h.cells (g:=g) rfl j _ (by simp[Lib.byteCells,hj]))
set_option maxHeartbeats 6400000 in
set_option maxRecDepth 100000 in
theorem Na (a:Option Addr) (len cap:Nat) (vs:List (Int×Int)) (w:World) (hlen:vs.length=len) (hsm:len<=1000000) (hin: ∀ p∈vs,inI p.1/\inI p.2)
  (hA:0<len-> ∃ b off,a=some ⟨b,off,none⟩/\b<w.heap.size/\(∀ j,j<len->w.cell? ⟨b,off+j*2,none⟩=some (.int .i64 (vs.getD j (0,0)).1))/\(∀ j,j<len->w.cell? ⟨b,off+j*2+1,none⟩=some (.int .i64 (vs.getD j (0,0)).2)))
  (hT : Lib.TabBelow Tryz.prog w.heap.size w "internal/strconv.uint64pow10" .u64 Lib.pow10Tab) :
  Calls Tryz.prog 69 #[.slice a len cap] w fun e w'=>e=.returned (.string ⟨(wrs vs).toArray⟩)/\Below w.heap.size w w':=by
 obtain⟨i0,hi,hz0,hz1,hz2⟩:=info_parts infoByte
 go_enter Tryz.func69,Tryz.ntmps69
 go_wp2
 go_loopw [3,8] (fun t i wr=> ∃ k:Nat,k<=len/\i=.int .i64 k/\wr.ownsRow w.heap.size 5 1 t (wrs (vs.take k)).length (Lib.byteCells (wrs (vs.take k)))/\Below w.heap.size w wr)
  (fun t i _=>len - (intOf i).toNat)
 case atStart=>exact⟨0,Nat.zero_le _,rfl,by simpa [wrs,Lib.byteCells]using World.ownsRow_nil w w.heap.size 5 1,Below.refl _ _⟩
 case round=>
  obtain⟨k,hk,rfl,hown,hnx⟩:=hrel
  by_cases hlt:k<len
  ·obtain⟨b,off,rfl,hb,hc0,hc1⟩:=hA (by omega)
   obtain⟨p,q,hpq⟩: ∃ p q,vs.getD k (0,0)=(p,q):=⟨_,_,rfl⟩
   have hx0:k<len->wr.cell? ⟨b,off+k*2,none⟩=some (.int .i64 p):=fun h=>(hnx.cell (by exact hb)).trans ((hc0 k h).trans (by rw[hpq]))
   have hx1:k<len->wr.cell? ⟨b,off+k*2+1,none⟩=some (.int .i64 q):=fun h=>(hnx.cell (by exact hb)).trans ((hc1 k h).trans (by rw[hpq]))
   have hpi:k<len->inI p/\inI q:=fun h=>by
    have:=hin (vs.getD k (0,0)) (by rw[List.getD_eq_getElem?_getD,List.getElem?_eq_getElem (by omega)];exact List.getElem_mem _)
    rw[hpq]at this
    exact this
   have HPQ:=Lib.hid hpq
   clear hpq
   go_wp2_with (go_at_call 121;refine Hid.out ?_)
   refine Lib.hid ?_
   obtain⟨pi,qi⟩:=hpi hlt
   have hL0:=KE (l:=vs.take k) (fun z hz=>hin z (List.mem_of_mem_take hz))
   rw[List.length_take,Nat.min_eq_left (by omega)]at hL0
   have la:=Lib.itoa_length_le p pi.1 pi.2
   have lb:=Lib.itoa_length_le q qi.1 qi.2
   have hs0:=hnx.size
   obtain⟨A,hA⟩: ∃ A,A=wrs (vs.take k):=⟨_,rfl⟩
   rw[<-hA]at hown hL0
   have HA:=Lib.hid hA
   clear hA
   have hnx0:Below w.heap.size w (wr.alloc (.cells #[.int .i64 p,.int .i64 q] 59)):=hnx.alloc (by omega) _
   have hbox0:(wr.alloc (.cells #[.int .i64 p,.int .i64 q] 59)).heap[wr.heap.size]? =some (.cells #[.int .i64 p,.int .i64 q] 59 (0,0)):=heap_alloc_new wr _
   refine(Tryz.strconv_AppendInt_10 w.heap.size _ p pi.1 pi.2 u3 _ _ (hown.alloc _) (by simp;omega) (by omega) (hT.on hnx0)).mono ?_
   rintro e w1 ⟨v1,rfl,hown1,hnx1,hok1⟩
   have hbox1:=hok1 _ _ hbox0 (by simp) (by intro c fz h;simp at h)
   have hnx1':=hnx0.trans hnx1
   have hs1:=hnx1'.size
   go_wp2_with (at_builtin;refine wpList_append_own _ rfl _ _ 137 rfl w.heap.size 5 i0 (.int .u8 0) 1 1 Tryz.underlying137 hi hz0 hz1 hz2 rfl (by decide) _ _ _ rfl (hown1.alloc _) ⟨w1.heap.size,0,none⟩ 1 1 [Value.int .u8 32] rfl rfl (by intro j u' hj;match j,hj with|0,hj=>simp at hj;subst hj;simp[Addr.add]) (by intro u' hu';simp at hu';subst hu';rfl) (by unfold maxLen;omega) (by omega) (by simp;omega) ?_)
   intro v2 w2 hown2 hgrow2 _
   have hok2:Lib.OthersKept 5 none (wr.alloc (.cells #[.int .i64 p,.int .i64 q] 59)) w2:=(hok1.alloc _).grown hgrow2 (Yc (hown1.alloc _))
   have hbox2:=hok2 _ _ hbox0 (by simp) (by intro c fz h;simp at h)
   have hnx2:Below w.heap.size w w2:=(hnx1'.alloc (by omega) _).grown hgrow2 (by simp;omega) (fun k hk=>(hown1.lt k hk).1)
   have hs2:=hnx2.size
   have hq2:w2.cell? ⟨wr.heap.size,1,none⟩=some (.int .i64 q):=by simp[World.cell?,hbox2]
   go_wp2_with (go_at_call 121;refine Hid.out ?_)
   refine Lib.hid ?_
   refine(Tryz.strconv_AppendInt_10 w.heap.size _ q qi.1 qi.2 v2 _ w2 hown2 (by omega) (by omega) (hT.on hnx2)).mono ?_
   rintro e w3 ⟨v3,rfl,hown3,hnx3,-⟩
   have hnx3':=hnx2.trans hnx3
   have hs3:=hnx3'.size
   go_wp2_with (at_builtin;refine wpList_append_own _ rfl _ _ 137 rfl w.heap.size 5 i0 (.int .u8 0) 1 1 Tryz.underlying137 hi hz0 hz1 hz2 rfl (by decide) _ _ _ rfl (hown3.alloc _) ⟨w3.heap.size,0,none⟩ 1 1 [Value.int .u8 44] rfl rfl (by intro j u' hj;match j,hj with|0,hj=>simp at hj;subst hj;simp[Addr.add]) (by intro u' hu';simp at hu';subst hu';rfl) (by unfold maxLen;omega) (by omega) (by simp;omega) ?_)
   intro v4 w4 hown4 hgrow4 _
   have hnx4:Below w.heap.size w w4:=(hnx3'.alloc (by omega) _).grown hgrow4 (by simp;omega) (fun k hk=>(hown3.lt k hk).1)
   go_wp2
   go_roundw
   case rel=>
    have hA:=HA.out
    have hpq:=HPQ.out
    subst hA
    refine⟨k+1,by omega,by go_num,?_,hnx4⟩
    rw[take_snoc vs k (by omega),XJ,hpq]
    have hn:(wrs (vs.take k)++wr1 (p,q)).length=(wrs (vs.take k)).length+(Lib.itoa p).length+1+(Lib.itoa q).length+1:=by simp[wr1];omega
    rw[hn]
    simpa [wr1,Lib.byteCells]using hown4
   case measure=>simp[intOf];omega
  ·have hkl:k=len:=by omega
   have hall:vs.take k=vs:=List.take_of_length_le (by omega)
   rw[hall]at hown
   go_wp2
   rw[XP Tryz.underlying137 Tryz.underlying5 Tryz.underlying9 hown]
   go_wp2
   go_ret
   exact⟨rfl,hnx⟩
end Go.Proofs.YtpceahbengfjeaaGreatDoor
