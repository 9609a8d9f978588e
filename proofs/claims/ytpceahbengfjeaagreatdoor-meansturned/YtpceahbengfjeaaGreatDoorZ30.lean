/- Trees of functions, and lemmas. Nothing here is trusted. -/
import Derived.Test.YtpceahbengfjeaaGreatDoorZ17
import Derived.Test.YtpceahbengfjeaaGreatDoorZ21
import Derived.Test.YtpceahbengfjeaaGreatDoorZ23
import Derived.Lib.Slices
import Derived.Test.YtpceahbengfjeaaGreatDoorZ22
namespace Go.Ev
set_option linter.unusedVariables false
def opI (e:D):Int:=intD (af e 0)
def rM (e:D):Int:=intD (af e 1)
def kids (e:D):List D:=ae (af e 3)
def vG (op n:Int):Bool:=bif op==10 then n==1 else bif op==0||op==1 then n==0 else bif op==8||op==9 then decide (n<=4)else n==2
def mZ (f:D) (n:Int):Bool:=bif !eX (af f 0)then n==1 else bif !eX (af f 1)then n==2 else bif !eX (af f 2)then decide (n<=4)else n==0
def vS (e:D):Bool:=
 decide (0<=opI e)&&decide (opI e<11)&&decide (0<=rM e)&&decide (rM e<=15)&&iI (af e 2)&&
 (rM e==0||opI e==1)&&((kk (af e 2)==0&&nn (af e 2)==0)||opI e==0)&&vG (opI e) ((kids e).length:Int)
def atD (c:Int) (cols row:List D):D:=
 bif decide (Lib.idxOf (cols.map intD) c<0)then vv 2 0 else bif decide (Lib.idxOf (cols.map intD) c>=(row.length:Int))then vv 2 0
 else bif iI (row.getD (Lib.idxOf (cols.map intD) c).toNat .nil)then row.getD (Lib.idxOf (cols.map intD) c).toNat .nil else vv 2 0
def opV (op:Int) (l:List D):D:=
 bif op==2 then WM (l.getD 0 .nil) (l.getD 1 .nil)else bif op==3 then Xq (l.getD 0 .nil) (l.getD 1 .nil)else bif op==4 then We (l.getD 0 .nil) (l.getD 1 .nil)
 else bif op==5 then Xp (l.getD 0 .nil) (l.getD 1 .nil)else bif op==6 then eqV (l.getD 0 .nil) (l.getD 1 .nil)else bif op==7 then ltV (l.getD 0 .nil) (l.getD 1 .nil)
 else bif op==8 then Zx l else bif op==9 then orD l else Y4 (l.getD 0 .nil)
def goL (g:D->Int->Bool×Int):List D->Int->Bool×Int
 | [],n=>(true,n)
 |p::l,n=>bif (g p n).1 then goL g l (g p n).2 else(false,(g p n).2)
def rH (e:D) (deep n:Int):Bool:=bif decide (n+1<=30)then bif decide (deep<=6)then vS e else false else false
def dX:Nat->D->Int->Int->Bool×Int
 |0,_,_,n=>(false,n)
 |k+1,e,deep,n=>bif rH e deep n then goL (fun p m=>dX k p (deep+1) m) (kids e) (n+1)else(false,n+1)
def BB (e:D):Bool:=(dX 7 e 1 0).1
def okK:Nat->D->Bool
 |0,_=>false
 |k+1,e=>vS e&&(kids e).all (okK k)
def kR:Nat->D->List D
 |0,_=>[]
 |k+1,e=>(bif opI e==1 then [fO (rM e)]else [])++(kids e).flatMap (kR k)
def mg (e:D):List D:=bif BB e then jc (lT (kR 7 e))else []
def oD (cols row:List D):Nat->D->D
 |0,_=>vv 2 0
 |k+1,e=>bif opI e==0 then af e 2 else bif opI e==1 then atD (rM e) cols row else opV (opI e) ((kids e).map (oD cols row k))
def Rh (e:D) (cols row:List D):D:=bif BB e then oD cols row 7 e else vv 2 0
def BF (e:D) (cols row:List D):Bool:=sS (Rh e cols row)
def Hm (g:D->Int->Int) (most:Int):List D->Int->Int
 | [],n=>n
 |p::l,n=>bif decide (n<=most)then Hm g most l (n+g p (most - n))else n
def Ai:Nat->D->Int->Int
 |0,_,_=>1
 |k+1,e,most=>Hm (Ai k) most (kids e) 1
def hasK:Nat->D->Int->Bool
 |0,_,_=>false
 |k+1,e,c=>(opI e==1&&rM e==c)||(kids e).any fun p=>hasK k p c
theorem Tt {e:D} (h:vS e=true):0<=opI e/\opI e<11/\0<=rM e/\rM e<=15/\iI (af e 2)=true/\vG (opI e) ((kids e).length:Int)=true:=by
 simp only[vS,Bool.and_eq_true,decide_eq_true_eq]at h
 obtain⟨⟨⟨⟨⟨⟨⟨a,b⟩,c⟩,d⟩,e1⟩,_⟩,_⟩,f⟩:=h
 exact⟨a,b,c,d,e1,f⟩
def jZ (row ps:List D):List D:=ps.map fun q=>row.getD (intD q).toNat .nil
def pX (row ps:List D):Bool:=decide (ps.length<=2147483648)&&ps.all fun q=>decide (0<=intD q)&&decide (intD q<(row.length:Int))
def gy (b:D) (cols:List D):Bool:=bn b&&dm cols&&gG (aQ b) cols
def uL (b:D) (cols:List D):List D:=cols.map fun c=>fO (bC (aQ b) (intD c))
def gI (b:D) (cols:List D):D:=bif gy b cols then aX cols ((aK b).map fun r=>.slice (jZ (ae r) (uL b cols)) [])else aX [] []
def nM (es cols row:List D):Bool:=es.all fun e=>BF e cols row
def jX (es cols rows:List D):List D:=rows.filter fun r=>nM es cols (ae r)
def oQ (b:D) (es:List D):D:=aX (aQ b) (jX es (aQ b) (aK b))
section
set_option linter.unusedSimpArgs false
def dQ (q:D):List D:=ae (af q 0)
def qP (q:D):List D:=ae (af q 1)
def qBy (q:D):Int:=intD (af q 2)
def kS (q:D):List D:=ae (af q 3)
def uM (q:D):List D:=ae (af q 4)
def yh (q:D):Int:=intD (af q 5)
def MB (s p:Int):Bool:=MG .i64 p s==0
def LQ (o:Int):Int:=TW .i64 1 o
def aa3 (c:Int):Int:=LQ (dB c)
def WL (s:Int):List D->Int
 | []=>s
 |c::l=>WL (orI .i64 s (aa3 (intD c))) l
def ofE (e:D):Int:=WL 0 (mg e)
def ahf (a b s:Int):Bool:=MB (orI .i64 a b) s&&!MB a s&&!MB b s
def plc (f:D->Bool):List D->Nat->List D
 | [],_=>[]
 |e::es,i=>(bif f e then [fO (i:Int)]else [])++plc f es (i+1)
def afL (q:D) (s:Int):List D:=plc (fun e=>MB s (ofE e)) (qP q) 0
def afl (q:D) (a b:Int):List D:=plc (fun e=>ahf a b (ofE e)) (qP q) 0
def ZW:Nat->Int->Int
 |0,s=>s
 |n+1,s=>ZW n (Int.fdiv s (2 ^ min (1:Int).toNat (IntKind.bits .i64)))
def ahJ (set occ:Int):Bool:=ZL .i64 (ZW occ.toNat set) 1==1
def Zo (c q:D) (o:Int):Int:=yE ((tabs c).getD (intD ((dQ q).getD o.toNat .nil)).toNat .nil)
def dn (c q:D):Bool:=decide (1<=(dQ q).length)&&decide ((dQ q).length<=4)&&(dQ q).all fun o=>bz (intD o) ((tabs c).length:Int)
def jT (c q:D) (x:Int):Bool:=bz x 16&&(decide (dB x<((dQ q).length:Int))&&decide (splitB x<Zo c q (dB x)))
def gm (c q:D) (l:List D):Bool:=l.all fun x=>jT c q (intD x)
def Ff (c q e:D):Bool:=!(mg e).isEmpty&&gm c q (mg e)
def l9 (c q:D):Bool:=decide ((qP q).length<=6)&&(qP q).all (Ff c q)
def P6 (l:List D):Bool:=(List.range' 0 l.length).any fun i=>hasB (l.take i) (intD (l.getD i .nil))
def JO (c q:D):Bool:=(kS q).isEmpty&&(decide (1<=(uM q).length)&&(decide ((uM q).length<=8)&&(gm c q (uM q)&&(!P6 (uM q)&&(yh q== -1||hasB (uM q) (yh q))))))
def xf (c q:D):Bool:=jT c q (qBy q)&&(decide ((kS q).length<=4)&&(gm c q (kS q)&&((uM q).isEmpty&&(yh q== -1||yh q==qBy q))))
def QP (c q:D):Bool:=bif qBy q== -1 then JO c q else xf c q
def HY (c q:D):Bool:=lL c&&(dn c q&&(l9 c q&&QP c q))
def rY (c q:D) (set:Int) (o:Nat):List D:=bif MB set (LQ (o:Int))then iy (Zo c q (o:Int)).toNat (o:Int)else []
def ahG (c q:D) (set:Int):List D:=bif HY c q then(List.range (dQ q).length).flatMap (rY c q set)else []
def agd (fewE:D->Int->Bool) (c q:D):Bool:=decide ((tabs c).length<=10)&&decide ((dQ q).length<=20)&&decide ((qP q).length<=8)&&decide ((kS q).length<=20)&&decide ((uM q).length<=20)&&(qP q).all fun e=>fewE e 60
end
end Go.Ev
namespace Go.Ev
set_option linter.unusedVariables false
set_option linter.unusedSimpArgs false
def inS (s:Int) (i:Nat):Bool:=(BitVec.ofInt 64 s).getLsbD i
theorem ak6 (n:Int):BitVec.ofInt 64 (IntKind.wrap .i64 n)=BitVec.ofInt 64 n:=by
 apply BitVec.eq_of_toInt_eq
 rw[BitVec.toInt_ofInt,BitVec.toInt_ofInt,ng]
 simp only[Int.bmod]
 omega
theorem alk (x:BitVec 64):BitVec.ofInt 64 (x.toNat:Int)=x:=by
 rw[BitVec.ofInt_natCast,BitVec.ofNat_toNat,BitVec.setWidth_eq]
theorem ajD (a b:Int) (i:Nat):inS (orI .i64 a b) i=(inS a i||inS b i):=by
 unfold inS orI
 rw[ak6]
 show(BitVec.ofInt 64 ((BitVec.ofInt 64 a|||BitVec.ofInt 64 b).toNat:Int)).getLsbD i=_
 rw[alk,BitVec.getLsbD_or]
theorem akU (i:Nat):inS 0 i=false:=by
 unfold inS
 rw[show BitVec.ofInt 64 0=0#64 from rfl,BitVec.getLsbD_zero]
theorem wrap_zero {x:BitVec 64} :IntKind.wrap .i64 (x.toNat:Int)=0↔x=0#64:=by
 have h:=x.isLt
 rw[ng]
 constructor
 ·intro hh
  apply BitVec.eq_of_toNat_eq
  simp only[BitVec.toNat_ofNat,Nat.zero_mod]
  omega
 ·intro hh
  rw[hh]
  simp
theorem akK {x:BitVec 64} :x=0#64↔ ∀ i,x.getLsbD i=false:=by
 constructor
 ·rintro rfl i
  exact BitVec.getLsbD_zero
 ·intro h
  apply BitVec.eq_of_getLsbD_eq
  intro i _
  rw[h i,BitVec.getLsbD_zero]
theorem ajh {s p:Int} :MB s p=true↔ ∀ i,inS p i=true->inS s i=true:=by
 unfold MB MG
 rw[beq_iff_eq]
 show IntKind.wrap .i64 ((BitVec.ofInt 64 p&&& ~~~ (BitVec.ofInt 64 s)).toNat:Int)=0↔_
 rw[wrap_zero,akK]
 unfold inS
 refine forall_congr' fun i=>?_
 rw[BitVec.getLsbD_and,BitVec.getLsbD_not]
 by_cases hi:i<64
 ·cases (BitVec.ofInt 64 p).getLsbD i<;>cases (BitVec.ofInt 64 s).getLsbD i<;>simp[hi]
 ·have h1:(BitVec.ofInt 64 p).getLsbD i=false:=BitVec.getLsbD_of_ge _ _ (by omega)
  rw[h1]
  simp
theorem and_zero {a b:Int} :ZL .i64 a b=0↔ ∀ i,¬ (inS a i=true/\inS b i=true):=by
 unfold ZL
 show IntKind.wrap .i64 ((BitVec.ofInt 64 a&&& BitVec.ofInt 64 b).toNat:Int)=0↔_
 rw[wrap_zero,akK]
 unfold inS
 refine forall_congr' fun i=>?_
 rw[BitVec.getLsbD_and]
 cases (BitVec.ofInt 64 a).getLsbD i<;>cases (BitVec.ofInt 64 b).getLsbD i<;>simp
theorem ajw {o:Int} (h:0<=o/\o<4) (i:Nat):inS (LQ o) i=decide (o=(i:Int)):=by
 have ho:o=0\/o=1\/o=2\/o=3:=by omega
 unfold inS
 rcases ho with rfl|rfl|rfl|rfl
 ·rw[show BitVec.ofInt 64 (LQ 0)=BitVec.twoPow 64 0 from by decide,BitVec.getLsbD_twoPow,Bool.eq_iff_iff];simp;omega
 ·rw[show BitVec.ofInt 64 (LQ 1)=BitVec.twoPow 64 1 from by decide,BitVec.getLsbD_twoPow,Bool.eq_iff_iff];simp;omega
 ·rw[show BitVec.ofInt 64 (LQ 2)=BitVec.twoPow 64 2 from by decide,BitVec.getLsbD_twoPow,Bool.eq_iff_iff];simp;omega
 ·rw[show BitVec.ofInt 64 (LQ 3)=BitVec.twoPow 64 3 from by decide,BitVec.getLsbD_twoPow,Bool.eq_iff_iff];simp;omega
theorem ajU (z:Int):0<=dB z/\dB z<4:=by
 by_cases h:0<=z/\z<16
 ·rw[(vK h).1];omega
 ·rw[(Bq h).1];omega
theorem ak4 (z:Int) (i:Nat):inS (aa3 z) i=decide (dB z=(i:Int)):=ajw (ajU z) i
theorem ajS: ∀ (l:List D) (s:Int) (i:Nat),inS (WL s l) i=(inS s i||l.any fun c=>decide (dB (intD c)=(i:Int)))
 | [],s,i=>by simp[WL]
 |c::l,s,i=>by
  unfold WL
  rw[ajS l,ajD,ak4,List.any_cons,Bool.or_assoc]
theorem alE (e:D) (i:Nat):inS (ofE e) i=(mg e).any fun c=>decide (dB (intD c)=(i:Int)):=by
 unfold ofE
 rw[ajS,akU,Bool.false_or]
theorem ah2 (f:D->Bool): ∀ (es:List D) (i:Nat),(plc f es i).length=es.countP f
 | [],i=>rfl
 |e::es,i=>by
  unfold plc
  rw[List.length_append,ah2 f es (i+1),List.countP_cons]
  cases f e<;>simp<;>omega
theorem ah1 {f:D->Bool} {x:D} : ∀ {es:List D} {i:Nat},x∈plc f es i↔ ∃ k,k<es.length/\x=fO ((i+k:Nat):Int)/\f (es.getD k .nil)=true
 | [],i=>by simp[plc]
 |e::es,i=>by
  unfold plc
  rw[List.mem_append,ah1 (es:=es) (i:=i+1)]
  constructor
  ·rintro(h|⟨k,hk,hx,hf⟩)
   ·cases he:f e with
    |true=>rw[he,cond_true,List.mem_singleton]at h;exact⟨0,by simp,h,he⟩
    |false=>rw[he,cond_false]at h;cases h
   ·refine⟨k+1,by simp;omega,?_,by simpa using hf⟩
    rw[hx]
    congr 2
    omega
  ·rintro⟨k,hk,hx,hf⟩
   cases k with
   |zero=>
    left
    have hf:f e=true:=hf
    rw[hf,cond_true,List.mem_singleton]
    exact hx
   |succ k=>
    right
    refine⟨k,by simpa using hk,?_,by simpa using hf⟩
    rw[hx]
    congr 2
    omega
end Go.Ev
namespace Go.Ev
def acY (f t:Nat):D->Bool
 | .agg [.held (.func (.func g) _ _),.lit (.int _ u),_]=>g==f&&u==(t:Int)
 |_=>false
def abQ:D->D
 | .agg [_,_,x]=>x
 |_=>.nil
theorem alL {P:Program} {n:Nat} {t:TypeId} {x:D} {p q:Array TypeId} {r:Bool} {f u:Nat} (hu:P.underlying t=some (.func p q r)) (h:Ty P n t x) (hb:acY f u x=true): ∃ m y,x=yc f u y/\Ty P m u y:=by
 cases n with
 |zero=>exact h.elim
 |succ n=>
  unfold Ty at h
  rw[hu]at h
  split at h<;>try (exact h.elim)
  all_goals try (simp_all;done)
  ·simp[acY]at hb
  ·obtain⟨g,t0,y,rfl,hy⟩:=h
   simp only[acY,Bool.and_eq_true,beq_iff_eq]at hb
   obtain⟨rfl,h2⟩:=hb
   have h3:t0=u:=by first|exact Int.ofNat_inj.1 h2|exact h2|simpa using h2
   subst h3
   exact⟨n,y,rfl,hy⟩
theorem ajg (f:D->Bool) (e:D) (es:List D) (i:Nat):plc f (e::es) i=(bif f e then [fO (i:Int)]else [])++plc f es (i+1):=rfl
end Go.Ev
namespace Go.Ev
set_option linter.unusedVariables false
set_option linter.unusedSimpArgs false
theorem ai7 (x:Int): ∀ (zs:List Int) (i:Nat),zs.contains x=true->(i:Int)<=Lib.idxFrom zs x i/\zs.getD ((Lib.idxFrom zs x i).toNat - i) 0=x
 | [],i,h=>by simp at h
 |z::zs,i,h=>by
  rw[Lib.idxFrom]
  by_cases hz:z=x
  ·rw[if_pos hz]
   exact⟨Int.le_refl _,by simp[hz]⟩
  ·rw[if_neg hz]
   have h':zs.contains x=true:=by
    rw[List.contains_cons,Bool.or_eq_true]at h
    rcases h with h|h
    ·rw[beq_iff_eq]at h;exact absurd h.symm hz
    ·exact h
   obtain⟨a,b⟩:=ai7 x zs (i+1) h'
   refine⟨by omega,?_⟩
   have e:(Lib.idxFrom zs x (i+1)).toNat - i=((Lib.idxFrom zs x (i+1)).toNat - (i+1))+1:=by omega
   rw[e,List.getD_cons_succ]
   exact b
theorem akE (cols:List D) (k:Nat):(cols.map intD).getD k 0=intD (cols.getD k .nil):=by
 by_cases h:k<cols.length
 ·simp[List.getD,h]
 ·simp[List.getD,h,intD]
theorem ajL {cols:List D} {c:Int} (h:hasB cols c=true):intD (cols.getD (bC cols c).toNat .nil)=c:=by
 obtain⟨_,b⟩:=ai7 c (cols.map intD) 0 h
 rw[<-akE]
 exact b
def NJ (cs cols row:List D):List D:=cols.map fun c=>row.getD (bC cs (intD c)).toNat .nil
theorem JD (b:D) (cols row:List D):jZ row (uL b cols)=NJ (aQ b) cols row:=by
 unfold jZ uL NJ
 rw[List.map_map]
 rfl
theorem yf {b:D} {cols:List D} (h:gy b cols=true):gI b cols=aX cols ((aK b).map fun r=>.slice (NJ (aQ b) cols (ae r)) []):=by
 unfold gI
 rw[h,cond_true]
 simp only[JD]
theorem TY (cs cols row:List D):(NJ cs cols row).length=cols.length:=by unfold NJ;simp
theorem ajY {cs cols row:List D} {c:Int} (h:hasB cols c=true):(NJ cs cols row).getD (bC cols c).toNat .nil=row.getD (bC cs c).toNat .nil:=by
 obtain⟨a,b⟩:=Ha h
 have hk:(bC cols c).toNat<cols.length:=by omega
 have e:=ajL h
 rw[dA hk]at e
 rw[dA (by rw[TY];exact hk)]
 have e3:(NJ cs cols row)[(bC cols c).toNat]'(by rw[TY];exact hk)=row.getD (bC cs (intD cols[(bC cols c).toNat])).toNat .nil:=List.getElem_map (fun c=>row.getD (bC cs (intD c)).toNat .nil)
 rw[e3,e]
theorem aka {all l:List D} (h:gG all l=true) {c:D} (hc:c∈l):hasB all (intD c)=true:=by
 simp only[gG,List.all_eq_true]at h
 exact h _ (List.mem_map_of_mem hc)
theorem ajy {all l:List D} (h: ∀ c∈l,hasB all (intD c)=true):gG all l=true:=by
 simp only[gG,List.all_eq_true,List.mem_map]
 rintro z ⟨c,hc,rfl⟩
 exact h c hc
theorem Gv {l:List D} {c:D} (h:c∈l):hasB l (intD c)=true:=by
 unfold hasB
 rw[List.contains_eq_mem,decide_eq_true_eq]
 exact List.mem_map_of_mem h
theorem Tv {l:List D} {z:Int} (h:hasB l z=true): ∃ c∈l,intD c=z:=by
 unfold hasB at h
 rw[List.contains_eq_mem,decide_eq_true_eq,List.mem_map]at h
 exact h
theorem aj0 {cs cols fewer row:List D} (h:gG cols fewer=true):NJ cols fewer (NJ cs cols row)=NJ cs fewer row:=by
 show fewer.map _=fewer.map _
 exact List.map_congr_left fun c hc=>ajY (aka h hc)
theorem Qk {b:D} {cols:List D} :gy b cols=true↔bn b=true/\dm cols=true/\gG (aQ b) cols=true:=by
 unfold gy
 rw[Bool.and_eq_true,Bool.and_eq_true,and_assoc]
theorem aiv {cs row:List D} (hn:(cs.map intD).Nodup) (hl:row.length=cs.length):NJ cs cs row=row:=by
 refine List.ext_getElem (by rw[TY,hl]) fun i h1 h2=>?_
 have hi:i<cs.length:=by omega
 have hb:hasB cs (intD cs[i])=true:=Gv (List.getElem_mem hi)
 obtain⟨a,b⟩:=Ha hb
 have e:=ajL hb
 have hk:(bC cs (intD cs[i])).toNat<cs.length:=by omega
 rw[dA hk]at e
 have hk2:(bC cs (intD cs[i])).toNat=i:=by
  rcases Nat.lt_trichotomy (bC cs (intD cs[i])).toNat i with h|h|h
  ·have:=(List.pairwise_iff_getElem.1 hn) _ i (by simpa using hk) (by simpa using hi) h
   simp only[List.getElem_map]at this
   exact absurd e this
  ·exact h
  ·have:=(List.pairwise_iff_getElem.1 hn) i _ (by simpa using hi) (by simpa using hk) h
   simp only[List.getElem_map]at this
   exact absurd e.symm this
 have e3:(NJ cs cs row)[i]=row.getD (bC cs (intD cs[i])).toNat .nil:=List.getElem_map (fun c=>row.getD (bC cs (intD c)).toNat .nil)
 rw[e3,hk2,dA (by omega)]
theorem Fe {l:List D} (h:dm l=true):(l.map intD).Nodup:=by
 unfold dm at h
 rw[Bool.and_eq_true]at h
 exact xN h.2
theorem ala {cs cols row:List D} {z:Int} (h1:hasB cs z=true) (h2:hasB cols z=true) (hl:row.length=cs.length):atD z cols (NJ cs cols row)=atD z cs row:=by
 obtain⟨a,b⟩:=Ha h1
 obtain⟨c,d⟩:=Ha h2
 have e:=ajY (cs:=cs) (row:=row) h2
 unfold bC at a b c d e
 unfold atD
 have f1:decide (Lib.idxOf (cols.map intD) z<0)=false:=by rw[decide_eq_false_iff_not];omega
 have f2:decide (Lib.idxOf (cs.map intD) z<0)=false:=by rw[decide_eq_false_iff_not];omega
 have f3:decide (Lib.idxOf (cols.map intD) z>=((NJ cs cols row).length:Int))=false:=by rw[decide_eq_false_iff_not,TY];omega
 have f4:decide (Lib.idxOf (cs.map intD) z>=(row.length:Int))=false:=by rw[decide_eq_false_iff_not];omega
 rw[f1,f2,f3,f4,e]
theorem air (z:Int): ∀ (l m:List Int) (i:Nat),l.contains z=true->Lib.idxFrom (l++m) z i=Lib.idxFrom l z i
 | [],m,i,h=>by simp at h
 |x::l,m,i,h=>by
  rw[List.cons_append,Lib.idxFrom,Lib.idxFrom]
  by_cases hx:x=z
  ·rw[if_pos hx,if_pos hx]
  ·rw[if_neg hx,if_neg hx]
   refine air z l m (i+1) ?_
   rw[List.contains_cons,Bool.or_eq_true]at h
   rcases h with h|h
   ·rw[beq_iff_eq]at h;exact absurd h.symm hx
   ·exact h
theorem alH {cs cs' x y:List D} {z:Int} (h:hasB cs z=true) (hl:x.length=cs.length):atD z (cs++cs') (x++y)=atD z cs x:=by
 obtain⟨a,b⟩:=Ha h
 unfold bC at a b
 have e1:Lib.idxOf ((cs++cs').map intD) z=Lib.idxOf (cs.map intD) z:=by
  rw[List.map_append]
  exact air z _ _ 0 h
 have e2:(x++y).getD (Lib.idxOf (cs.map intD) z).toNat .nil=x.getD (Lib.idxOf (cs.map intD) z).toNat .nil:=by
  rw[dA (by rw[List.length_append];omega),dA (by omega),List.getElem_append_left]
 unfold atD
 have f2:decide (Lib.idxOf (cs.map intD) z<0)=false:=by rw[decide_eq_false_iff_not];omega
 have f3:decide (Lib.idxOf (cs.map intD) z>=((x++y).length:Int))=false:=by rw[decide_eq_false_iff_not,List.length_append];omega
 have f4:decide (Lib.idxOf (cs.map intD) z>=(x.length:Int))=false:=by rw[decide_eq_false_iff_not];omega
 rw[e1,f2,f3,f4,e2]
theorem ahP {a b:D} (h:jM a b=true):bn a=true/\bn b=true/\qj (aQ a) (aQ b)=false/\(aK a).length*(aK b).length<=5000:=by
 unfold jM at h
 rw[Bool.and_eq_true,Bool.and_eq_true,Bool.and_eq_true,Bool.not_eq_true',decide_eq_true_eq]at h
 exact⟨h.1,h.2.1,h.2.2.1,h.2.2.2⟩
theorem Vy {a b:D} (h1:bn a=true) (h2:bn b=true) (h3:qj (aQ a) (aQ b)=false) (h4:(aK a).length*(aK b).length<=5000):jM a b=true:=by
 unfold jM
 rw[h1,h2,h3,decide_eq_true h4]
 rfl
theorem Oz {a b:D} (h:jM a b=true):jf a b=aX (aQ a++aQ b) (jH (aK a) (aK b)):=by
 unfold jf
 rw[h,cond_true]
theorem O6 {a b:List D} :qj a b=true↔ ∃ c∈b,∃ d∈a,intD d=intD c:=by
 unfold qj
 rw[List.any_eq_true]
 constructor
 ·rintro⟨c,hc,h⟩
  obtain⟨d,hd,e⟩:=Tv h
  exact⟨c,hc,d,hd,e⟩
 ·rintro⟨c,hc,d,hd,e⟩
  exact⟨c,hc,by rw[<-e];exact Gv hd⟩
theorem ahO (a b:List D):qj a b=qj b a:=by
 rw[Bool.eq_iff_iff,O6,O6]
 constructor
 ·rintro⟨c,hc,d,hd,e⟩;exact⟨d,hd,c,hc,e.symm⟩
 ·rintro⟨c,hc,d,hd,e⟩;exact⟨d,hd,c,hc,e.symm⟩
theorem ahU (a b c:List D):qj (a++b) c=(qj a c||qj b c):=by
 rw[Bool.eq_iff_iff,Bool.or_eq_true,O6,O6,O6]
 constructor
 ·rintro⟨x,hx,d,hd,e⟩
  rcases List.mem_append.1 hd with hd|hd
  ·exact .inl ⟨x,hx,d,hd,e⟩
  ·exact .inr ⟨x,hx,d,hd,e⟩
 ·rintro(⟨x,hx,d,hd,e⟩|⟨x,hx,d,hd,e⟩)
  ·exact⟨x,hx,d,List.mem_append_left _ hd,e⟩
  ·exact⟨x,hx,d,List.mem_append_right _ hd,e⟩
theorem ahY (a b c:List D):qj a (b++c)=(qj a b||qj a c):=by
 rw[ahO,ahU,ahO b a,ahO c a]
theorem aiR (z:Int): ∀ (l m:List Int) (i:Nat),l.contains z=false->m.contains z=true->Lib.idxFrom (l++m) z i=(l.length:Int)+Lib.idxFrom m z i
 | [],m,i,_,hm=>by simp
 |x::l,m,i,h,hm=>by
  rw[List.cons_append,Lib.idxFrom]
  have hx:x≠z:=fun hh=>by subst hh;simp at h
  have hl:l.contains z=false:=by
   rw[List.contains_cons,Bool.or_eq_false_iff]at h
   exact h.2
  rw[if_neg hx,aiR z l m (i+1) hl hm]
  have:=idxFrom_shift z m i hm
  rw[this,List.length_cons]
  push_cast
  omega
where
 idxFrom_shift (z:Int): ∀ (m:List Int) (i:Nat),m.contains z=true->Lib.idxFrom m z (i+1)=Lib.idxFrom m z i+1
 | [],i,h=>by simp at h
 |x::m,i,h=>by
  rw[Lib.idxFrom,Lib.idxFrom]
  by_cases hx:x=z
  ·rw[if_pos hx,if_pos hx];push_cast;rfl
  ·rw[if_neg hx,if_neg hx]
   refine idxFrom_shift z m (i+1) ?_
   rw[List.contains_cons,Bool.or_eq_true]at h
   rcases h with h|h
   ·rw[beq_iff_eq]at h;exact absurd h.symm hx
   ·exact h
theorem aiO {a b:List D} {z:Int} (ha:hasB a z=false) (hb:hasB b z=true):bC (a++b) z=(a.length:Int)+bC b z:=by
 unfold bC
 rw[List.map_append]
 have:=aiR z (a.map intD) (b.map intD) 0 ha hb
 rw[List.length_map]at this
 exact this
theorem ajZ {a b:List D} {z:Int} (ha:hasB a z=true):bC (a++b) z=bC a z:=by
 unfold bC
 rw[List.map_append]
 exact air z _ _ 0 ha
theorem akD {A B x y:List D} (hA:(A.map intD).Nodup) (hB:(B.map intD).Nodup) (hm:qj A B=false) (hx:x.length=A.length) (hy:y.length=B.length):NJ (B++A) (A++B) (y++x)=x++y:=by
 have e:NJ (B++A) (A++B) (y++x)=NJ (B++A) A (y++x)++NJ (B++A) B (y++x):=by unfold NJ;rw[List.map_append]
 have e1:NJ (B++A) A (y++x)=NJ A A x:=by
  unfold NJ
  refine List.map_congr_left fun c hc=>?_
  have h1:hasB A (intD c)=true:=Gv hc
  have h2:hasB B (intD c)=false:=by
   cases h:hasB B (intD c)with
   |false=>rfl
   |true=>
    obtain⟨d,hd,e⟩:=Tv h
    rw[O6.2 ⟨d,hd,c,hc,e.symm⟩]at hm
    cases hm
  obtain⟨p1,p2⟩:=Ha h1
  rw[aiO h2 h1]
  have hn:((B.length:Int)+bC A (intD c)).toNat=y.length+(bC A (intD c)).toNat:=by omega
  rw[hn,List.getD_eq_getElem?_getD,List.getD_eq_getElem?_getD,List.getElem?_append_right (by omega),Nat.add_sub_cancel_left]
 have e2:NJ (B++A) B (y++x)=NJ B B y:=by
  unfold NJ
  refine List.map_congr_left fun c hc=>?_
  have h1:hasB B (intD c)=true:=Gv hc
  obtain⟨p1,p2⟩:=Ha h1
  rw[ajZ h1,List.getD_eq_getElem?_getD,List.getD_eq_getElem?_getD,List.getElem?_append_left (by omega)]
 rw[e,e1,e2,aiv hA hx,aiv hB hy]
theorem BJ: ∀ {l:List Int},l.Nodup->rJ l=true
 | [],_=>rfl
 |x::l,h=>by
  rw[List.nodup_cons]at h
  simp only[rJ,Bool.and_eq_true,Bool.not_eq_true',List.contains_eq_mem,decide_eq_false_iff_not]
  exact⟨h.1,BJ h.2⟩
theorem o5 {b:D} :bn b=true↔dm (aQ b)=true/\(aK b).length<=5000/\ ∀ r∈aK b,(ae r).length=(aQ b).length/\ ∀ v∈ae r,iI v=true:=by
 unfold bn iQ
 simp only[Bool.and_eq_true,decide_eq_true_eq,List.all_eq_true,beq_iff_eq,and_assoc]
theorem Xv {A B:List D} (hA:dm A=true) (hB:dm B=true) (hm:qj A B=false):dm (A++B)=true:=by
 have nA:=Fe hA
 have nB:=Fe hB
 unfold dm at hA hB⊢
 rw[Bool.and_eq_true,List.all_eq_true]at hA hB⊢
 refine⟨fun z hz=>?_,?_⟩
 ·rw[List.map_append]at hz
  rcases List.mem_append.1 hz with hz|hz
  ·exact hA.1 z hz
  ·exact hB.1 z hz
 ·refine BJ ?_
  rw[List.map_append,List.nodup_append]
  refine⟨nA,nB,fun x hx y hy hxy=>?_⟩
  obtain⟨c,hc,rfl⟩:=List.mem_map.1 hx
  obtain⟨d,hd,hh⟩:=List.mem_map.1 hy
  rw[O6.2 ⟨d,hd,c,hc,by rw[hh,hxy]⟩]at hm
  cases hm
theorem Qs {a b:D} (h:jM a b=true):aQ (jf a b)=aQ a++aQ b:=by rw[Oz h];rfl
theorem PY {a b:D} (h:jM a b=true):aK (jf a b)=jH (aK a) (aK b):=by rw[Oz h];rfl
theorem ah3 {xs ys:List D} {r:D} (h:r∈jH xs ys): ∃ x∈xs,∃ y∈ys,r=Fj x y:=by
 unfold jH at h
 obtain⟨x,hx,h⟩:=List.mem_flatMap.1 h
 obtain⟨y,hy,rfl⟩:=List.mem_map.1 h
 exact⟨x,hx,y,hy,rfl⟩
theorem ahT {a b:D} (h:jM a b=true):bn (jf a b)=true:=by
 obtain⟨h1,h2,h3,h4⟩:=ahP h
 obtain⟨a1,a2,a3⟩:=o5.1 h1
 obtain⟨b1,b2,b3⟩:=o5.1 h2
 refine o5.2 ⟨by rw[Qs h];exact Xv a1 b1 h3,by rw[PY h,S9];exact h4,fun r hr=>?_⟩
 rw[PY h]at hr
 obtain⟨x,hx,y,hy,rfl⟩:=ah3 hr
 obtain⟨c1,c2⟩:=a3 x hx
 obtain⟨d1,d2⟩:=b3 y hy
 have e:ae (Fj x y)=ae x++ae y:=rfl
 rw[e,Qs h]
 refine⟨by rw[List.length_append,List.length_append,c1,d1],fun v hv=>?_⟩
 rcases List.mem_append.1 hv with hv|hv
 ·exact c2 v hv
 ·exact d2 v hv
theorem thrice {a b c:D} (h:jM a b=true) (hp:(aK a).length*(aK b).length*(aK c).length<=5000) (hq:jM b c=true):jM (jf a b) c=jM a (jf b c):=by
 obtain⟨h1,h2,h3,h4⟩:=ahP h
 obtain⟨_,k2,k3,k4⟩:=ahP hq
 have hp2:(aK a).length*((aK b).length*(aK c).length)<=5000:=by rw[<-Nat.mul_assoc];exact hp
 unfold jM
 rw[ahT h,ahT hq,h1,k2,Qs h,Qs hq,PY h,PY hq,S9,S9,ahU,ahY,h3,k3,decide_eq_true hp,decide_eq_true hp2]
 cases qj (aQ a) (aQ c)<;>rfl
theorem akZ {a b s:Int} (h:MB a s=true):MB (orI .i64 a b) s=true:=by
 rw[ajh]at h⊢
 intro i hi
 rw[ajD,h i hi,Bool.true_or]
theorem akX {a b s:Int} (h:MB b s=true):MB (orI .i64 a b) s=true:=by
 rw[ajh]at h⊢
 intro i hi
 rw[ajD,h i hi,Bool.or_true]
theorem YQ {c q:D} (h:l9 c q=true) {e:D} (he:e∈qP q):(mg e).isEmpty=false/\gm c q (mg e)=true:=by
 unfold l9 at h
 rw[Bool.and_eq_true,List.all_eq_true]at h
 have:=h.2 e he
 unfold Ff at this
 rw[Bool.and_eq_true,Bool.not_eq_true']at this
 exact this
theorem ak9 (s:Int) (i:Nat) (hi:i<64):inS s i=decide (s / 2 ^ i % 2=1):=by
 unfold inS
 rw[BitVec.getLsbD,BitVec.toNat_ofInt,Nat.testBit_eq_decide_div_mod_eq]
 rw[Bool.eq_iff_iff,decide_eq_true_eq,decide_eq_true_eq]
 have h64:(2:Int) ^ 64=2 ^ i*2 ^ (64 - i):=by rw[<-Int.pow_add];congr 1;omega
 have hp:(0:Int)<2 ^ i:=Int.pow_pos (by omega)
 have key:(s % 2 ^ 64) / 2 ^ i % 2=s / 2 ^ i % 2:=by
  have e1:s=s % 2 ^ 64+2 ^ 64*(s / 2 ^ 64):=(Int.emod_add_mul_ediv s (2 ^ 64)).symm
  have e2:s / 2 ^ i=(s % 2 ^ 64) / 2 ^ i+2 ^ (64 - i)*(s / 2 ^ 64):=by
   conv=>lhs;rw[e1]
   rw[h64,Int.mul_assoc,Int.add_mul_ediv_left _ _ (by omega)]
  rw[e2]
  have e3:(2:Int) ^ (64 - i)=2*2 ^ (63 - i):=by
   rw[show 64 - i=(63 - i)+1 by omega,Int.pow_succ,Int.mul_comm]
  rw[e3,Int.mul_assoc,Int.add_mul_emod_self_left]
 rw[<-key]
 have h0:0<=s % 2 ^ 64:=Int.emod_nonneg _ (by decide)
 have hn:(((s % ((2 ^ 64:Nat):Int)).toNat:Nat):Int)=s % 2 ^ 64:=Int.toNat_of_nonneg h0
 generalize (s % ((2 ^ 64:Nat):Int)).toNat=m at hn⊢
 rw[<-hn]
 have hc:((m / 2 ^ i % 2:Nat):Int)=(m:Int) / 2 ^ i % 2:=by
  rw[Int.natCast_emod,Int.natCast_ediv,Int.natCast_pow]
  rfl
 omega
def iR (c d q:D):Bool:=HY c q&&xC c d
def adW (q t:D):Bool:=agM t&&decide (W9 t<TW .i64 1 ((dQ q).length:Int))
def Dc (q:D) (o:Int):Int:=intD ((dQ q).getD o.toNat .nil)
def lX (c d q:D) (o:Int):D:=Jv c d (Dc q o) o
def FP (c d q:D) (o:Int):Bool:=decide (0<=o)&&decide (o<((dQ q).length:Int))&&Ip c d (Dc q o) o
def atL (q:D) (ps:List D):List D:=ps.map fun i=>(qP q).getD (intD i).toNat .nil
def acX (q:D) (ps:List D):Bool:=decide (ps.length<=1000)&&ps.all fun i=>decide (0<=intD i)&&decide (intD i<((qP q).length:Int))
def gp (q b:D):D:=bif qBy q != -1 then eF b (qBy q) (kS q)else gI b (uM q)
def gB (q b:D):Bool:=bif qBy q != -1 then dO b (qBy q) (kS q)else gy b (uM q)
def k0 (t:D):D:=(fP t).getD 0 .nil
def k1 (t:D):D:=(fP t).getD 1 .nil
def XA (c d q:D):Nat->D->D
 |0,_=>.nil
 |k+1,t=>bif ((fP t).length:Int)==0 then oQ (lX c d q (VX t)) (atL q (afL q (W9 t)))
  else oQ (jf (XA c d q k (k0 t)) (XA c d q k (k1 t))) (atL q (afl q (W9 (k0 t)) (W9 (k1 t))))
def aiy (c d q:D) (k:Nat) (t:D):Bool:=iR c d q&&((Qj k t !=0)&&decide (Qj k t<TW .i64 1 ((dQ q).length:Int)))
def ahE (c d q t:D):D:=bif iR c d q&&adW q t then XA c d q 4 t else aX [] []
def GU (c d q:D):Nat->D
 |0=>lX c d q 0
 |n+1=>jf (GU c d q n) (lX c d q ((n+1:Nat):Int))
def jW (c d q:D):D:=GU c d q ((dQ q).length - 1)
def uo (c d q:D):D:=oQ (jW c d q) (qP q)
def xu (c d q:D):D:=bif iR c d q then gp q (uo c d q)else aX [] []
def Zd (b:Bool):Int:=bif b then 0 else 1
def ahK (f:D->Int->Bool) (c d q:D):Bool:=agd f c q&&Zl d
def YZ (d q:D):Bool:=bif decide (((dQ q).length:Int)>3)then(tabs d).all fun t=>!decide (((ae t).length:Int)>3)else(tabs d).all fun t=>!decide (((ae t).length:Int)>5)
def agx (d q:D):Int:=bif YZ d q then 0 else 1
def qf (ja:D->D->Bool) (c d q b:D):Bool:=iR c d q&&(gB q (uo c d q)&&(ja (gp q (uo c d q)) b&&(yh q== -1||sortedB b (yh q))))
def q4 (q:D->D->D->D->Bool):List D->Bool| [x,y,z,u]=>q x y z u|_=>false
theorem ZZ {P:Program} {f:FuncId} {fn:Func} {t t1 t2 t3 t4:TypeId} {q:D->D->D->D->Bool} {F:D->D->D->D->Option D} (hf:FnOK P f fn) (h: ∀ x y z u d,q x y z u=true->F x y z u=some d->(∃ n,Ty P n t1 x)->(∃ n,Ty P n t2 y)->(∃ n,Ty P n t3 z)->(∃ n,Ty P n t4 u)->
   CallOK P f [dat t1 (bD P t1 x),dat t2 (bD P t2 y),dat t3 (bD P t3 z),dat t4 (bD P t4 u)] (aj P t d)):
  ∀ args d,jU (q4 q) args=true->ent [t1,t2,t3,t4] (f4 F) args=some d->CallOK P f args (aj P t d):=
 Ew fun ds d hl hq hd=>match ds,hl,hq,hd with
  | [x,y,z,u],_,hq,hd=>CallOK.typed hf.ex (tY t d) fun hty=>(h x y z u d hq hd (hty (dat t1 x) (by simp)) (hty (dat t2 y) (by simp)) (hty (dat t3 z) (by simp)) (hty (dat t4 u) (by simp))).norm
section
structure Asks (c d q:D):Prop where
 may:HY c q=true
 fit:xC c d=true
 n1:1<=(dQ q).length
 n4:(dQ q).length<=4
 of: ∀ o:Nat,o<(dQ q).length->Ip c d (Dc q (o:Int)) (o:Int)=true
 p6:(qP q).length<=6
 ex: ∀ e∈qP q,(mg e).isEmpty=false/\gm c q (mg e)=true
theorem zx {c d q:D} (h:iR c d q=true):Asks c d q:=by
 unfold iR at h
 rw[Bool.and_eq_true]at h
 obtain⟨h1,h2⟩:=h
 have h1':=h1
 unfold HY at h1
 simp only[Bool.and_eq_true]at h1
 obtain⟨a1,a2,a3,a4⟩:=h1
 have ho:=a2
 unfold dn at ho
 simp only[Bool.and_eq_true,decide_eq_true_eq,List.all_eq_true]at ho
 have he:=a3
 unfold l9 at he
 simp only[Bool.and_eq_true,decide_eq_true_eq]at he
 refine⟨h1',h2,ho.1.1,ho.1.2,fun o hlt=>?_,he.1,fun e hm=>YQ a3 hm⟩
 have hb:=ho.2 _ (List.getElem_mem hlt)
 unfold Ip
 rw[h2,Bool.true_and]
 have e1:Dc q (o:Int)=intD (dQ q)[o]:=by unfold Dc;rw[Int.toNat_natCast,dA hlt]
 have h4:=ho.1.2
 rw[e1,hb,Bool.true_and]
 refine dw.2 ⟨Int.natCast_nonneg _,?_⟩
 have h5:o<4:=Nat.lt_of_lt_of_le hlt h4
 exact_mod_cast h5
theorem XT {c d q:D} (h:Asks c d q) {o:Nat} (ho:o<(dQ q).length):FP c d q (o:Int)=true:=by
 unfold FP
 rw[h.of o ho,Bool.and_true]
 simp only[Bool.and_eq_true,decide_eq_true_eq]
 omega
def rws (b:D):List (List D):=(aK b).map ae
def CO (c d q:D) (o:Nat):List D:=aQ (lX c d q (o:Int))
def RO (c d q:D) (o:Nat):List (List D):=rws (lX c d q (o:Int))
def PC (c d q:D) (l:List Nat):List D:=l.flatMap (CO c d q)
def PR (c d q:D):List Nat->List (List D)
 | []=>[[]]
 |o::l=>(RO c d q o).flatMap fun x=>(PR c d q l).map (x++ ·)
theorem Oq {b:D} :bn b=true↔dm (aQ b)=true/\(rws b).length<=5000/\ ∀ r∈rws b,r.length=(aQ b).length/\ ∀ v∈r,iI v=true:=by
 rw[o5]
 unfold rws
 rw[List.length_map]
 refine and_congr Iff.rfl (and_congr Iff.rfl ⟨fun h r hr=>?_,fun h r hr=>h _ (List.mem_map.2 ⟨r,hr,rfl⟩)⟩)
 obtain⟨x,hx,rfl⟩:=List.mem_map.1 hr
 exact h x hx
structure One (c d q:D) (o:Nat):Prop where
 may:bn (lX c d q (o:Int))=true
 few:(RO c d q o).length<=8
 row: ∀ r∈RO c d q o,r.length=(CO c d q o).length/\ ∀ v∈r,iI v=true
 col: ∀ z∈CO c d q o,dB (intD z)=(o:Int)
 seen:CO c d q o=iy (Zo c q (o:Int)).toNat (o:Int)
 cmay:dm (CO c d q o)=true
theorem PN {n:Nat} {o:Int} (hn:n<=4) (h:0<=o/\o<4) {z:D} (hz:z∈iy n o):dB (intD z)=o:=by
 unfold iy at hz
 obtain⟨i,hi,rfl⟩:=List.mem_map.1 hz
 have hi:=List.mem_range.1 hi
 unfold qQ
 show dB (Cj o (i:Int))=o
 rw[EP h ⟨by omega,by omega⟩]
 rw[(vK (z:=o*4+(i:Int)) (by omega)).1]
 omega
theorem E9 {c d q:D} (h:Asks c d q) {o:Nat} (ho:o<(dQ q).length):One c d q o:=by
 have hof:=h.of o ho
 have ht:=told hof
 obtain⟨d1,d2,_,_⟩:=qw.1 ht.may
 have hm:=V5 ht
 have hbag:lX c d q (o:Int)=kz ((tabs c).getD (Dc q (o:Int)).toNat .nil) (ae ((tabs d).getD (Dc q (o:Int)).toNat .nil)) (o:Int):=ht.bag
 rw[<-hbag]at hm
 have hv:=Oq.1 hm
 have hcols:CO c d q o=iy (yE ((tabs c).getD (Dc q (o:Int)).toNat .nil)).toNat (o:Int):=by
  unfold CO
  rw[hbag]
  rfl
 refine⟨hm,?_,hv.2.2,?_,hcols,hv.1⟩
 ·unfold RO rws
  rw[List.length_map,hbag]
  exact ht.few
 ·intro z hz
  rw[hcols]at hz
  exact PN (by omega) ht.occ hz
variable {c d q:D}
theorem aaH (l m:List Nat):PC c d q (l++m)=PC c d q l++PC c d q m:=by unfold PC;rw[List.flatMap_append]
theorem TL (o:Nat) (l:List Nat):PC c d q (o::l)=CO c d q o++PC c d q l:=by unfold PC;rw[List.flatMap_cons]
theorem AQ (o:Nat) (l:List Nat):PR c d q (o::l)=(RO c d q o).flatMap fun x=>(PR c d q l).map (x++ ·):=rfl
theorem Yd: ∀ (l m:List Nat),PR c d q (l++m)=(PR c d q l).flatMap fun x=>(PR c d q m).map (x++ ·)
 | [],m=>by simp[PR]
 |o::l,m=>by
  rw[List.cons_append,AQ,AQ,Yd l m,List.flatMap_assoc]
  congr 1
  funext x
  rw[List.map_flatMap,List.flatMap_map]
  congr 1
  funext y
  rw[List.map_map]
  congr 1
  funext z
  simp
theorem PZ (o:Nat):PR c d q [o]=RO c d q o:=by
 rw[AQ]
 simp[PR]
def xQ (q:D) (l:List Nat):Prop:= ∀ o∈l,o<(dQ q).length
theorem OV (h:Asks c d q) {l:List Nat} (hl:xQ q l) {z:D} (hz:z∈PC c d q l): ∃ o∈l,dB (intD z)=(o:Int):=by
 unfold PC at hz
 obtain⟨o,ho,hz⟩:=List.mem_flatMap.1 hz
 exact⟨o,ho,(E9 h (hl o ho)).col z hz⟩
theorem TA (h:Asks c d q) {l m:List Nat} (hl:xQ q l) (hm:xQ q m) (hd: ∀ o∈l,o∉m):qj (PC c d q l) (PC c d q m)=false:=by
 cases hmm:qj (PC c d q l) (PC c d q m)with
 |false=>rfl
 |true=>
  obtain⟨x,hx,y,hy,hxy⟩:=O6.1 hmm
  obtain⟨o,ho,h1⟩:=OV h hm hx
  obtain⟨p,hp,h2⟩:=OV h hl hy
  rw[hxy]at h2
  have:o=p:=by omega
  subst this
  exact absurd ho (hd o hp)
theorem KN (h:Asks c d q): ∀ {l:List Nat},xQ q l->l.Nodup->dm (PC c d q l)=true
 | [],_,_=>rfl
 |o::l,hl,hn=>by
  rw[List.nodup_cons]at hn
  rw[TL]
  have ho:=E9 h (hl o (by simp))
  have hl':xQ q l:=fun p hp=>hl p (by simp[hp])
  refine Xv ho.cmay (KN h hl' hn.2) ?_
  have:=TA h (l:=[o]) (m:=l) (fun p hp=>by rw[List.mem_singleton]at hp;subst hp;exact hl p (by simp)) hl' (fun p hp=>by rw[List.mem_singleton]at hp;subst hp;exact hn.1)
  have e:PC c d q [o]=CO c d q o:=by unfold PC;simp
  rw[e]at this
  exact this
theorem Kv (h:Asks c d q): ∀ {l:List Nat},xQ q l-> ∀ r∈PR c d q l,r.length=(PC c d q l).length/\ ∀ v∈r,iI v=true
 | [],_,r,hr=>by
  simp only[PR,List.mem_singleton]at hr
  subst hr
  exact⟨rfl,fun v hv=>by cases hv⟩
 |o::l,hl,r,hr=>by
  rw[AQ]at hr
  obtain⟨x,hx,hr⟩:=List.mem_flatMap.1 hr
  obtain⟨y,hy,rfl⟩:=List.mem_map.1 hr
  obtain⟨a1,a2⟩:=(E9 h (hl o (by simp))).row x hx
  obtain⟨b1,b2⟩:=Kv h (fun p hp=>hl p (by simp[hp])) y hy
  rw[TL]
  refine⟨by rw[List.length_append,List.length_append,a1,b1],fun v hv=>?_⟩
  rcases List.mem_append.1 hv with hv|hv
  ·exact a2 v hv
  ·exact b2 v hv
theorem Dy {α β:Type} (f:α->List β) (k:Nat): ∀ (l:List α),(∀ x∈l,(f x).length<=k)->(l.flatMap f).length<=l.length*k
 | [],_=>by simp
 |x::l,h=>by
  have h1:=h x (by simp)
  have h2:=Dy f k l (fun y hy=>h y (by simp[hy]))
  rw[List.flatMap_cons,List.length_append,List.length_cons,Nat.succ_mul]
  omega
theorem KX (h:Asks c d q): ∀ {l:List Nat},xQ q l->(PR c d q l).length<=8 ^ l.length
 | [],_=>by simp[PR]
 |o::l,hl=>by
  have h1:=KX h (l:=l) (fun p hp=>hl p (by simp[hp]))
  have h2:=(E9 h (hl o (by simp))).few
  rw[AQ,List.length_cons,Nat.pow_succ]
  refine Nat.le_trans (Dy _ (PR c d q l).length _ (fun x _=>by simp)) ?_
  have:=Nat.mul_le_mul h2 h1
  rw[Nat.mul_comm (8 ^ l.length) 8]
  exact this
theorem XF {n:Nat} {l:List Nat} (hl: ∀ o∈l,o<n) (hn:l.Nodup):l.length<=n:=by
 have hm:(l.map fun o:Nat=>(o:Int)).Nodup:=List.Pairwise.map _ (fun a b hab hh=>hab (by omega)) hn
 have:=oN n (l.map fun o:Nat=>(o:Int)) hm (fun z hz=>by
  obtain⟨o,ho,rfl⟩:=List.mem_map.1 hz
  have:=hl o ho
  omega)
 simpa using this
theorem EK (h:Asks c d q) {l:List Nat} (hl:xQ q l) (hn:l.Nodup):8 ^ l.length<=4096:=by
 have h1:=XF hl hn
 have h2:=h.n4
 have h3:=Nat.pow_le_pow_right (show 0<8 by decide) (show l.length<=4 by omega)
 exact Nat.le_trans h3 (by decide)
def Vw (b:D) (C:List D) (R:List (List D)):Prop:=aQ b=C/\rws b=R
theorem Qr {b:D} {C:List D} {R:List (List D)} (hv:Vw b C R) (h1:dm C=true) (h2:R.length<=5000) (h3: ∀ r∈R,r.length=C.length/\ ∀ v∈r,iI v=true):bn b=true:=
 Oq.2 ⟨by rw[hv.1];exact h1,by rw[hv.2];exact h2,by rw[hv.1,hv.2];exact h3⟩
theorem Ug {a b:D} (h:jM a b=true):rws (jf a b)=(rws a).flatMap fun x=>(rws b).map (x++ ·):=by
 unfold rws
 rw[PY h]
 unfold jH
 rw[List.map_flatMap,List.flatMap_map]
 congr 1
 funext x
 rw[List.map_map,List.map_map]
 rfl
def OZ (es:List D) (C:List D) (R:List (List D)):List (List D):=R.filter (nM es C)
theorem ZJ {b:D} {C:List D} {R:List (List D)} (h:Vw b C R) (es:List D):Vw (oQ b es) C (OZ es C R):=by
 obtain⟨h1,h2⟩:=h
 refine⟨h1,?_⟩
 unfold rws oQ OZ
 show((jX es (aQ b) (aK b)).map ae)=_
 rw[<-h2,<-h1]
 unfold rws jX
 rw[List.filter_map]
 rfl
theorem VD {es C:List D} {R:List (List D)} {r:List D} (h:r∈OZ es C R):r∈R:=(List.mem_filter.1 h).1
theorem NP (h:Asks c d q) {l m:List Nat} (hl:xQ q (l++m)) (hn:(l++m).Nodup) {a b:D} {R S:List (List D)} (ha:Vw a (PC c d q l) R) (hb:Vw b (PC c d q m) S) (hR: ∀ r∈R,r∈PR c d q l) (hS: ∀ r∈S,r∈PR c d q m)
  (hRl:R.length<=(PR c d q l).length) (hSl:S.length<=(PR c d q m).length):
  jM a b=true/\Vw (jf a b) (PC c d q (l++m)) (R.flatMap fun x=>S.map (x++ ·)):=by
 have hn':=List.nodup_append.1 hn
 have hl1:xQ q l:=fun o ho=>hl o (List.mem_append.2 (.inl ho))
 have hl2:xQ q m:=fun o ho=>hl o (List.mem_append.2 (.inr ho))
 have hdis: ∀ o∈l,o∉m:=fun o ho hm=>hn'.2.2 o ho o hm rfl
 have f1:=KX h hl1
 have f2:=KX h hl2
 have f3:=EK h hl hn
 rw[List.length_append,Nat.pow_add]at f3
 have p1:8 ^ l.length<=4096:=EK h hl1 hn'.1
 have p2:8 ^ m.length<=4096:=EK h hl2 hn'.2.1
 have hx:jM a b=true:=by
  refine Vy (Qr ha (KN h hl1 hn'.1) (by omega) fun r hr=>Kv h hl1 r (hR r hr)) (Qr hb (KN h hl2 hn'.2.1) (by omega) fun r hr=>Kv h hl2 r (hS r hr)) ?_ ?_
  ·rw[ha.1,hb.1];exact TA h hl1 hl2 hdis
  ·have e1:(aK a).length=R.length:=by rw[<-ha.2];simp[rws]
   have e2:(aK b).length=S.length:=by rw[<-hb.2];simp[rws]
   rw[e1,e2]
   refine Nat.le_trans (Nat.mul_le_mul (Nat.le_trans hRl f1) (Nat.le_trans hSl f2)) (by omega)
 refine⟨hx,?_,?_⟩
 ·rw[Qs hx,ha.1,hb.1,aaH]
 ·rw[Ug hx,ha.2,hb.2]
theorem aju {A B A' B' x y:List D} (hA: ∀ z∈A',hasB A (intD z)=true) (hB: ∀ z∈B',hasB A (intD z)=false/\hasB B (intD z)=true) (hx:x.length=A.length):
  NJ (A++B) (A'++B') (x++y)=NJ A A' x++NJ B B' y:=by
 have e:NJ (A++B) (A'++B') (x++y)=NJ (A++B) A' (x++y)++NJ (A++B) B' (x++y):=by unfold NJ;rw[List.map_append]
 rw[e]
 congr 1
 ·unfold NJ
  refine List.map_congr_left fun z hz=>?_
  have h1:=hA z hz
  obtain⟨p1,p2⟩:=Ha h1
  rw[ajZ h1,List.getD_eq_getElem?_getD,List.getD_eq_getElem?_getD,List.getElem?_append_left (by omega)]
 ·unfold NJ
  refine List.map_congr_left fun z hz=>?_
  obtain⟨h1,h2⟩:=hB z hz
  obtain⟨p1,p2⟩:=Ha h2
  rw[aiO h1 h2]
  have hn:((A.length:Int)+bC B (intD z)).toNat=x.length+(bC B (intD z)).toNat:=by omega
  rw[hn,List.getD_eq_getElem?_getD,List.getD_eq_getElem?_getD,List.getElem?_append_right (by omega),Nat.add_sub_cancel_left]
theorem yN {l:List D} {z:Int} :hasB l z=true↔ ∃ x∈l,intD x=z:=by
 refine⟨Tv,?_⟩
 rintro⟨x,hx,rfl⟩
 exact Gv hx
theorem aa7 {l:List Nat} {z:Int} :hasB (PC c d q l) z=true↔ ∃ o∈l,hasB (CO c d q o) z=true:=by
 rw[yN]
 unfold PC
 constructor
 ·rintro⟨x,hx,rfl⟩
  obtain⟨o,ho,hx⟩:=List.mem_flatMap.1 hx
  exact⟨o,ho,Gv hx⟩
 ·rintro⟨o,ho,hz⟩
  obtain⟨x,hx,rfl⟩:=yN.1 hz
  exact⟨x,List.mem_flatMap.2 ⟨o,ho,hx⟩,rfl⟩
theorem aiP (h:Asks c d q) {o:Nat} {l:List Nat} (ho:o<(dQ q).length) (hl:xQ q l) (hn:o∉l) {z:D} (hz:z∈PC c d q l):hasB (CO c d q o) (intD z)=false:=by
 cases hh:hasB (CO c d q o) (intD z)with
 |false=>rfl
 |true=>
  obtain⟨x,hx,e⟩:=yN.1 hh
  have h1:=(E9 h ho).col x hx
  obtain⟨p,hp,h2⟩:=OV h hl hz
  rw[e]at h1
  have:p=o:=by omega
  subst this
  exact absurd hp hn
theorem aji {l m:List Nat} (hp:l.Perm m) {z:D} (hz:z∈PC c d q m):hasB (PC c d q l) (intD z)=true:=by
 unfold PC at hz
 obtain⟨o,ho,hz⟩:=List.mem_flatMap.1 hz
 exact aa7.2 ⟨o,hp.mem_iff.2 ho,Gv hz⟩
theorem ajv {α β:Type} {f g:α->List β} : ∀ (l:List α),(∀ x∈l,(f x).Perm (g x))->(l.flatMap f).Perm (l.flatMap g)
 | [],_=>.nil
 |x::l,h=>by
  rw[List.flatMap_cons,List.flatMap_cons]
  exact(h x (by simp)).append (ajv l fun y hy=>h y (by simp[hy]))
theorem ak5 (h:Asks c d q) {l m:List Nat} (hp:l.Perm m):xQ q l->l.Nodup->((PR c d q l).map (NJ (PC c d q l) (PC c d q m))).Perm (PR c d q m):=by
 induction hp with
 |nil=>intro _ _;exact .refl _
 | @cons o l m hp ih=>
  intro hl hn
  rw[List.nodup_cons]at hn
  have hl':xQ q l:=fun p hp=>hl p (by simp[hp])
  have ho:=E9 h (hl o (by simp))
  rw[AQ,AQ,List.map_flatMap,TL,TL]
  refine ajv _ fun x hx=>?_
  rw[List.map_map]
  have e: ∀ y∈PR c d q l,(NJ (CO c d q o++PC c d q l) (CO c d q o++PC c d q m)∘(x++ ·)) y=((x++ ·)∘NJ (PC c d q l) (PC c d q m)) y:=by
   intro y hy
   simp only[Function.comp]
   rw[aju (fun z hz=>Gv hz) (fun z hz=>⟨aiP h (hl o (by simp)) (fun p hp'=>hl' p (hp.mem_iff.2 hp')) (fun hm=>hn.1 (hp.mem_iff.2 hm)) hz,aji hp hz⟩) (ho.row x hx).1,aiv (Fe ho.cmay) (ho.row x hx).1]
  rw[List.map_congr_left e,<-List.map_map]
  exact(ih hl' hn.2).map _
 |swap o p l=>
  intro hl hn
  simp only[List.nodup_cons,List.mem_cons,not_or]at hn
  have hpo:=hl p (by simp)
  have hoo:=hl o (by simp)
  have h1:=E9 h hpo
  have h2:=E9 h hoo
  have hl':xQ q l:=fun r hr=>hl r (by simp[hr])
  have key: ∀ x∈RO c d q p,∀ y∈RO c d q o,∀ z∈PR c d q l,NJ (CO c d q p++(CO c d q o++PC c d q l)) (CO c d q o++(CO c d q p++PC c d q l)) (x++(y++z))=y++(x++z):=by
   intro x hx y hy z hz
   have hm:qj (CO c d q o) (CO c d q p)=false:=by
    have:=TA h (l:=[o]) (m:=[p]) (fun r hr=>by rw[List.mem_singleton]at hr;subst hr;exact hoo) (fun r hr=>by rw[List.mem_singleton]at hr;subst hr;exact hpo) (fun r hr hr'=>by rw[List.mem_singleton]at hr hr';subst hr;exact hn.1.1 hr'.symm)
    unfold PC at this
    simpa using this
   have e1:NJ (CO c d q p++CO c d q o++PC c d q l) (CO c d q o++CO c d q p++PC c d q l) (x++y++z)=NJ (CO c d q p++CO c d q o) (CO c d q o++CO c d q p) (x++y)++NJ (PC c d q l) (PC c d q l) z:=by
    refine aju (fun w hw=>?_) (fun w hw=>⟨?_,Gv hw⟩) (by rw[List.length_append,List.length_append,(h1.row x hx).1,(h2.row y hy).1])
    ·refine Gv ?_
     rcases List.mem_append.1 hw with hw|hw
     ·exact List.mem_append.2 (.inr hw)
     ·exact List.mem_append.2 (.inl hw)
    ·have a1:=aiP h hpo hl' hn.1.2 hw
     have a2:=aiP h hoo hl' hn.2.1 hw
     cases hh:hasB (CO c d q p++CO c d q o) (intD w)with
     |false=>rfl
     |true=>
      obtain⟨u,hu,e⟩:=yN.1 hh
      rcases List.mem_append.1 hu with hu|hu
      ·rw[yN.2 ⟨u,hu,e⟩]at a1;cases a1
      ·rw[yN.2 ⟨u,hu,e⟩]at a2;cases a2
   rw[akD (Fe h2.cmay) (Fe h1.cmay) hm (h2.row y hy).1 (h1.row x hx).1,aiv (Fe (KN h hl' hn.2.2)) (Kv h hl' z hz).1]at e1
   simpa [List.append_assoc]using e1
  rw[AQ,AQ,AQ,AQ,TL,TL,TL,TL]
  have e2:(((RO c d q p).flatMap fun x=>(((RO c d q o).flatMap fun y=>(PR c d q l).map (y++ ·)).map (x++ ·))).map (NJ (CO c d q p++(CO c d q o++PC c d q l)) (CO c d q o++(CO c d q p++PC c d q l))))=
    (RO c d q p).flatMap fun x=>(RO c d q o).flatMap fun y=>(PR c d q l).map fun z=>y++(x++z):=by
   rw[List.map_flatMap]
   refine flat_congr _ fun x hx=>?_
   rw[List.map_flatMap,List.map_flatMap]
   refine flat_congr _ fun y hy=>?_
   rw[List.map_map,List.map_map]
   exact List.map_congr_left fun z hz=>key x hx y hy z hz
  rw[e2]
  have e3:((RO c d q o).flatMap fun x=>(((RO c d q p).flatMap fun y=>(PR c d q l).map (y++ ·)).map (x++ ·)))=(RO c d q o).flatMap fun y=>(RO c d q p).flatMap fun x=>(PR c d q l).map fun z=>y++(x++z):=by
   refine flat_congr _ fun y hy=>?_
   rw[List.map_flatMap]
   refine flat_congr _ fun x hx=>?_
   rw[List.map_map]
   rfl
  rw[e3]
  exact flat2_swap (fun x y=>(PR c d q l).map fun z=>y++(x++z)) _ _
 | @trans l m k h1 h2 ih1 ih2=>
  intro hl hn
  have i1:=ih1 hl hn
  have hm:xQ q m:=fun o ho=>hl o (h1.mem_iff.2 ho)
  have i2:=ih2 hm ((h1.nodup_iff).1 hn)
  have e:(PR c d q l).map (NJ (PC c d q l) (PC c d q k))=((PR c d q l).map (NJ (PC c d q l) (PC c d q m))).map (NJ (PC c d q m) (PC c d q k)):=by
   rw[List.map_map]
   refine List.map_congr_left fun r hr=>?_
   simp only[Function.comp]
   exact(aj0 (ajy fun z hz=>aji h2 hz)).symm
  rw[e]
  exact(i1.map _).trans i2
where
 flat_congr {α β:Type} {f g:α->List β} : ∀ (l:List α),(∀ x∈l,f x=g x)->l.flatMap f=l.flatMap g
  | [],_=>rfl
  |x::l,h=>by rw[List.flatMap_cons,List.flatMap_cons,h x (by simp),flat_congr l fun y hy=>h y (by simp[hy])]
 flat2_cons {α β γ:Type} (f:β->List γ) (g:β->List γ): ∀ ys:List β,(ys.flatMap fun y=>f y++g y).Perm (ys.flatMap f++ys.flatMap g)
  | []=>.refl _
  |y::ys=>by
   rw[List.flatMap_cons,List.flatMap_cons,List.flatMap_cons]
   have ih:=flat2_cons (α:=α) f g ys
   refine((List.Perm.refl _).append ih).trans ?_
   rw[List.append_assoc,List.append_assoc]
   refine List.Perm.append_left _ ?_
   rw[<-List.append_assoc,<-List.append_assoc]
   exact List.Perm.append_right _ List.perm_append_comm
 flat2_swap {α β γ:Type} (f:α->β->List γ): ∀ (xs:List α) (ys:List β),(xs.flatMap fun x=>ys.flatMap fun y=>f x y).Perm (ys.flatMap fun y=>xs.flatMap fun x=>f x y)
  | [],ys=>by
   rw[List.flatMap_nil]
   have:(ys.flatMap fun y=>([]:List α).flatMap fun x=>f x y)=[]:=by induction ys with
    |nil=>rfl
    |cons y ys ih=>rw[List.flatMap_cons,ih];rfl
   rw[this]
  |x::xs,ys=>by
   rw[List.flatMap_cons]
   have ih:=flat2_swap f xs ys
   refine((List.Perm.refl _).append ih).trans ?_
   have h2:=flat2_cons (α:=α) (fun y=>f x y) (fun y=>xs.flatMap fun x'=>f x' y) ys
   have e:(ys.flatMap fun y=>(x::xs).flatMap fun x'=>f x' y)=ys.flatMap fun y=>f x y++xs.flatMap fun x'=>f x' y:=by
    congr 1
   rw[e]
   exact h2.symm
end
end Go.Ev
