/- Trees of functions, and lemmas. Nothing here is trusted. -/
import Derived.Test.YtpceahbengfjeaaGreatDoorZ36
namespace Go.Proofs.YtpceahbengfjeaaGreatDoor
section
namespace X
open Go.Ev
set_option linter.unusedVariables false
set_option maxRecDepth 10000
set_option linter.unusedSimpArgs false
theorem ZB (x:D):bD Tryz.prog 111 x=x:=by kernel_rfl
theorem tX (x:D):bD Tryz.prog 24 x=x:=by kernel_rfl
theorem xX (x:D):bD Tryz.prog 31 x=x:=by kernel_rfl
theorem amE (x:D):bD Tryz.prog 108 x=.lit (.int .i64 (intD x)):=by kernel_rfl
theorem amM (x:D):bD Tryz.prog 107 x=x:=by kernel_rfl
theorem acf (x:D):aj Tryz.prog 111 x=dat 111 x:=by kernel_rfl
theorem alT (x:D):aj Tryz.prog 108 x=dat 108 (.lit (.int .i64 (intD x))):=by kernel_rfl
theorem acI (x:D):aj Tryz.prog 69 x=aL [24,27] x:=by kernel_rfl
theorem aaV (x:D):aj Tryz.prog 175 x=aL [3,3,4] x:=by kernel_rfl
theorem WY:Tryz.prog.underlying 22=some (.slice 111):=by kernel_rfl
theorem aaO:Tryz.prog.underlying 29=some (.slice 61):=by kernel_rfl
theorem aaA: ∃ f g:Field,Tryz.prog.underlying 111=some (.struct #[f,g])/\f.type=3/\g.type=3:=⟨_,_,Tryz.underlying111,rfl,rfl⟩
theorem acx: ∃ f:Field,Tryz.prog.underlying 24=some (.struct #[f])/\f.type=22:=⟨_,Tryz.underlying24,rfl⟩
theorem af1: ∃ f0 f1 f2 f3 f4 f5:Field,Tryz.prog.underlying 31=some (.struct #[f0,f1,f2,f3,f4,f5])/\f0.type=28/\f1.type=29/\f2.type=3/\f3.type=28/\f4.type=28/\f5.type=3:=
 ⟨_,_,_,_,_,_,Tryz.underlying31,rfl,rfl,rfl,rfl,rfl,rfl⟩
theorem X7 {n:Nat} {x:D} (h:Ty Tryz.prog n 111 x): ∃ c r,x=Oc c r/\inR c=true/\inR r=true:=by
 obtain⟨f,g,hu,hf,hg⟩:=aaA
 obtain⟨m,a,b,rfl,h1,h2⟩:=yC h hu
 rw[hf]at h1
 rw[hg]at h2
 obtain⟨c,rfl,hc⟩:=iC h1
 obtain⟨r,rfl,hr⟩:=iC h2
 exact⟨c,r,rfl,hc,hr⟩
theorem Og {n:Nat} {x:D} (h:Ty Tryz.prog n 24 x): ∃ ts,x=lV ts/\ts.length<=maxLen/\ ∀ t∈ts,∃ c r,t=Oc c r/\inR c=true/\inR r=true:=by
 obtain⟨f,hu,hf⟩:=acx
 obtain⟨m,a,rfl,h1⟩:=xH h hu
 rw[hf]at h1
 obtain⟨m,ts,rfl,hl,hp⟩:=pW h1 WY
 exact⟨ts,rfl,hl,fun t ht=>X7 (hp t ht)⟩
structure QOK (q:D):Prop where
 eq:q=.agg [.slice (dQ q) [],.slice (qP q) [],fO (qBy q),.slice (kS q) [],.slice (uM q) [],fO (yh q)]
 occ:(dQ q).length<=maxLen
 p:(qP q).length<=maxLen
 sums:(kS q).length<=maxLen
 out:(uM q).length<=maxLen
 e: ∀ e∈qP q,∃ m,Ty Tryz.prog m 61 e
 o: ∀ x∈dQ q,∃ z,x=fO z/\inR z=true
 s: ∀ x∈kS q,∃ z,x=fO z/\inR z=true
 u: ∀ x∈uM q,∃ z,x=fO z/\inR z=true
theorem tyQ {n:Nat} {x:D} (h:Ty Tryz.prog n 31 x):QOK x:=by
 obtain⟨f0,f1,f2,f3,f4,f5,hu,t0,t1,t2,t3,t4,t5⟩:=af1
 cases n with
 |zero=>exact h.elim
 |succ n=>
  unfold Ty at h
  rw[hu]at h
  split at h<;>try (exact h.elim)
  all_goals try (simp_all;done)
  rename_i fs ps heq
  cases heq
  obtain⟨hl,hp⟩:=h
  have h0:=hp 0 f0 rfl
  have h1:=hp 1 f1 rfl
  have h2:=hp 2 f2 rfl
  have h3:=hp 3 f3 rfl
  have h4:=hp 4 f4 rfl
  have h5:=hp 5 f5 rfl
  rw[t0]at h0
  rw[t1]at h1
  rw[t2]at h2
  rw[t3]at h3
  rw[t4]at h4
  rw[t5]at h5
  match ps,hl,h0,h1,h2,h3,h4,h5 with
  | [a,b,c,d,e,f],_,h0,h1,h2,h3,h4,h5=>
   obtain⟨es,rfl,l0,p0⟩:=Zv (show Ty Tryz.prog n 28 a from h0)
   obtain⟨m,xs,rfl,l1,p1⟩:=pW (show Ty Tryz.prog n 29 b from h1) aaO
   obtain⟨z,rfl,_⟩:=iC (show Ty Tryz.prog n 3 c from h2)
   obtain⟨us,rfl,l3,p3⟩:=Zv (show Ty Tryz.prog n 28 d from h3)
   obtain⟨vs,rfl,l4,p4⟩:=Zv (show Ty Tryz.prog n 28 e from h4)
   obtain⟨y,rfl,_⟩:=iC (show Ty Tryz.prog n 3 f from h5)
   exact⟨rfl,l0,l1,l3,l4,fun e he=>⟨m,p1 e he⟩,p0,p3,p4⟩
def Xw:FuncId×TypeId×(List AV->Bool)×(List AV->Option D):=(124,4,yes,ent [3,3] (f2 fun x y=>some (.lit (.bool (bz (intD x) (intD y))))))
theorem Xg:FnOK Tryz.prog 124 Tryz.f124:=⟨Tryz.func124,rfl,by kernel_rfl⟩
theorem c124: ∀ args d,Xw.2.2.2 args=some d->CallOK Tryz.prog 124 args (aj Tryz.prog 4 d):=
 gD Xg fun x y d h _ _=>by
  cases h
  rw[n3,n3]
  refine aI hm JB Xg ((t124 1 (intD x) (intD y)).trans ?_)
  rw[m4,QS]
  show _=some (dat 4 (.lit (.bool (bz (intD x) (intD y)))))
  unfold bz
  cases decide (0<=intD x)<;>rfl
def e128:FuncId×TypeId×(List AV->Bool)×(List AV->Option D):=(128,4,yes,ent [3,3] (f2 fun x y=>some (.lit (.bool (bz (intD x) (intD y))))))
theorem afh:FnOK Tryz.prog 128 Tryz.f128:=⟨Tryz.func128,rfl,by kernel_rfl⟩
theorem afW: ∀ args d,e128.2.2.2 args=some d->CallOK Tryz.prog 128 args (aj Tryz.prog 4 d):=
 gD afh fun x y d h _ _=>by
  cases h
  rw[n3,n3]
  refine aI hm JB afh ((ahl 1 (intD x) (intD y)).trans ?_)
  rw[m4,QS]
  show _=some (dat 4 (.lit (.bool (bz (intD x) (intD y)))))
  unfold bz
  cases decide (0<=intD x)<;>rfl
def e127:FuncId×TypeId×(List AV->Bool)×(List AV->Option D):=(127,111,yes,ent [111] (f1 fun x=>some (lU x)))
theorem WQ:FnOK Tryz.prog 127 Tryz.f127:=⟨Tryz.func127,rfl,by kernel_rfl⟩
theorem c127: ∀ args d,e127.2.2.2 args=some d->CallOK Tryz.prog 127 args (aj Tryz.prog 111 d):=
 mY WQ fun x d h _=>by
  cases h
  rw[ZB]
  refine aI hm JB WQ ((t127 1 x).trans ?_)
  rw[acf,D6]
  unfold lU
  cases dR x<;>rfl
def e34:FuncId×TypeId×(List AV->Bool)×(List AV->Option D):=(34,69,yes,ent [] (f0 (some (.agg [kZ,jd]))))
theorem k34:FnOK Tryz.prog 34 Tryz.f34:=⟨Tryz.func34,rfl,by kernel_rfl⟩
theorem c34: ∀ args d,e34.2.2.2 args=some d->CallOK Tryz.prog 34 args (aj Tryz.prog 69 d):=
 YP fun d h=>by
  cases h
  refine aI hm JB k34 ((t34 1).trans ?_)
  rw[acI]
  rfl
def VI:FuncId×TypeId×(List AV->Bool)×(List AV->Option D):=(104,4,yes,ent [28,3] (f2 fun x y=>some (.lit (.bool (hasB (ae x) (intD y))))))
theorem Wx:FnOK Tryz.prog 104 Tryz.f104:=⟨Tryz.func104,rfl,by kernel_rfl⟩
theorem aaP: ∀ args d,VI.2.2.2 args=some d->CallOK Tryz.prog 104 args (aj Tryz.prog 4 d):=
 gD Wx fun x y d h _ _=>by
  cases h
  rw[n27,n3]
  refine aI hm JB Wx ((acv 1 x (intD y)).trans ?_)
  rw[m4]
  show _=some (dat 4 (.lit (.bool (hasB (ae x) (intD y)))))
  have:decide (Lib.idxOf ((ae x).map intD) (intD y)>=0)=hasB (ae x) (intD y):=by
   unfold hasB
   rw[Bool.eq_iff_iff,decide_eq_true_eq]
   have:=Lib.idxOf_nonneg_iff ((ae x).map intD) (intD y)
   exact Iff.of_eq this
  rw[this]
def e77:FuncId×TypeId×(List AV->Bool)×(List AV->Option D):=(77,108,jU (q1 fun x=>decide (0<=intD x)),ent [3] (f1 fun x=>some (.lit (.int .i64 (LQ (intD x))))))
theorem k77:FnOK Tryz.prog 77 Tryz.f77:=⟨Tryz.func77,rfl,by kernel_rfl⟩
theorem c77: ∀ args d,e77.2.2.1 args=true->e77.2.2.2 args=some d->CallOK Tryz.prog 77 args (aj Tryz.prog 108 d):=
 Oa k77 fun x d hq h _=>by
  cases h
  rw[n3]
  refine aI hm JB k77 ((t77 1 (intD x)).trans ?_)
  have hq:decide (0<=intD x)=true:=hq
  rw[alT,hq]
  rfl
def adN:List D->Option D:=f2 fun x y=>some (.lit (.bool (MB (intD x) (intD y))))
def e76:FuncId×TypeId×(List AV->Bool)×(List AV->Option D):=(76,4,yes,fun xs=>match ent [3,3] adN xs with|some d=>some d|none=>ent [3,108] adN xs)
theorem k76:FnOK Tryz.prog 76 Tryz.f76:=⟨Tryz.func76,rfl,by kernel_rfl⟩
theorem c76: ∀ args d,e76.2.2.2 args=some d->CallOK Tryz.prog 76 args (aj Tryz.prog 4 d):=by
 intro args d h
 have h1: ∀ args d,ent [3,3] adN args=some d->CallOK Tryz.prog 76 args (aj Tryz.prog 4 d):=gD k76 fun x y d h _ _=>by
  cases h
  rw[n3,n3]
  exact aI hm JB k76 ((amv 1 (intD x) (intD y)).trans (by rw[m4];rfl))
 have h2: ∀ args d,ent [3,108] adN args=some d->CallOK Tryz.prog 76 args (aj Tryz.prog 4 d):=gD k76 fun x y d h _ _=>by
  cases h
  rw[n3,amE]
  exact aI hm JB k76 ((amj 1 (intD x) (intD y)).trans (by rw[m4];rfl))
 cases he:ent [3,3] adN args with
 |some d'=>
  have h:(match ent [3,3] adN args with|some d=>some d|none=>ent [3,108] adN args)=some d:=h
  rw[he]at h
  cases h
  exact h1 args _ he
 |none=>
  have h:(match ent [3,3] adN args with|some d=>some d|none=>ent [3,108] adN args)=some d:=h
  rw[he]at h
  exact h2 args _ h
theorem ajN {N:Nat} {c q:D} (hl:(ae (af q 1)).length<=maxLen): ∀ (n i:Nat) (b:Bool),i<=(ae (af q 1)).length->(ae (af q 1)).length - i<n->
  aid Tryz.prog Tryz.f86 N n c q b (i:Int)=some (dat 4 (.lit (.bool (b&&((ae (af q 1)).drop i).all fun e=>fewB e 60))))
 |0,i,b,_,h=>by omega
 |n+1,i,b,hi,h=>by
  rw[ajB]
  by_cases hlt:i<(ae (af q 1)).length
  ·rw[bG hlt,eY hlt,List.drop_eq_getElem_cons hlt,List.all_cons,Int.toNat_natCast,dA hlt,fE hl hlt]
   cases b with
   |false=>rfl
   |true=>exact(ajN (N:=N) (c:=c) hl n (i+1) _ (by omega) (by omega)).trans (by rw[Bool.true_and])
  ·rw[fB hlt,List.drop_of_length_le (by omega),List.all_nil,Bool.and_true]
   rfl
def e86:FuncId×TypeId×(List AV->Bool)×(List AV->Option D):=(86,4,yes,ent [24,31] (f2 fun x y=>some (.lit (.bool (agd fewB x y)))))
theorem k86:FnOK Tryz.prog 86 Tryz.f86:=⟨Tryz.func86,rfl,by kernel_rfl⟩
theorem ajO {a:Nat} {b:Nat} :decide ((a:Int)<=(b:Int))=decide (a<=b):=by rw[Bool.eq_iff_iff,decide_eq_true_eq,decide_eq_true_eq];omega
theorem c86: ∀ args d,e86.2.2.2 args=some d->CallOK Tryz.prog 86 args (aj Tryz.prog 4 d):=
 gD k86 fun x y d h _ ⟨_,hy⟩=>by
  cases h
  rw[tX,xX]
  have hq:=tyQ hy
  have hl:(ae (af y 1)).length<=maxLen:=hq.p
  refine aI hm JB k86 ((t86 ((ae (af y 1)).length+1) x y).trans ?_)
  have lp: ∀ b,aid Tryz.prog Tryz.f86 ((ae (af y 1)).length+1) ((ae (af y 1)).length+1) x y b 0=some (dat 4 (.lit (.bool (b&&(ae (af y 1)).all fun e=>fewB e 60)))):=
   fun b=>(ajN hl _ 0 b (Nat.zero_le _) (by omega)).trans (by rw[List.drop_zero])
  rw[m4,lp,lp]
  show _=some (dat 4 (.lit (.bool (agd fewB x y))))
  unfold agd tabs dQ qP kS uM
  rw[show((10:Int))=((10:Nat):Int)from rfl,show((20:Int))=((20:Nat):Int)from rfl,show((8:Int))=((8:Nat):Int)from rfl,ajO,ajO,ajO,ajO,ajO]
  generalize decide ((ae (af x 0)).length<=10)=b1
  generalize decide ((ae (af y 0)).length<=20)=b2
  generalize decide ((ae (af y 1)).length<=8)=b3
  generalize decide ((ae (af y 3)).length<=20)=b4
  generalize decide ((ae (af y 4)).length<=20)=b5
  generalize ((ae (af y 1)).all fun e=>fewB e 60)=b6
  cases b1<;>cases b2<;>cases b3<;>cases b4<;>rfl
def Q1:Tab:=e86::e76::e77::VI::e34::e127::e128::Xw::UP
theorem Ox:EnvOK Tryz.prog (bT Q1 []):=ah (ah (aO (ah (ah (ah (ah (ah JB c124) afW) c127) c34) aaP) c77) c76) c86
end X
end
section
namespace X
open Go.Ev
set_option linter.unusedVariables false
/- roadbook/data.Col -/
def VL:ay:=fun _=>none
theorem t78 (N:Nat) (x0:Int) (x1:Int):aU Tryz.prog (ak Q1 [] [] []) VL N Tryz.f78 [dat 3 (.lit (.int .i64 x0)),dat 3 (.lit (.int .i64 x1))]=
 bif ((!(bz x0 4))==false)then
  bif (!(bz x1 4))then
   some (dat 3 (.lit (.int .i64 (-1))))
  else some (dat 3 (.lit (.int .i64 (IntKind.wrap .i64 ((IntKind.wrap .i64 (x0*4))+x1)))))
 else some (dat 3 (.lit (.int .i64 (-1)))):=by kernel_rfl
/- roadbook/data.Split -/
def Qi:ay:=fun _=>none
theorem abV (N:Nat) (x0:Int):aU Tryz.prog (ak Q1 [] [] []) Qi N Tryz.f184 [dat 3 (.lit (.int .i64 x0))]=
 bif (!(bz x0 16))then
  some (aL [3,3,4] (.agg [.lit (.int .i64 0),.lit (.int .i64 0),.lit (.bool false)]))
 else some (aL [3,3,4] (.agg [.lit (.int .i64 (IntKind.wrap .i64 (Int.tdiv x0 4))),.lit (.int .i64 (Int.tmod x0 4)),.lit (.bool true)])):=by kernel_rfl
/- roadbook/data.May -/
def zF:ay:=fun i=>if i=4 then some ([0,1,2,3,4,5,6,7,8,9,10,11,12,13,14,15,19,20,21,22,23,24,25,26],[],[])else none
def lF (P:Program) (fn:Func) (N n:Nat) (x0:D) (v18:Int):Option AV:=aN (preL zF (sub [1,1,0,1,0,0] (ag fn))) (az P (ak Q1 [] [] []) zF N (sub [1,1,0,1,0,0] (ag fn))) n ⟨[dead,dead,dead,dead,dead,dead,dead,dead,dead,dead,dead,dead,dead,dead,dead,dead,dat 22 (af x0 0),dat 3 (.lit (.int .i64 ((ae (af x0 0)).length:Int))),dat 3 (.lit (.int .i64 v18)),dead,dead,dead,dead,dead,dead,dead,dead],aZ []⟩ (aG 0 (cZ P (ak Q1 [] [] []) zF N (sub [1,1,1] (ag fn)) (dJ P fn)))
theorem lH (N n:Nat) (x0:D) (v18:Int):lF Tryz.prog Tryz.f82 N (n+1) x0 v18=
 bif decide (v18<((ae (af x0 0)).length:Int))then
  bif (decide (0<=v18)&&decide (v18<((ae (af x0 0)).length:Int)))then
   bif (((intD (af (lU ((ae (af x0 0)).getD (v18).toNat .nil)) 0))==0)&&(((intD (af (lU ((ae (af x0 0)).getD (v18).toNat .nil)) 1))==0)&&true))then
    some (dat 4 (.lit (.bool false)))
   else lF Tryz.prog Tryz.f82 N n x0 (IntKind.wrap .i64 (v18+1))
  else none
 else some (dat 4 (.lit (.bool true))):=by kernel_rfl
theorem t82 (N:Nat) (x0:D):aU Tryz.prog (ak Q1 [] [] []) zF N Tryz.f82 [dat 24 x0]=
 bif ((decide (((ae (af x0 0)).length:Int)<1))==false)then
  bif decide (((ae (af x0 0)).length:Int)>4)then
   some (dat 4 (.lit (.bool false)))
  else lF Tryz.prog Tryz.f82 N N x0 0
 else some (dat 4 (.lit (.bool false))):=by kernel_rfl
/- roadbook/query.occurrencesMay -/
def TC:ay:=fun i=>if i=4 then some ([0,1,4,5,6,7,8,9,10,11,12,13,14,15,16,17,20,21,22,23,24,25,26,27,28,29,30,31,32],[2,3],[])else none
def Aj (P:Program) (fn:Func) (N n:Nat) (x0:D) (x1:D) (v19:Int):Option AV:=aN (preL TC (sub [1,1,0,1,0,0] (ag fn))) (az P (ak Q1 [] [] []) TC N (sub [1,1,0,1,0,0] (ag fn))) n ⟨[dead,dead,bxp 2 24,bxp 3 31,dead,dead,dead,dead,dead,dead,dead,dead,dead,dead,dead,dead,dead,dead,dat 3 (.lit (.int .i64 ((ae (af x1 0)).length:Int))),dat 3 (.lit (.int .i64 v19)),dead,dead,dead,dead,dead,dead,dead,dead,dead,dead,dead,dead,dead],aZ [(2,some ⟨24,x0,0,none⟩),(3,some ⟨31,x1,0,none⟩)]⟩ (aG 0 (cZ P (ak Q1 [] [] []) TC N (sub [1,1,1] (ag fn)) (dJ P fn)))
theorem AU (N n:Nat) (x0:D) (x1:D) (v19:Int):Aj Tryz.prog Tryz.f83 N (n+1) x0 x1 v19=
 bif decide (v19<((ae (af x1 0)).length:Int))then
  bif (decide (0<=v19)&&decide (v19<((ae (af x1 0)).length:Int)))then
   bif (!(bz (intD ((ae (af x1 0)).getD (v19).toNat .nil)) ((ae (af x0 0)).length:Int)))then
    some (dat 4 (.lit (.bool false)))
   else Aj Tryz.prog Tryz.f83 N n x0 x1 (IntKind.wrap .i64 (v19+1))
  else none
 else some (dat 4 (.lit (.bool true))):=by kernel_rfl
theorem t83 (N:Nat) (x0:D) (x1:D):aU Tryz.prog (ak Q1 [] [] []) TC N Tryz.f83 [dat 24 x0,dat 31 x1]=
 bif ((decide (((ae (af x1 0)).length:Int)<1))==false)then
  bif decide (((ae (af x1 0)).length:Int)>4)then
   some (dat 4 (.lit (.bool false)))
  else Aj Tryz.prog Tryz.f83 N N x0 x1 0
 else some (dat 4 (.lit (.bool false))):=by kernel_rfl
end X
end
section
namespace X
open Go.Ev
set_option linter.unusedVariables false
set_option maxRecDepth 10000
set_option linter.unusedSimpArgs false
theorem ED (l:List D) (f:D->Bool):l.any (fun x=>!f x)=!l.all f:=by rw[List.all_eq_not_any_not,Bool.not_not]
theorem Lj (ts:List D):ts.any (fun t=>!dR t)=!ts.all dR:=ED ts dR
theorem Z7 (k:Nat) {a:Nat} :decide ((a:Int)<(k:Int))=!decide (k<=a):=by by_cases h:k<=a<;>simp[h]<;>omega
theorem TI (k:Nat) {a:Nat} :decide ((a:Int)>(k:Int))=!decide (a<=k):=by by_cases h:a<=k<;>simp[h]<;>omega
theorem VR {l:List D} :decide ((l.length:Int)>0)=!l.isEmpty:=by cases l<;>simp
theorem acm {l:List D} :((l.length:Int)==0)=l.isEmpty:=by
 cases l with
 |nil=>rfl
 |cons a l=>rw[beq_eq_false_iff_ne.2 (by rw[List.length_cons];omega)];rfl
theorem Ld (z:Int):0<=dB z/\dB z<4:=by
 by_cases h:0<=z/\z<16
 ·rw[(vK h).1];omega
 ·rw[(Bq h).1];omega
theorem Hw {z:Int} (h:0<=z/\z<16):IntKind.wrap .i64 (Int.tdiv z 4)=z / 4:=by
 rw[Int.tdiv_eq_ediv_of_nonneg h.1,aH (l_in (by omega) (by omega))]
def e78:FuncId×TypeId×(List AV->Bool)×(List AV->Option D):=(78,3,yes,ent [3,3] (f2 fun x y=>some (.lit (.int .i64 (Cj (intD x) (intD y))))))
theorem k78:FnOK Tryz.prog 78 Tryz.f78:=⟨Tryz.func78,rfl,by kernel_rfl⟩
theorem c78: ∀ args d,e78.2.2.2 args=some d->CallOK Tryz.prog 78 args (aj Tryz.prog 3 d):=
 gD k78 fun x y d h _ _=>by
  cases h
  rw[n3,n3]
  refine aI hm Ox k78 ((t78 1 (intD x) (intD y)).trans ?_)
  rw[m3]
  show _=some (dat 3 (.lit (.int .i64 (Cj (intD x) (intD y)))))
  generalize intD x=a
  generalize intD y=b
  cases h1:bz a 4 with
  |false=>rw[yP (by have:=mJ.1 h1;omega)];rfl
  |true=>
   cases h2:bz b 4 with
   |false=>rw[yP (by have:=mJ.1 h2;omega)];rfl
   |true=>
    have a1:=dw.1 h1
    have a2:=dw.1 h2
    rw[EP a1 a2,aH (z:=a*4) (l_in (by omega) (by omega)),aH (l_in (by omega) (by omega))];rfl
def VM:FuncId×TypeId×(List AV->Bool)×(List AV->Option D):=(184,175,yes,ent [3] (f1 fun x=>some (.agg [.lit (.int .i64 (dB (intD x))),.lit (.int .i64 (splitB (intD x))),.lit (.bool (bz (intD x) 16))])))
theorem WS:FnOK Tryz.prog 184 Tryz.f184:=⟨Tryz.func184,rfl,by kernel_rfl⟩
theorem abt: ∀ args d,VM.2.2.2 args=some d->CallOK Tryz.prog 184 args (aj Tryz.prog 175 d):=
 mY WS fun x d h _=>by
  cases h
  rw[n3]
  refine aI hm Ox WS ((abV 1 (intD x)).trans ?_)
  rw[aaV]
  generalize intD x=z
  cases h1:bz z 16 with
  |false=>
   obtain⟨a,b⟩:=Bq (z:=z) (mJ.1 h1)
   rw[a,b];rfl
  |true=>
   have h2:=dw.1 h1
   obtain⟨a,b⟩:=vK h2
   rw[a,b,Hw h2,Int.tmod_eq_emod_of_nonneg h2.1];rfl
def e82:FuncId×TypeId×(List AV->Bool)×(List AV->Option D):=(82,4,yes,ent [24] (f1 fun x=>some (.lit (.bool (lL x)))))
theorem k82:FnOK Tryz.prog 82 Tryz.f82:=⟨Tryz.func82,rfl,by kernel_rfl⟩
theorem c82: ∀ args d,e82.2.2.2 args=some d->CallOK Tryz.prog 82 args (aj Tryz.prog 4 d):=
 mY k82 fun x d h ⟨_,hx⟩=>by
  cases h
  rw[tX]
  obtain⟨ts,rfl,hl,_⟩:=Og hx
  refine aI hm Ox k82 ((t82 (ts.length+1) (lV ts)).trans ?_)
  rw[m4,iw]
  have:=jl (fun n v=>lF Tryz.prog Tryz.f82 (ts.length+1) n (lV ts) v) ts.length (fun i=>!dR (ts.getD i .nil)) (some (dat 4 (.lit (.bool false)))) (some (dat 4 (.lit (.bool true))))
   (fun n i hi=>by
    rw[lH,iw,bG hi,eY hi,Int.toNat_natCast,Dx,fE hl hi,cond_true,cond_true])
   (fun n=>by rw[lH,iw,fB (by omega),cond_false]) (ts.length+1) 0 (Nat.zero_le _) (by omega)
  have this:lF Tryz.prog Tryz.f82 (ts.length+1) (ts.length+1) (lV ts) 0=_:=this
  rw[this,Nat.sub_zero,rO ts (fun t=>!dR t),Lj]
  show _=some (dat 4 (.lit (.bool ((decide (1<=ts.length)&&decide (ts.length<=4))&&ts.all dR))))
  by_cases h1:1<=ts.length
  ·by_cases h4:ts.length<=4
   ·rw[dF (show ¬ ((ts.length:Int))<1 by omega),dF (show ¬ ((ts.length:Int))>4 by omega),dT h1,dT h4]
    cases ts.all dR<;>rfl
   ·rw[dF (show ¬ ((ts.length:Int))<1 by omega),dT (show((ts.length:Int))>4 by omega),dT h1,dF h4]
    rfl
  ·rw[dT (show((ts.length:Int))<1 by omega),dF h1]
   rfl
def e83:FuncId×TypeId×(List AV->Bool)×(List AV->Option D):=(83,4,yes,ent [24,31] (f2 fun x y=>some (.lit (.bool (dn x y)))))
theorem k83:FnOK Tryz.prog 83 Tryz.f83:=⟨Tryz.func83,rfl,by kernel_rfl⟩
theorem c83: ∀ args d,e83.2.2.2 args=some d->CallOK Tryz.prog 83 args (aj Tryz.prog 4 d):=
 gD k83 fun x y d h _ ⟨_,hy⟩=>by
  cases h
  rw[tX,xX]
  have hq:(ae (af y 0)).length<=maxLen:=(tyQ hy).occ
  refine aI hm Ox k83 ((t83 ((ae (af y 0)).length+1) x y).trans ?_)
  have lp:Aj Tryz.prog Tryz.f83 ((ae (af y 0)).length+1) ((ae (af y 0)).length+1) x y 0=some (dat 4 (.lit (.bool ((ae (af y 0)).all fun o=>bz (intD o) ((ae (af x 0)).length:Int))))):=by
   have:=jl (fun n v=>Aj Tryz.prog Tryz.f83 ((ae (af y 0)).length+1) n x y v) (ae (af y 0)).length (fun i=>!bz (intD ((ae (af y 0)).getD i .nil)) ((ae (af x 0)).length:Int)) (some (dat 4 (.lit (.bool false)))) (some (dat 4 (.lit (.bool true))))
    (fun n i hi=>by rw[AU,bG hi,eY hi,cond_true,cond_true,Int.toNat_natCast,fE hq hi])
    (fun n=>by rw[AU,fB (by omega),cond_false]) ((ae (af y 0)).length+1) 0 (Nat.zero_le _) (by omega)
   refine this.trans ?_
   rw[Nat.sub_zero,rO (ae (af y 0)) (fun o=>!bz (intD o) ((ae (af x 0)).length:Int)),ED]
   cases (ae (af y 0)).all fun o=>bz (intD o) ((ae (af x 0)).length:Int)<;>rfl
  rw[m4,lp]
  show _=some (dat 4 (.lit (.bool (dn x y))))
  unfold dn dQ tabs
  rw[show decide (((ae (af y 0)).length:Int)<1)=_ from Z7 1,show decide (((ae (af y 0)).length:Int)>4)=_ from TI 4]
  cases decide (1<=(ae (af y 0)).length)<;>cases decide ((ae (af y 0)).length<=4)<;>rfl
def Q2:Tab:=e83::e82::VM::e78::Q1
theorem ZU:EnvOK Tryz.prog (bT Q2 []):=ah (ah (ah (ah Ox c78) abt) c82) c83
end X
end
section
namespace X
open Go.Ev
set_option linter.unusedVariables false
/- roadbook/query.isColumn -/
def aaN:ay:=fun _=>none
theorem t167 (N:Nat) (x0:D) (x1:D) (x2:Int):aU Tryz.prog (ak Q2 [] [] []) aaN N Tryz.f167 [dat 24 x0,dat 31 x1,dat 3 (.lit (.int .i64 x2))]=
 bif ((bz x2 16)==true)then
  bif ((decide ((dB x2)<((ae (af x1 0)).length:Int)))==true)then
   bif (decide (0<=(dB x2))&&decide ((dB x2)<((ae (af x1 0)).length:Int)))then
    bif (decide (0<=(intD ((ae (af x1 0)).getD (dB x2).toNat .nil)))&&decide ((intD ((ae (af x1 0)).getD (dB x2).toNat .nil))<((ae (af x0 0)).length:Int)))then
     some (dat 4 (.lit (.bool (decide ((splitB x2)<(intD (af ((ae (af x0 0)).getD (intD ((ae (af x1 0)).getD (dB x2).toNat .nil)).toNat .nil) 0)))))))
    else none
   else none
  else some (dat 4 (.lit (.bool false)))
 else some (dat 4 (.lit (.bool false))):=by kernel_rfl
/- roadbook/query.ofColumn -/
def alj:ay:=fun _=>none
theorem t159 (N:Nat) (x0:Int):aU Tryz.prog (ak Q2 [] [] []) alj N Tryz.f159 [dat 3 (.lit (.int .i64 x0))]=
 bif decide (0<=(dB x0))then
  some (dat 108 (.lit (.int .i64 (LQ (dB x0)))))
 else none:=by kernel_rfl
end X
end
section
namespace X
open Go.Ev
set_option linter.unusedVariables false
set_option maxRecDepth 10000
set_option linter.unusedSimpArgs false
theorem J5 {c q:D} (h:dn c q=true) {i:Nat} (hi:i<(dQ q).length):0<=intD ((dQ q).getD i .nil)/\intD ((dQ q).getD i .nil)<((tabs c).length:Int):=by
 unfold dn at h
 rw[Bool.and_eq_true,List.all_eq_true]at h
 have:=h.2 _ (List.getElem_mem hi)
 rw[dA hi]
 exact dw.1 this
def e167:FuncId×TypeId×(List AV->Bool)×(List AV->Option D):=(167,4,jU (q3 fun x y _=>dn x y),ent [24,31,3] (f3 fun x y z=>some (.lit (.bool (jT x y (intD z))))))
theorem aew:FnOK Tryz.prog 167 Tryz.f167:=⟨Tryz.func167,rfl,by kernel_rfl⟩
theorem c167: ∀ args d,e167.2.2.1 args=true->e167.2.2.2 args=some d->CallOK Tryz.prog 167 args (aj Tryz.prog 4 d):=
 Jd aew fun x y z d hq h _ _ _=>by
  cases h
  rw[tX,xX,n3]
  refine aI hm ZU aew ((t167 1 x y (intD z)).trans ?_)
  rw[m4]
  show _=some (dat 4 (.lit (.bool (jT x y (intD z)))))
  generalize intD z=v
  unfold jT
  obtain⟨h0,_⟩:=Ld v
  cases h1:bz v 16 with
  |false=>rfl
  |true=>
   by_cases h2:dB v<((dQ y).length:Int)
   ·have h2':dB v<((ae (af y 0)).length:Int):=h2
    have hb:=J5 hq (i:=(dB v).toNat) (by omega)
    have b1:0<=intD ((ae (af y 0)).getD (dB v).toNat .nil):=hb.1
    have b2:intD ((ae (af y 0)).getD (dB v).toNat .nil)<((ae (af x 0)).length:Int):=hb.2
    rw[dT h2,dT h2',dT h0,dT b1,dT b2]
    rfl
   ·have h2': ¬ dB v<((ae (af y 0)).length:Int):=h2
    rw[dF h2,dF h2']
    rfl
def alY:FuncId×TypeId×(List AV->Bool)×(List AV->Option D):=(159,108,yes,ent [3] (f1 fun x=>some (.lit (.int .i64 (aa3 (intD x))))))
theorem amc:FnOK Tryz.prog 159 Tryz.f159:=⟨Tryz.func159,rfl,by kernel_rfl⟩
theorem c159: ∀ args d,alY.2.2.2 args=some d->CallOK Tryz.prog 159 args (aj Tryz.prog 108 d):=
 mY amc fun x d h _=>by
  cases h
  rw[n3]
  refine aI hm ZU amc ((t159 1 (intD x)).trans ?_)
  rw[alT,dT (Ld (intD x)).1]
  rfl
def Q3:Tab:=alY::e167::Q2
theorem aar:EnvOK Tryz.prog (bT Q3 []):=ah (aO ZU c167) c159
end X
end
section
namespace X
open Go.Ev
set_option linter.unusedVariables false
/- roadbook/query.areColumns -/
def LD:ay:=fun i=>if i=2 then some ([0,1,2,5,6,7,8,12,13,14,15,16,17,18,19,20],[3,4],[])else none
def zY (P:Program) (fn:Func) (N n:Nat) (x0:D) (x1:D) (x2:D) (v11:Int):Option AV:=aN (preL LD (sub [1,0,1,0,0] (ag fn))) (az P (ak Q3 [] [] []) LD N (sub [1,0,1,0,0] (ag fn))) n ⟨[dead,dead,dead,bxp 3 24,bxp 4 31,dead,dead,dead,dead,dat 28 x2,dat 3 (.lit (.int .i64 ((ae x2).length:Int))),dat 3 (.lit (.int .i64 v11)),dead,dead,dead,dead,dead,dead,dead,dead,dead],aZ [(3,some ⟨24,x0,0,none⟩),(4,some ⟨31,x1,0,none⟩)]⟩ (aG 0 (cZ P (ak Q3 [] [] []) LD N (sub [1,1] (ag fn)) (dJ P fn)))
theorem xA (N n:Nat) (x0:D) (x1:D) (x2:D) (v11:Int):zY Tryz.prog Tryz.f130 N (n+1) x0 x1 x2 v11=
 bif decide (v11<((ae x2).length:Int))then
  bif (decide (0<=v11)&&decide (v11<((ae x2).length:Int)))then
   bif dn x0 x1 then
    bif (!(jT x0 x1 (intD ((ae x2).getD (v11).toNat .nil))))then
     some (dat 4 (.lit (.bool false)))
    else zY Tryz.prog Tryz.f130 N n x0 x1 x2 (IntKind.wrap .i64 (v11+1))
   else none
  else none
 else some (dat 4 (.lit (.bool true))):=by kernel_rfl
theorem t130 (N:Nat) (x0:D) (x1:D) (x2:D):aU Tryz.prog (ak Q3 [] [] []) LD N Tryz.f130 [dat 24 x0,dat 31 x1,dat 28 x2]=
 zY Tryz.prog Tryz.f130 N N x0 x1 x2 0:=by kernel_rfl
/- roadbook/query.Of -/
def ajJ:ay:=fun i=>if i=3 then some ([0,1,2,4,5,6,10,11,12,13,14,15,16,17,18],[],[])else none
def aiE (P:Program) (fn:Func) (N n:Nat) (x0:D) (v3:Int) (v9:Int):Option AV:=aN (preL ajJ (sub [1,1,0,1,0,0] (ag fn))) (az P (ak Q3 [] [] []) ajJ N (sub [1,1,0,1,0,0] (ag fn))) n ⟨[dead,dead,dead,dat 108 (.lit (.int .i64 v3)),dead,dead,dead,dat 28 (.slice (mg x0) []),dat 3 (.lit (.int .i64 ((mg x0).length:Int))),dat 3 (.lit (.int .i64 v9)),dead,dead,dead,dead,dead,dead,dead,dead,dead],aZ []⟩ (aG 0 (cZ P (ak Q3 [] [] []) ajJ N (sub [1,1,1] (ag fn)) (dJ P fn)))
theorem ajo (N n:Nat) (x0:D) (v3:Int) (v9:Int):aiE Tryz.prog Tryz.f125 N (n+1) x0 v3 v9=
 bif decide (v9<((mg x0).length:Int))then
  bif (decide (0<=v9)&&decide (v9<((mg x0).length:Int)))then
   aiE Tryz.prog Tryz.f125 N n x0 (orI .i64 v3 (aa3 (intD ((mg x0).getD (v9).toNat .nil)))) (IntKind.wrap .i64 (v9+1))
  else none
 else some (dat 3 (.lit (.int .i64 v3))):=by kernel_rfl
theorem amP (N:Nat) (x0:D):aU Tryz.prog (ak Q3 [] [] []) ajJ N Tryz.f125 [dat 61 x0]=
 aiE Tryz.prog Tryz.f125 N N x0 0 0:=by kernel_rfl
end X
end
section
namespace X
open Go.Ev
set_option linter.unusedVariables false
set_option maxRecDepth 10000
set_option linter.unusedSimpArgs false
def abj:FuncId×TypeId×(List AV->Bool)×(List AV->Option D):=(130,4,jU (q3 fun x y _=>dn x y),ent [24,31,28] (f3 fun x y z=>some (.lit (.bool (gm x y (ae z))))))
theorem ac1:FnOK Tryz.prog 130 Tryz.f130:=⟨Tryz.func130,rfl,by kernel_rfl⟩
theorem c130: ∀ args d,abj.2.2.1 args=true->abj.2.2.2 args=some d->CallOK Tryz.prog 130 args (aj Tryz.prog 4 d):=
 Jd ac1 fun x y z d hq h _ _ ⟨_,hz⟩=>by
  cases h
  rw[tX,xX,n27]
  have hl:=XB hz
  have hq:dn x y=true:=hq
  refine aI hm aar ac1 ((t130 ((ae z).length+1) x y z).trans ?_)
  rw[m4]
  have:=jl (fun n v=>zY Tryz.prog Tryz.f130 ((ae z).length+1) n x y z v) (ae z).length (fun i=>!jT x y (intD ((ae z).getD i .nil))) (some (dat 4 (.lit (.bool false)))) (some (dat 4 (.lit (.bool true))))
   (fun n i hi=>by rw[xA,bG hi,eY hi,hq,cond_true,cond_true,cond_true,Int.toNat_natCast,fE hl hi])
   (fun n=>by rw[xA,fB (by omega),cond_false]) ((ae z).length+1) 0 (Nat.zero_le _) (by omega)
  refine this.trans ?_
  rw[Nat.sub_zero,rO (ae z) (fun o=>!jT x y (intD o)),ED]
  show _=some (dat 4 (.lit (.bool (gm x y (ae z)))))
  unfold gm
  cases (ae z).all fun x_1=>jT x y (intD x_1)<;>rfl
theorem akO (e:D):(mg e).length<=16:=pM e
theorem akr {N:Nat} {e:D} : ∀ (n i:Nat) (s:Int),i<=(mg e).length->(mg e).length - i<n->aiE Tryz.prog Tryz.f125 N n e s (i:Int)=some (dat 3 (.lit (.int .i64 (WL s ((mg e).drop i)))))
 |0,i,s,_,h=>by omega
 |n+1,i,s,hi,h=>by
  rw[ajo]
  by_cases hlt:i<(mg e).length
  ·rw[bG hlt,eY hlt,cond_true,cond_true,Int.toNat_natCast,dA hlt,fE (Nat.le_trans (akO e) (by unfold maxLen;omega)) hlt,akr n (i+1) _ (by omega) (by omega),List.drop_eq_getElem_cons hlt]
   rfl
  ·rw[fB hlt,cond_false,List.drop_of_length_le (by omega)]
   rfl
def e125:FuncId×TypeId×(List AV->Bool)×(List AV->Option D):=(125,3,yes,ent [61] (f1 fun x=>some (.lit (.int .i64 (ofE x)))))
theorem al1:FnOK Tryz.prog 125 Tryz.f125:=⟨Tryz.func125,rfl,by kernel_rfl⟩
theorem amI: ∀ args d,e125.2.2.2 args=some d->CallOK Tryz.prog 125 args (aj Tryz.prog 3 d):=
 mY al1 fun x d h _=>by
  cases h
  rw[n26]
  refine aI hm aar al1 ((amP ((mg x).length+1) x).trans ?_)
  rw[m3]
  exact akr _ 0 0 (Nat.zero_le _) (by omega)
def Q4:Tab:=e125::abj::Q3
theorem Tj:EnvOK Tryz.prog (bT Q4 []):=ah (aO aar c130) amI
end X
end
section
namespace X
open Go.Ev
set_option linter.unusedVariables false
/- roadbook/query.expressionsMay -/
def Rl:ay:=fun i=>if i=4 then some ([0,1,4,5,6,7,8,9,10,11,12,16,17,18,19,20,21,22,23,24,25,26,27,28,29,30,31],[2,3],[])else none
def wX (P:Program) (fn:Func) (N n:Nat) (x0:D) (x1:D) (v15:Int):Option AV:=aN (preL Rl (sub [1,1,0,1,0,0] (ag fn))) (az P (ak Q4 [] [] []) Rl N (sub [1,1,0,1,0,0] (ag fn))) n ⟨[dead,dead,bxp 2 24,bxp 3 31,dead,dead,dead,dead,dead,dead,dead,dead,dead,dat 29 (af x1 1),dat 3 (.lit (.int .i64 ((ae (af x1 1)).length:Int))),dat 3 (.lit (.int .i64 v15)),dead,dead,dead,dead,dead,dead,dead,dead,dead,dead,dead,dead,dead,dead,dead,dead],aZ [(2,some ⟨24,x0,0,none⟩),(3,some ⟨31,x1,0,none⟩)]⟩ (aG 0 (cZ P (ak Q4 [] [] []) Rl N (sub [1,1,1] (ag fn)) (dJ P fn)))
theorem Ap (N n:Nat) (x0:D) (x1:D) (v15:Int):wX Tryz.prog Tryz.f84 N (n+1) x0 x1 v15=
 bif decide (v15<((ae (af x1 1)).length:Int))then
  bif (decide (0<=v15)&&decide (v15<((ae (af x1 1)).length:Int)))then
   bif ((((mg ((ae (af x1 1)).getD (v15).toNat .nil)).length:Int)==0)==false)then
    bif dn x0 x1 then
     bif (!(gm x0 x1 (mg ((ae (af x1 1)).getD (v15).toNat .nil))))then
      some (dat 4 (.lit (.bool false)))
     else wX Tryz.prog Tryz.f84 N n x0 x1 (IntKind.wrap .i64 (v15+1))
    else none
   else some (dat 4 (.lit (.bool false)))
  else none
 else some (dat 4 (.lit (.bool true))):=by kernel_rfl
theorem t84 (N:Nat) (x0:D) (x1:D):aU Tryz.prog (ak Q4 [] [] []) Rl N Tryz.f84 [dat 24 x0,dat 31 x1]=
 bif decide (((ae (af x1 1)).length:Int)>6)then
  some (dat 4 (.lit (.bool false)))
 else wX Tryz.prog Tryz.f84 N N x0 x1 0:=by kernel_rfl
/- roadbook/query.toldMay -/
def KL:ay:=fun i=>if i=4 then some ([0,1,2,4,5,6,7,8,9,10,11,12,13,14,15,16,17,18,19,20,21,22,23,24,25,26,27,28,29,30,31,35,36,37,38,39,40,41,42,43,44,45,46,47,48,49,50,51,52,53,54,55],[3],[])else none
def wu (P:Program) (fn:Func) (N n:Nat) (x0:D) (x1:D) (v34:Int):Option AV:=aN (preL KL (sub [1,1,0,1,0,0] (ag fn))) (az P (ak Q4 [] [] []) KL N (sub [1,1,0,1,0,0] (ag fn))) n ⟨[dead,dead,dead,bxp 3 31,dead,dead,dead,dead,dead,dead,dead,dead,dead,dead,dead,dead,dead,dead,dead,dead,dead,dead,dead,dead,dead,dead,dead,dead,dead,dead,dead,dead,dat 28 (af x1 4),dat 3 (.lit (.int .i64 ((ae (af x1 4)).length:Int))),dat 3 (.lit (.int .i64 v34)),dead,dead,dead,dead,dead,dead,dead,dead,dead,dead,dead,dead,dead,dead,dead,dead,dead,dead,dead,dead,dead],aZ [(3,some ⟨31,x1,0,none⟩)]⟩ (aG 0 (cZ P (ak Q4 [] [] []) KL N (sub [1,1,1] (ag fn)) (dJ P fn)))
theorem xF (N n:Nat) (x0:D) (x1:D) (v34:Int):wu Tryz.prog Tryz.f131 N (n+1) x0 x1 v34=
 bif decide (v34<((ae (af x1 4)).length:Int))then
  bif (decide (0<=v34)&&decide (v34<((ae (af x1 4)).length:Int)))then
   bif (decide (0<=(0:Int))&&decide ((0:Int)<=v34)&&decide (v34<=((ae (af x1 4)).length:Int)))then
    bif hasB (((ae (af x1 4)).drop ((0:Int):Int).toNat).take (v34 - (0:Int)).toNat) (intD ((ae (af x1 4)).getD (v34).toNat .nil))then
     some (dat 4 (.lit (.bool false)))
    else wu Tryz.prog Tryz.f131 N n x0 x1 (IntKind.wrap .i64 (v34+1))
   else none
  else none
 else bif (((intD (af x1 5))==(-1))==false)then
   some (dat 4 (.lit (.bool (hasB (ae (af x1 4)) (intD (af x1 5))))))
  else some (dat 4 (.lit (.bool true))):=by kernel_rfl
theorem t131 (N:Nat) (x0:D) (x1:D):aU Tryz.prog (ak Q4 [] [] []) KL N Tryz.f131 [dat 24 x0,dat 31 x1]=
 bif ((decide (((ae (af x1 3)).length:Int)>0))==false)then
  bif ((decide (((ae (af x1 4)).length:Int)<1))==false)then
   bif ((decide (((ae (af x1 4)).length:Int)>8))==false)then
    bif dn x0 x1 then
     bif (!(gm x0 x1 (ae (af x1 4))))then
      some (dat 4 (.lit (.bool false)))
     else wu Tryz.prog Tryz.f131 N N x0 x1 0
    else none
   else some (dat 4 (.lit (.bool false)))
  else some (dat 4 (.lit (.bool false)))
 else some (dat 4 (.lit (.bool false))):=by kernel_rfl
/- roadbook/query.groupsMay -/
def acC:ay:=fun _=>none
theorem ag7 (N:Nat) (x0:D) (x1:D):aU Tryz.prog (ak Q4 [] [] []) acC N Tryz.f132 [dat 24 x0,dat 31 x1]=
 bif dn x0 x1 then
  bif ((!(jT x0 x1 (intD (af x1 2))))==false)then
   bif ((decide (((ae (af x1 3)).length:Int)>4))==false)then
    bif dn x0 x1 then
     bif ((!(gm x0 x1 (ae (af x1 3))))==false)then
      bif decide (((ae (af x1 4)).length:Int)>0)then
       some (dat 4 (.lit (.bool false)))
      else bif (((intD (af x1 5))==(-1))==false)then
        some (dat 4 (.lit (.bool ((intD (af x1 5))==(intD (af x1 2))))))
       else some (dat 4 (.lit (.bool true)))
     else some (dat 4 (.lit (.bool false)))
    else none
   else some (dat 4 (.lit (.bool false)))
  else some (dat 4 (.lit (.bool false)))
 else none:=by kernel_rfl
/- roadbook/query.New$1 -/
def aly:ay:=fun _=>none
theorem t139 (N:Nat) (x0:Int) (a:Int) (b:Int) (c:Int):jP Tryz.prog (ak Q4 [] [] []) aly N Tryz.f139 [dat 3 (.lit (.int .i64 x0)),bxp 1000000 107,bxp 1000001 107,bxp 1000002 107] [⟨107,yc 76 3 (.lit (.int .i64 a)),0,none⟩,⟨107,yc 76 3 (.lit (.int .i64 b)),0,none⟩,⟨107,yc 76 3 (.lit (.int .i64 c)),0,none⟩]=
 bif ((MB a x0)==true)then
  bif ((!(MB b x0))==true)then
   some (dat 4 (.lit (.bool (!(MB c x0)))),[some ⟨107,yc 76 3 (.lit (.int .i64 a)),0,none⟩,some ⟨107,yc 76 3 (.lit (.int .i64 b)),0,none⟩,some ⟨107,yc 76 3 (.lit (.int .i64 c)),0,none⟩])
  else some (dat 4 (.lit (.bool false)),[some ⟨107,yc 76 3 (.lit (.int .i64 a)),0,none⟩,some ⟨107,yc 76 3 (.lit (.int .i64 b)),0,none⟩,some ⟨107,yc 76 3 (.lit (.int .i64 c)),0,none⟩])
 else some (dat 4 (.lit (.bool false)),[some ⟨107,yc 76 3 (.lit (.int .i64 a)),0,none⟩,some ⟨107,yc 76 3 (.lit (.int .i64 b)),0,none⟩,some ⟨107,yc 76 3 (.lit (.int .i64 c)),0,none⟩]):=by kernel_rfl
/- roadbook/query.places -/
def aiW:ay:=fun i=>if i=3 then some ([0,2,3,4,6,7,8,12,13,14,15,16,17,18,19,20,21,22,23,24,25],[5],[])else none
def aim (P:Program) (fn:Func) (N n:Nat) (x0:D) (s:Int) (v11:Int) (b5:List D):Option AV:=aN (preL aiW (sub [1,1,0,1,0,0] (ag fn))) (az P (ak Q4 [] [] []) aiW N (sub [1,1,0,1,0,0] (ag fn))) n ⟨[dead,dat 107 (yc 76 3 (.lit (.int .i64 s))),dead,dead,dead,bxp 5 28,dead,dead,dead,dat 29 (af x0 1),dat 3 (.lit (.int .i64 ((ae (af x0 1)).length:Int))),dat 3 (.lit (.int .i64 v11)),dead,dead,dead,dead,dead,dead,dead,dead,dead,dead,dead,dead,dead,dead],aZ [(5,some ⟨28,.slice b5 [],1,none⟩)]⟩ (aG 0 (cZ P (ak Q4 [] [] []) aiW N (sub [1,1,1] (ag fn)) (dJ P fn)))
theorem ajl (N n:Nat) (x0:D) (s:Int) (v11:Int) (b5:List D):aim Tryz.prog Tryz.f79 N (n+1) x0 s v11 b5=
 bif decide (v11<((ae (af x0 1)).length:Int))then
  bif (decide (0<=v11)&&decide (v11<((ae (af x0 1)).length:Int)))then
   bif MB s (ofE ((ae (af x0 1)).getD (v11).toNat .nil))then
    bif decide ((b5).length+1<=2147483648)then
     aim Tryz.prog Tryz.f79 N n x0 s (IntKind.wrap .i64 (v11+1)) (b5++[.lit (.int .i64 v11)])
    else none
   else aim Tryz.prog Tryz.f79 N n x0 s (IntKind.wrap .i64 (v11+1)) b5
  else none
 else some (dat 28 (.slice b5 [])):=by kernel_rfl
theorem al0 (N:Nat) (x0:D) (s:Int):aU Tryz.prog (ak Q4 [] [] []) aiW N Tryz.f79 [dat 31 x0,dat 107 (yc 76 3 (.lit (.int .i64 s)))]=
 aim Tryz.prog Tryz.f79 N N x0 s 0 []:=by kernel_rfl
end X
end
section
namespace X
open Go.Ev
set_option linter.unusedVariables false
set_option maxRecDepth 10000
set_option linter.unusedSimpArgs false
def e84:FuncId×TypeId×(List AV->Bool)×(List AV->Option D):=(84,4,jU (q2 fun x y=>dn x y),ent [24,31] (f2 fun x y=>some (.lit (.bool (l9 x y)))))
theorem k84:FnOK Tryz.prog 84 Tryz.f84:=⟨Tryz.func84,rfl,by kernel_rfl⟩
theorem c84: ∀ args d,e84.2.2.1 args=true->e84.2.2.2 args=some d->CallOK Tryz.prog 84 args (aj Tryz.prog 4 d):=
 qG k84 fun x y d hq h _ ⟨_,hy⟩=>by
  cases h
  rw[tX,xX]
  have hl:(ae (af y 1)).length<=maxLen:=(tyQ hy).p
  have hq:dn x y=true:=hq
  refine aI hm Tj k84 ((t84 ((ae (af y 1)).length+1) x y).trans ?_)
  have lp:wX Tryz.prog Tryz.f84 ((ae (af y 1)).length+1) ((ae (af y 1)).length+1) x y 0=some (dat 4 (.lit (.bool ((ae (af y 1)).all (Ff x y))))):=by
   have:=jl (fun n v=>wX Tryz.prog Tryz.f84 ((ae (af y 1)).length+1) n x y v) (ae (af y 1)).length (fun i=>!Ff x y ((ae (af y 1)).getD i .nil)) (some (dat 4 (.lit (.bool false)))) (some (dat 4 (.lit (.bool true))))
    (fun n i hi=>by
     rw[Ap,bG hi,eY hi,cond_true,cond_true,Int.toNat_natCast,fE hl hi,hq,acm,cond_true]
     unfold Ff
     generalize wX Tryz.prog Tryz.f84 ((ae (af y 1)).length+1) n x y ((i+1:Nat):Int)=W
     cases (mg ((ae (af y 1)).getD i .nil)).isEmpty<;>cases gm x y (mg ((ae (af y 1)).getD i .nil))<;>rfl)
    (fun n=>by rw[Ap,fB (by omega),cond_false]) ((ae (af y 1)).length+1) 0 (Nat.zero_le _) (by omega)
   refine this.trans ?_
   rw[Nat.sub_zero,rO (ae (af y 1)) (fun o=>!Ff x y o),ED]
   cases (ae (af y 1)).all (Ff x y)<;>rfl
  rw[m4,lp]
  show _=some (dat 4 (.lit (.bool (l9 x y))))
  unfold l9 qP
  rw[show decide (((ae (af y 1)).length:Int)>6)=_ from TI 6]
  cases decide ((ae (af y 1)).length<=6)<;>rfl
def aaB:FuncId×TypeId×(List AV->Bool)×(List AV->Option D):=(131,4,jU (q2 fun x y=>dn x y),ent [24,31] (f2 fun x y=>some (.lit (.bool (JO x y)))))
theorem aeX:FnOK Tryz.prog 131 Tryz.f131:=⟨Tryz.func131,rfl,by kernel_rfl⟩
theorem c131: ∀ args d,aaB.2.2.1 args=true->aaB.2.2.2 args=some d->CallOK Tryz.prog 131 args (aj Tryz.prog 4 d):=
 qG aeX fun x y d hq h _ ⟨_,hy⟩=>by
  cases h
  rw[tX,xX]
  have hl:(ae (af y 4)).length<=maxLen:=(tyQ hy).out
  have hq:dn x y=true:=hq
  refine aI hm Tj aeX ((t131 ((ae (af y 4)).length+1) x y).trans ?_)
  have lp:wu Tryz.prog Tryz.f131 ((ae (af y 4)).length+1) ((ae (af y 4)).length+1) x y 0=some (dat 4 (.lit (.bool (!P6 (ae (af y 4))&&(intD (af y 5)== -1||hasB (ae (af y 4)) (intD (af y 5))))))):=by
   have:=jl (fun n v=>wu Tryz.prog Tryz.f131 ((ae (af y 4)).length+1) n x y v) (ae (af y 4)).length (fun i=>hasB ((ae (af y 4)).take i) (intD ((ae (af y 4)).getD i .nil))) (some (dat 4 (.lit (.bool false)))) (some (dat 4 (.lit (.bool (intD (af y 5)== -1||hasB (ae (af y 4)) (intD (af y 5)))))))
    (fun n i hi=>by
     have ht:(decide (0<=(0:Int))&&decide ((0:Int)<=(i:Int))&&decide ((i:Int)<=((ae (af y 4)).length:Int)))=true:=by
      simp only[Bool.and_eq_true,decide_eq_true_eq]
      omega
     rw[xF,bG hi,eY hi,cond_true,cond_true,ht,cond_true,Int.sub_zero,Int.toNat_natCast,fE hl hi,show((0:Int)).toNat=0 from rfl,List.drop_zero])
    (fun n=>by
     rw[xF,fB (by omega),cond_false]
     cases (intD (af y 5)== -1)<;>rfl) ((ae (af y 4)).length+1) 0 (Nat.zero_le _) (by omega)
   refine this.trans ?_
   unfold P6
   rw[Nat.sub_zero]
   cases (List.range' 0 (ae (af y 4)).length).any fun i=>hasB ((ae (af y 4)).take i) (intD ((ae (af y 4)).getD i .nil))<;>rfl
  rw[m4,lp,hq]
  show _=some (dat 4 (.lit (.bool (JO x y))))
  unfold JO kS uM yh
  rw[VR,show decide (((ae (af y 4)).length:Int)<1)=_ from Z7 1,show decide (((ae (af y 4)).length:Int)>8)=_ from TI 8]
  generalize (!P6 (ae (af y 4))&&(intD (af y 5)== -1||hasB (ae (af y 4)) (intD (af y 5))))=W
  cases (ae (af y 3)).isEmpty<;>cases decide (1<=(ae (af y 4)).length)<;>cases decide ((ae (af y 4)).length<=8)<;>cases gm x y (ae (af y 4))<;>rfl
def acR:FuncId×TypeId×(List AV->Bool)×(List AV->Option D):=(132,4,jU (q2 fun x y=>dn x y),ent [24,31] (f2 fun x y=>some (.lit (.bool (xf x y)))))
theorem adH:FnOK Tryz.prog 132 Tryz.f132:=⟨Tryz.func132,rfl,by kernel_rfl⟩
theorem agE: ∀ args d,acR.2.2.1 args=true->acR.2.2.2 args=some d->CallOK Tryz.prog 132 args (aj Tryz.prog 4 d):=
 qG adH fun x y d hq h _ _=>by
  cases h
  rw[tX,xX]
  have hq:dn x y=true:=hq
  refine aI hm Tj adH ((ag7 1 x y).trans ?_)
  rw[m4,hq]
  show _=some (dat 4 (.lit (.bool (xf x y))))
  unfold xf kS uM yh qBy
  rw[VR,show decide (((ae (af y 3)).length:Int)>4)=_ from TI 4]
  cases jT x y (intD (af y 2))<;>cases decide ((ae (af y 3)).length<=4)<;>cases gm x y (ae (af y 3))<;>cases (ae (af y 4)).isEmpty<;>cases (intD (af y 5)== -1)<;>rfl
theorem amB: ∃ p q r,Tryz.prog.underlying 107=some (.func p q r):=⟨_,_,_,Tryz.underlying107⟩
theorem ajj {n:Nat} {x:D} (h:Ty Tryz.prog n 107 x) (hb:acY 76 3 x=true): ∃ z,x=yc 76 3 (fO z):=by
 obtain⟨p,q,r,hu⟩:=amB
 obtain⟨m,y,rfl,hy⟩:=alL hu h hb
 obtain⟨z,rfl,_⟩:=iC hy
 exact⟨z,rfl⟩
def setOf (x:D):Int:=intD (abQ x)
def aeT (x:D):Bool:=acY 76 3 x
def ajA (a b c s:Int):Bool:=MB a s&&!MB b s&&!MB c s
def a139:List AV:=[dat 3 .nil,bxp OID 107,bxp (OID+1) 107,bxp (OID+2) 107]
def aiD:List Ent:=[⟨107,.nil,0,none⟩,⟨107,.nil,0,none⟩,⟨107,.nil,0,none⟩]
def alN (ds hs:List D):Option D:=match ds,hs with
 | [x,_,_,_],[a,b,c]=>bif aeT a&&aeT b&&aeT c then some (.lit (.bool (ajA (setOf a) (setOf b) (setOf c) (intD x))))else none
 |_,_=>none
def amG:FuncId×TypeId×(List AV->List Ent->Bool)×(List AV->List Ent->Option D):=(139,4,fD a139 aiD (fun _ _=>true),TV a139 aiD alN)
theorem aml:FnOK Tryz.prog 139 Tryz.f139:=⟨Tryz.func139,rfl,by kernel_rfl⟩
theorem ak3: ∀ args hp d,fD a139 aiD (fun _ _=>true) args hp=true->TV a139 aiD alN args hp=some d->HCallOK Tryz.prog 139 args hp (aj Tryz.prog 4 d) (hp.map some):=by
 refine Rz rfl rfl fun ds es d _ hd=>?_
 unfold alN at hd
 split at hd
 ·rename_i x y1 y2 y3 a b c
  cases hb:(aeT a&&aeT b&&aeT c)with
  |false=>rw[hb,cond_false]at hd;cases hd
  |true=>
   rw[hb,cond_true]at hd
   cases hd
   rw[Bool.and_eq_true,Bool.and_eq_true]at hb
   refine HCallOK.typed aml.ex fun hta hty=>?_
   obtain⟨n0,h0⟩:=hta (dat 3 x) (by simp[fA,a139,dat]) rfl
   obtain⟨n1,h1⟩:=hty ⟨107,a,0,none⟩ (by simp[kQ,aiD]) rfl rfl
   obtain⟨n2,h2⟩:=hty ⟨107,b,0,none⟩ (by simp[kQ,aiD]) rfl rfl
   obtain⟨n3,h3⟩:=hty ⟨107,c,0,none⟩ (by simp[kQ,aiD]) rfl rfl
   obtain⟨v,rfl,_⟩:=iC h0
   obtain⟨z1,rfl⟩:=ajj h1 hb.1.1
   obtain⟨z2,rfl⟩:=ajj h2 hb.1.2
   obtain⟨z3,rfl⟩:=ajj h3 hb.2
   rw[m4]
   refine gZ hm Tj aml ((t139 1 v z1 z2 z3).trans ?_)
   show _=some (dat 4 (.lit (.bool (ajA z1 z2 z3 v))),_)
   unfold ajA
   cases MB z1 v<;>cases MB z2 v<;>rfl
 ·cases hd
def Q4r:RTab:=[amG]
theorem alv:EnvOK Tryz.prog (ak Q4 [] Q4r []):=Dv Tj ak3
theorem ajb {N:Nat} {q:D} {s:Int} (hl:(ae (af q 1)).length<=2147483647): ∀ (n i:Nat) (l:List D),i<=(ae (af q 1)).length->(ae (af q 1)).length - i<n->l.length<=i->
  aim Tryz.prog Tryz.f79 N n q s (i:Int) l=some (dat 28 (.slice (l++plc (fun e=>MB s (ofE e)) ((ae (af q 1)).drop i) i) []))
 |0,i,l,_,h,_=>by omega
 |n+1,i,l,hi,h,hle=>by
  rw[ajl]
  by_cases hlt:i<(ae (af q 1)).length
  ·rw[bG hlt,eY hlt,cond_true,cond_true,Int.toNat_natCast,dA hlt,fE (Nat.le_trans hl (by unfold maxLen;omega)) hlt,List.drop_eq_getElem_cons hlt,ajg]
   cases hf:MB s (ofE (ae (af q 1))[i])with
   |true=>
    rw[cond_true,dT (show l.length+1<=2147483648 by omega),cond_true,ajb hl n (i+1) _ (by omega) (by omega) (by simp;omega),List.append_assoc]
    rfl
   |false=>
    rw[cond_false,ajb hl n (i+1) _ (by omega) (by omega) (by omega)]
    rfl
  ·rw[fB hlt,cond_false,List.drop_of_length_le (by omega)]
   simp[plc]
def ahH (x y:D):Option D:=bif aeT y then some (.slice (plc (fun e=>MB (setOf y) (ofE e)) (qP x) 0) [])else none
def e79:FuncId×TypeId×(List AV->Bool)×(List AV->Option D):=(79,28,jU (q2 fun x _=>decide ((qP x).length<=2147483647)),ent [31,107] (f2 ahH))
theorem k79:FnOK Tryz.prog 79 Tryz.f79:=⟨Tryz.func79,rfl,by kernel_rfl⟩
theorem c79: ∀ args d,e79.2.2.1 args=true->e79.2.2.2 args=some d->CallOK Tryz.prog 79 args (aj Tryz.prog 28 d):=
 qG k79 fun x y d hq h ⟨_,hx⟩ ⟨_,hy⟩=>by
  unfold ahH at h
  cases hb:aeT y with
  |false=>rw[hb,cond_false]at h;cases h
  |true=>
   rw[hb,cond_true]at h
   cases h
   rw[xX,amM]
   obtain⟨s,rfl⟩:=ajj hy hb
   have hl:(ae (af x 1)).length<=2147483647:=of_decide_eq_true hq
   refine aI hm Tj k79 ((al0 ((ae (af x 1)).length+1) x s).trans ?_)
   rw[m27]
   exact(ajb hl _ 0 [] (Nat.zero_le _) (by omega) (by simp))
def Q5:Tab:=e79::acR::aaB::e84::Q4
theorem aab:EnvOK Tryz.prog (bT Q5 []):=aO (aO (aO (aO Tj c84) c131) agE) c79
end X
end
section
namespace X
open Go.Ev
set_option linter.unusedVariables false
/- roadbook/query.places -/
def ai1:ay:=fun i=>if i=3 then some ([0,2,3,4,6,7,8,12,13,14,15,16,17,18,19,20,21,22,23,24,25],[5,1000000,1000001,1000002],[])else none
def ail (P:Program) (fn:Func) (N n:Nat) (x0:D) (a:Int) (b:Int) (c:Int) (v11:Int) (b5:List D):Option (AV×List (Option Ent)):=aN (preL ai1 (sub [1,1,0,1,0,0] (ag fn))) (az P (ak Q4 [] Q4r []) ai1 N (sub [1,1,0,1,0,0] (ag fn))) n ⟨[dead,clo 107 139 [1000000,1000001,1000002],dead,dead,dead,bxp 5 28,dead,dead,dead,dat 29 (af x0 1),dat 3 (.lit (.int .i64 ((ae (af x0 1)).length:Int))),dat 3 (.lit (.int .i64 v11)),dead,dead,dead,dead,dead,dead,dead,dead,dead,dead,dead,dead,dead,dead],aZ [(5,some ⟨28,.slice b5 [],1,none⟩),(1000000,some ⟨107,yc 76 3 (.lit (.int .i64 a)),0,none⟩),(1000001,some ⟨107,yc 76 3 (.lit (.int .i64 b)),0,none⟩),(1000002,some ⟨107,yc 76 3 (.lit (.int .i64 c)),0,none⟩)]⟩ (aG 0 (cZ P (ak Q4 [] Q4r []) ai1 N (sub [1,1,1] (ag fn)) (qA P fn 3)))
theorem ajf (N n:Nat) (x0:D) (a:Int) (b:Int) (c:Int) (v11:Int) (b5:List D):ail Tryz.prog Tryz.f79 N (n+1) x0 a b c v11 b5=
 bif decide (v11<((ae (af x0 1)).length:Int))then
  bif (decide (0<=v11)&&decide (v11<((ae (af x0 1)).length:Int)))then
   bif ajA a b c (ofE ((ae (af x0 1)).getD (v11).toNat .nil))then
    bif decide ((b5).length+1<=2147483648)then
     ail Tryz.prog Tryz.f79 N n x0 a b c (IntKind.wrap .i64 (v11+1)) (b5++[.lit (.int .i64 v11)])
    else none
   else ail Tryz.prog Tryz.f79 N n x0 a b c (IntKind.wrap .i64 (v11+1)) b5
  else none
 else some (dat 28 (.slice b5 []),[some ⟨107,yc 76 3 (.lit (.int .i64 a)),0,none⟩,some ⟨107,yc 76 3 (.lit (.int .i64 b)),0,none⟩,some ⟨107,yc 76 3 (.lit (.int .i64 c)),0,none⟩]):=by kernel_rfl
theorem amb (N:Nat) (x0:D) (a:Int) (b:Int) (c:Int):jP Tryz.prog (ak Q4 [] Q4r []) ai1 N Tryz.f79 [dat 31 x0,clo 107 139 [1000000,1000001,1000002]] [⟨107,yc 76 3 (.lit (.int .i64 a)),0,none⟩,⟨107,yc 76 3 (.lit (.int .i64 b)),0,none⟩,⟨107,yc 76 3 (.lit (.int .i64 c)),0,none⟩]=
 ail Tryz.prog Tryz.f79 N N x0 a b c 0 []:=by kernel_rfl
/- roadbook/query.endMay -/
def afe:ay:=fun _=>none
theorem t85 (N:Nat) (x0:D) (x1:D):aU Tryz.prog (ak Q5 [] [] []) afe N Tryz.f85 [dat 24 x0,dat 31 x1]=
 bif ((intD (af x1 2))==(-1))then
  bif dn x0 x1 then
   some (dat 4 (.lit (.bool (JO x0 x1))))
  else none
 else bif dn x0 x1 then
   some (dat 4 (.lit (.bool (xf x0 x1))))
  else none:=by kernel_rfl
/- roadbook/query.Own -/
def ame:ay:=fun _=>none
theorem t29 (N:Nat) (x0:D) (x1:Int):aU Tryz.prog (ak Q5 [] [] []) ame N Tryz.f29 [dat 31 x0,dat 3 (.lit (.int .i64 x1))]=
 bif decide ((qP x0).length<=2147483647)then
  some (dat 28 (.slice (plc (fun e=>MB x1 (ofE e)) (qP x0) 0) []))
 else none:=by kernel_rfl
end X
end
section
namespace X
open Go.Ev
set_option linter.unusedVariables false
set_option maxRecDepth 10000
set_option linter.unusedSimpArgs false
theorem ai8 {N:Nat} {q:D} {a b c:Int} (hl:(ae (af q 1)).length<=2147483647): ∀ (n i:Nat) (l:List D),i<=(ae (af q 1)).length->(ae (af q 1)).length - i<n->l.length<=i->
  ail Tryz.prog Tryz.f79 N n q a b c (i:Int) l=some (dat 28 (.slice (l++plc (fun e=>ajA a b c (ofE e)) ((ae (af q 1)).drop i) i) []),[some ⟨107,yc 76 3 (.lit (.int .i64 a)),0,none⟩,some ⟨107,yc 76 3 (.lit (.int .i64 b)),0,none⟩,some ⟨107,yc 76 3 (.lit (.int .i64 c)),0,none⟩])
 |0,i,l,_,h,_=>by omega
 |n+1,i,l,hi,h,hle=>by
  rw[ajf]
  by_cases hlt:i<(ae (af q 1)).length
  ·rw[bG hlt,eY hlt,cond_true,cond_true,Int.toNat_natCast,dA hlt,fE (Nat.le_trans hl (by unfold maxLen;omega)) hlt,List.drop_eq_getElem_cons hlt,ajg]
   show(bif ajA a b c (ofE (ae (af q 1))[i])then _ else _)=_
   cases hf:ajA a b c (ofE (ae (af q 1))[i])with
   |true=>
    rw[cond_true,dT (show l.length+1<=2147483648 by omega),cond_true,ai8 hl n (i+1) _ (by omega) (by omega) (by simp;omega),List.append_assoc]
    rfl
   |false=>
    rw[cond_false,ai8 hl n (i+1) _ (by omega) (by omega) (by omega)]
    rfl
  ·rw[fB hlt,cond_false,List.drop_of_length_le (by omega)]
   simp[plc]
def a79:List AV:=[dat 31 .nil,clo 107 139 [OID,OID+1,OID+2]]
def g79 (ds hs:List D):uN:=match ds,hs with
 | [x,_],[a,b,c]=>bif aeT a&&aeT b&&aeT c then some (dat 28 (.slice (plc (fun e=>ajA (setOf a) (setOf b) (setOf c) (ofE e)) (qP x) 0) []),[some ⟨107,a,0,none⟩,some ⟨107,b,0,none⟩,some ⟨107,c,0,none⟩])else none
 |_,_=>none
def p79 (ds hs:List D):Bool:=decide ((qP (ds.getD 0 .nil)).length<=2147483647)
def h79:xP:=(79,28,fD a79 aiD p79,iZ a79 aiD g79)
theorem alF: ∀ args hh r h',fD a79 aiD p79 args hh=true->iZ a79 aiD g79 args hh=some (r,h')->HCallOK Tryz.prog 79 args hh r h':=by
 refine fV rfl rfl fun ds es r h' hq hd=>?_
 unfold g79 at hd
 split at hd
 ·rename_i x y a b c
  cases hb:(aeT a&&aeT b&&aeT c)with
  |false=>rw[hb,cond_false]at hd;cases hd
  |true=>
   rw[hb,cond_true]at hd
   injection hd with hd
   injection hd with h1 h2
   subst h1 h2
   rw[Bool.and_eq_true,Bool.and_eq_true]at hb
   refine HCallOK.typed k79.ex fun hta hty=>?_
   obtain⟨n1,h1⟩:=hty ⟨107,a,0,none⟩ (by simp[kQ,aiD]) rfl rfl
   obtain⟨n2,h2⟩:=hty ⟨107,b,0,none⟩ (by simp[kQ,aiD]) rfl rfl
   obtain⟨n3,h3⟩:=hty ⟨107,c,0,none⟩ (by simp[kQ,aiD]) rfl rfl
   obtain⟨z1,rfl⟩:=ajj h1 hb.1.1
   obtain⟨z2,rfl⟩:=ajj h2 hb.1.2
   obtain⟨z3,rfl⟩:=ajj h3 hb.2
   have hl:(ae (af x 1)).length<=2147483647:=of_decide_eq_true hq
   refine gZ hm alv k79 ((amb ((ae (af x 1)).length+1) x z1 z2 z3).trans ?_)
   exact ai8 hl _ 0 [] (Nat.zero_le _) (by omega) (by simp)
 ·cases hd
def e85:FuncId×TypeId×(List AV->Bool)×(List AV->Option D):=(85,4,jU (q2 fun x y=>dn x y),ent [24,31] (f2 fun x y=>some (.lit (.bool (QP x y)))))
theorem k85:FnOK Tryz.prog 85 Tryz.f85:=⟨Tryz.func85,rfl,by kernel_rfl⟩
theorem c85: ∀ args d,e85.2.2.1 args=true->e85.2.2.2 args=some d->CallOK Tryz.prog 85 args (aj Tryz.prog 4 d):=
 qG k85 fun x y d hq h _ _=>by
  cases h
  rw[tX,xX]
  have hq:dn x y=true:=hq
  refine aI hm aab k85 ((t85 1 x y).trans ?_)
  rw[m4,hq]
  show _=some (dat 4 (.lit (.bool (QP x y))))
  unfold QP qBy
  cases (intD (af y 2)== -1)<;>rfl
def e29:FuncId×TypeId×(List AV->Bool)×(List AV->Option D):=(29,28,jU (q2 fun x _=>decide ((qP x).length<=2147483647)),ent [31,3] (f2 fun x y=>some (.slice (afL x (intD y)) [])))
theorem k29:FnOK Tryz.prog 29 Tryz.f29:=⟨Tryz.func29,rfl,by kernel_rfl⟩
theorem c29: ∀ args d,e29.2.2.1 args=true->e29.2.2.2 args=some d->CallOK Tryz.prog 29 args (aj Tryz.prog 28 d):=
 qG k29 fun x y d hq h _ _=>by
  cases h
  rw[xX,n3]
  have hq:decide ((qP x).length<=2147483647)=true:=hq
  refine aI hm aab k29 ((t29 1 x (intD y)).trans ?_)
  rw[m27,hq]
  rfl
def Q6:Tab:=e29::e85::Q5
theorem aeb:EnvOK Tryz.prog (bT Q6 []):=aO (aO aab c85) c29
def Q6h:uQ:=[h79]
theorem alz:EnvOK Tryz.prog (ak Q6 Q6h [] []):=bJ aeb alF
end X
end
end Go.Proofs.YtpceahbengfjeaaGreatDoor
