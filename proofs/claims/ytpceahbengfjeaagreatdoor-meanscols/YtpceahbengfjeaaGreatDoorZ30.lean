/- Trees of functions, and lemmas. Nothing here is trusted. -/
import Derived.Test.YtpceahbengfjeaaGreatDoorZ29
import Derived.Test.YtpceahbengfjeaaGreatDoorZ21
namespace Go.Ev
set_option linter.unusedVariables false
set_option linter.unusedSimpArgs false
section
variable {c d q:D}
theorem Uw: ∀ {l:List D},P6 l=false->(l.map intD).Nodup:=by
 intro l h
 unfold List.Nodup
 rw[List.pairwise_iff_getElem]
 intro i j hi hj hij e
 have hi:i<l.length:=by simpa using hi
 have hj':j<l.length:=by simpa using hj
 unfold P6 at h
 rw[List.any_eq_false]at h
 refine h j (List.mem_range'_1.2 ⟨Nat.zero_le _,by omega⟩) ?_
 rw[yN]
 refine⟨l[i],?_,?_⟩
 ·rw[List.mem_iff_getElem?]
  exact⟨i,by rw[List.getElem?_take,if_pos hij,List.getElem?_eq_getElem hi]⟩
 ·rw[dA hj']
  simpa using e
theorem RD {l:List D} :gm c q l=true↔ ∀ x∈l,jT c q (intD x)=true:=by unfold gm;rw[List.all_eq_true]
theorem OX (h:Asks c d q) {l:List Nat} (hall: ∀ o,o<(dQ q).length->o∈l) {z:Int} (hz:jT c q z=true):hasB (PC c d q l) z=true:=by
 obtain⟨h1,h2⟩:=aaE h hz
 exact aa7.2 ⟨_,hall _ h1,h2⟩
theorem DC (h:Asks c d q) {l:List Nat} (hall: ∀ o,o<(dQ q).length->o∈l) {s:List D} (hs:gm c q s=true):gG (PC c d q l) s=true:=by
 unfold gG
 rw[List.all_eq_true]
 intro z hz
 obtain⟨x,hx,rfl⟩:=List.mem_map.1 hz
 exact OX h hall (RD.1 hs x hx)
theorem aaF (h:Asks c d q):QP c q=true:=by
 have:=h.may
 unfold HY at this
 simp only[Bool.and_eq_true]at this
 exact this.2.2.2
theorem zL {l:List D} (h1:gm c q l=true) (h2:P6 l=false):dm l=true:=by
 unfold dm
 rw[Bool.and_eq_true]
 refine⟨?_,BJ (Uw h2)⟩
 rw[List.all_eq_true]
 intro z hz
 obtain⟨x,hx,rfl⟩:=List.mem_map.1 hz
 have:=RD.1 h1 x hx
 unfold jT at this
 rw[Bool.and_eq_true]at this
 have hb:=dw.1 this.1
 simp only[Bool.and_eq_true,decide_eq_true_eq]
 omega
theorem abg (h:Asks c d q) {l:List Nat} (hall: ∀ o,o<(dQ q).length->o∈l) {b:D} (hC:aQ b=PC c d q l) (hb:bn b=true):gB q b=true:=by
 have he:=aaF h
 unfold QP at he
 unfold gB
 cases hq:qBy q== -1 with
 |true=>
  rw[hq,cond_true]at he
  have hq':(qBy q != -1)=false:=by unfold bne;rw[hq];rfl
  rw[hq',cond_false]
  unfold JO at he
  simp only[Bool.and_eq_true,Bool.not_eq_true']at he
  unfold gy
  rw[hb,zL he.2.2.2.1 he.2.2.2.2.1,hC,DC h hall he.2.2.2.1]
  rfl
 |false=>
  rw[hq,cond_false]at he
  have hq':(qBy q != -1)=true:=by unfold bne;rw[hq];rfl
  rw[hq',cond_true]
  unfold xf at he
  simp only[Bool.and_eq_true]at he
  unfold dO
  rw[hb,hC,OX h hall he.1,DC h hall he.2.2.1,he.2.1]
  rfl
theorem SY (h:Asks c d q):bn (uo c d q)=true:=
 ZN h (tH (Nat.le_refl _)) List.nodup_range (Yn h) (fun r hr=>VD hr) (O3 _ _ _)
theorem SC (h:Asks c d q):gB q (uo c d q)=true:=
 abg h (l:=List.range (dQ q).length) (fun o ho=>List.mem_range.2 ho) (Yn h).1 (SY h)
theorem Ns (h:Asks c d q):bn (jW c d q)=true:=
 ZN h (tH (Nat.le_refl _)) List.nodup_range (G8 h) (fun r hr=>hr) (Nat.le_refl _)
end
theorem SQ (cols:List D) (p:Int) (sums:List D): ∀ (k:Nat) (rows:List D),(uP cols p sums k rows).length<=rows.length
 |0,rows=>Nat.zero_le _
 |k+1,[]=>Nat.le_refl _
 |k+1,r::rows=>by
  unfold uP
  have ih:=SQ cols p sums k ((r::rows).drop (eU (r::rows) p))
  have h1:1<=eU (r::rows) p:=by unfold eU;omega
  simp only[List.length_cons,List.length_drop]at ih⊢
  omega
theorem RU (cols:List D) (p:Int) (sums:List D): ∀ (k:Nat) (rows:List D),∀ r∈uP cols p sums k rows,(ae r).length=2+sums.length
 |0,rows=>by intro r hr;cases hr
 |k+1,[]=>by intro r hr;cases hr
 |k+1,x::rows=>by
  intro r hr
  unfold uP at hr
  rcases List.mem_cons.1 hr with rfl|hr
  ·show(nz _ p sums).length=_
   unfold nz
   simp
   omega
  ·exact RU cols p sums k _ r hr
theorem Ky {q b:D} :(aK (gp q b)).length<=(aK b).length:=by
 unfold gp
 cases hq:(qBy q != -1)with
 |true=>
  rw[cond_true]
  unfold eF
  cases hg:dO b (qBy q) (kS q)with
  |true=>
   rw[cond_true]
   refine Nat.le_trans (SQ _ _ _ _ _) ?_
   unfold dH
   rw[eP]
   exact Nat.le_refl _
  |false=>exact Nat.zero_le _
 |false=>
  rw[cond_false]
  unfold gI
  cases hg:gy b (uM q)with
  |true=>
   rw[cond_true]
   show((aK b).map _).length<=_
   rw[List.length_map]
   exact Nat.le_refl _
  |false=>exact Nat.zero_le _
theorem Ry {q b:D} : ∀ r∈aK (gp q b),(ae r).length<=16:=by
 unfold gp
 cases hq:(qBy q != -1)with
 |true=>
  rw[cond_true]
  unfold eF
  cases hg:dO b (qBy q) (kS q)with
  |true=>
   rw[cond_true]
   intro r hr
   unfold dO at hg
   simp only[Bool.and_eq_true,decide_eq_true_eq]at hg
   rw[RU _ _ _ _ _ r hr]
   omega
  |false=>intro r hr;cases hr
 |false=>
  rw[cond_false]
  unfold gI
  cases hg:gy b (uM q)with
  |true=>
   rw[cond_true]
   intro r hr
   obtain⟨x,hx,rfl⟩:=List.mem_map.1 (show r∈(aK b).map _ from hr)
   show(jZ (ae x) (uL b (uM q))).length<=16
   have h3:=pM (Qk.1 hg).2.1
   rw[JD,TY]
   omega
  |false=>intro r hr;cases hr
theorem XD {c d q:D} :(aK (xu c d q)).length<=5000/\ ∀ r∈aK (xu c d q),(ae r).length<=16:=by
 unfold xu
 cases h:iR c d q with
 |true=>
  rw[cond_true]
  refine⟨Nat.le_trans Ky ?_,Ry⟩
  exact(o5.1 (SY (zx h))).2.1
 |false=>exact⟨Nat.zero_le _,fun r hr=>by cases hr⟩
section
variable {c d q:D}
theorem amU {α β:Type} {f g:α->List β} {p:α->Bool} : ∀ (l:List α),(∀ x∈l,f x=bif p x then g x else [])->l.flatMap f=(l.filter p).flatMap g
 | [],_=>rfl
 |x::l,h=>by
  rw[List.flatMap_cons,amU l (fun y hy=>h y (List.mem_cons_of_mem _ hy)),h x (List.mem_cons_self),List.filter_cons]
  cases p x<;>simp
def inL (q:D) (s:Int):List Nat:=(List.range (dQ q).length).filter (inS s)
theorem amX (q:D) (s:Int):xQ q (inL q s):=fun o ho=>List.mem_range.1 (List.mem_filter.1 ho).1
theorem akA (q:D) (s:Int):(inL q s).Nodup:=List.Pairwise.filter _ List.nodup_range
theorem al2 (h:Asks c d q) (s:Int):ahG c q s=PC c d q (inL q s):=by
 unfold ahG PC inL
 rw[h.may,cond_true]
 refine amU _ fun o ho=>?_
 have ho:=List.mem_range.1 ho
 have h4:=h.n4
 unfold rY
 rw[amV (by omega),Int.toNat_natCast,(E9 h ho).seen]
theorem ak2 {k:Nat} {t:D} (h:Qj k t≠0) (hn:(dQ q).length<=4) (hlt:Qj k t<TW .i64 1 ((dQ q).length:Int)):(lvN k t).Perm (inL q (Qj k t)):=by
 obtain⟨h1,h2⟩:=aig k t h
 rw[List.perm_ext_iff_of_nodup h1 (akA _ _)]
 intro i
 rw[h2 i]
 unfold inL
 rw[List.mem_filter,List.mem_range]
 exact⟨fun hi=>⟨aiG h hn hlt i ((h2 i).2 hi),hi⟩,fun hi=>hi.2⟩
theorem ai9 {t:D} (h:adW q t=true):Qj 4 t≠0/\Qj 4 t<TW .i64 1 ((dQ q).length:Int):=by
 unfold adW at h
 rw[Bool.and_eq_true,aiV,decide_eq_true_eq,decide_eq_true_eq]at h
 have e:Qj 4 t=W9 t:=rfl
 rw[e]
 exact⟨by omega,h.2⟩
theorem akH {t:D} (h:iR c d q=true) (hx:adW q t=true):aiK c d q 4 t:=by
 obtain⟨h1,h2⟩:=ai9 hx
 refine aih.1 ?_
 unfold aiy
 rw[h,Bool.true_and,Bool.and_eq_true,decide_eq_true_eq,bne_iff_ne]
 exact⟨h1,h2⟩
structure ToldT (c d q t:D):Prop where
 asks:Asks c d q
 occs:xQ q (lvN 4 t)
 nodup:(lvN 4 t).Nodup
 perm:(lvN 4 t).Perm (inL q (W9 t))
 vw:Vw (ahE c d q t) (PC c d q (lvN 4 t)) (OZ (aiN q (W9 t)) (PC c d q (lvN 4 t)) (PR c d q (lvN 4 t)))
 may:bn (ahE c d q t)=true
 out: ∀ i,¬ i<(dQ q).length-> ¬ inS (W9 t) i=true
theorem aiZ (HK:ain) {t:D} (h:iR c d q=true) (hx:adW q t=true):ToldT c d q t:=by
 have ha:=zx h
 obtain⟨h1,h2⟩:=ai9 hx
 have hv:=aiC HK 4 t (Nat.le_refl _) (akH h hx)
 have e:ahE c d q t=XA c d q 4 t:=by unfold ahE;rw[h,hx];rfl
 rw[<-e]at hv
 have ho:=aiG (q:=q) h1 ha.n4 h2
 have hn:=(aig 4 t h1).1
 exact⟨ha,ho,hn,ak2 h1 ha.n4 h2,hv,ZN ha ho hn hv (fun r hr=>VD hr) (O3 _ _ _),fun i hi hin=>hi (ho i (((aig 4 t h1).2 i).2 hin))⟩
theorem ToldT.cols {t:D} (T:ToldT c d q t):aQ (ahE c d q t)=PC c d q (lvN 4 t):=T.vw.1
theorem ToldT.colsLen {t:D} (T:ToldT c d q t):(aQ (ahE c d q t)).length=(ahG c q (W9 t)).length:=by
 rw[T.cols,al2 T.asks]
 unfold PC
 exact(T.perm.flatMap_right _).length_eq
theorem ToldT.pick {t:D} (T:ToldT c d q t):gy (ahE c d q t) (ahG c q (W9 t))=true:=by
 rw[Qk]
 refine⟨T.may,?_,?_⟩
 ·rw[al2 T.asks];exact KN T.asks (amX _ _) (akA _ _)
 ·rw[T.cols,al2 T.asks]
  unfold gG
  rw[List.all_eq_true]
  intro z hz
  obtain⟨x,hx,rfl⟩:=List.mem_map.1 hz
  exact aji T.perm hx
theorem aku {b:D} {l:List D} (h:gy b l=true):(aK (gI b l)).length=(aK b).length:=by
 rw[yf h]
 show((aK b).map _).length=_
 rw[List.length_map]
theorem ToldT.again {t:D} (T:ToldT c d q t):RI (oQ (ahE c d q t) (aiN q (W9 t))) (ahE c d q t)=true:=by
 have e:aK (oQ (ahE c d q t) (aiN q (W9 t)))=aK (ahE c d q t):=by
  show jX _ _ _=_
  unfold jX
  rw[List.filter_eq_self]
  intro r hr
  have h1:ae r∈rws (ahE c d q t):=List.mem_map.2 ⟨r,hr,rfl⟩
  rw[T.vw.2]at h1
  rw[T.cols]
  exact(List.mem_filter.1 h1).2
 have e2:aQ (oQ (ahE c d q t) (aiN q (W9 t)))=aQ (ahE c d q t):=rfl
 unfold RI ik
 rw[e,e2]
 simp
end
end Go.Ev
