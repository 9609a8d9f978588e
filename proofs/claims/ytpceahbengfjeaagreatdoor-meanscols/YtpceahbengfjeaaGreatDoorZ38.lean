/- Trees of functions, and lemmas. Nothing here is trusted. -/
import Derived.Test.YtpceahbengfjeaaGreatDoorZ37
namespace Go.Proofs.YtpceahbengfjeaaGreatDoor
section
namespace X
open Go.Ev
set_option linter.unusedVariables false
/- roadbook/query.May -/
def ady:ay:=fun _=>none
theorem t32 (N:Nat) (x0:D) (x1:D):aU Tryz.prog (ak Q6 [] [] []) ady N Tryz.f32 [dat 24 x0,dat 31 x1]=
 bif ((lL x0)==true)then
  bif ((dn x0 x1)==true)then
   bif dn x0 x1 then
    bif ((l9 x0 x1)==true)then
     bif dn x0 x1 then
      some (dat 4 (.lit (.bool (QP x0 x1))))
     else none
    else some (dat 4 (.lit (.bool false)))
   else none
  else some (dat 4 (.lit (.bool false)))
 else some (dat 4 (.lit (.bool false))):=by kernel_rfl
/- roadbook/query.New -/
def alV:ay:=fun _=>none
theorem t95 (N:Nat) (x0:D) (x1:Int) (x2:Int):aU Tryz.prog (ak Q6 Q6h [] []) alV N Tryz.f95 [dat 31 x0,dat 3 (.lit (.int .i64 x1)),dat 3 (.lit (.int .i64 x2))]=
 bif decide ((qP x0).length<=2147483647)then
  some (dat 28 (.slice (plc (fun e=>ajA (orI .i64 x1 x2) x1 x2 (ofE e)) (qP x0) 0) []))
 else none:=by kernel_rfl
end X
end
section
namespace X
open Go.Ev
set_option linter.unusedVariables false
set_option maxRecDepth 10000
set_option linter.unusedSimpArgs false
def e32:FuncId×TypeId×(List AV->Bool)×(List AV->Option D):=(32,4,yes,ent [24,31] (f2 fun x y=>some (.lit (.bool (HY x y)))))
theorem k32:FnOK Tryz.prog 32 Tryz.f32:=⟨Tryz.func32,rfl,by kernel_rfl⟩
theorem c32: ∀ args d,e32.2.2.2 args=some d->CallOK Tryz.prog 32 args (aj Tryz.prog 4 d):=
 gD k32 fun x y d h _ _=>by
  cases h
  rw[tX,xX]
  refine aI hm aeb k32 ((t32 1 x y).trans ?_)
  rw[m4]
  show _=some (dat 4 (.lit (.bool (HY x y))))
  unfold HY
  cases lL x<;>cases dn x y<;>cases l9 x y<;>rfl
def e95:FuncId×TypeId×(List AV->Bool)×(List AV->Option D):=(95,28,jU (q3 fun x _ _=>decide ((qP x).length<=2147483647)),ent [31,3,3] (f3 fun x y z=>some (.slice (afl x (intD y) (intD z)) [])))
theorem k95:FnOK Tryz.prog 95 Tryz.f95:=⟨Tryz.func95,rfl,by kernel_rfl⟩
theorem c95: ∀ args d,e95.2.2.1 args=true->e95.2.2.2 args=some d->CallOK Tryz.prog 95 args (aj Tryz.prog 28 d):=
 Jd k95 fun x y z d hq h _ _ _=>by
  cases h
  rw[xX,n3,n3]
  have hq:decide ((qP x).length<=2147483647)=true:=hq
  refine aI hm alz k95 ((t95 1 x (intD y) (intD z)).trans ?_)
  rw[m27,hq]
  rfl
def Q7:Tab:=e95::e32::Q6
theorem am0:EnvOK Tryz.prog (bT Q7 []):=aO (ah aeb c32) c95
end X
end
section
namespace X
open Go.Ev
set_option linter.unusedVariables false
/- roadbook/query.Cols -/
def qU7:ay:=fun i=>if i=6 then some ([0,1,2,5,6,9,10,11,12,13,14,15,16,17,18,21,22,23,24,25,26,27,28,29,30,31,32,33,34,35,36,37,38,39,40,41,42,43,44,45,46,47,48,49],[3,4,7],[])else if i=10 then some ([0,1,2,5,6,10,11,12,13,14,15,16,17,18,21,22,23,24,25,26,27,28,29,30,31,32,33,34,35,36,39,40,41,42,43,44,45,46,47,48,49],[3,4,7],[])else none
def ahN (P:Program) (fn:Func) (N n:Nat) (x0:D) (x1:D) (x2:Int) (v20:Int) (b7:List D):Option AV:=aN (preL qU7 (sub [1,1,1,1,0,1,0,0] (ag fn))) (az P (ak Q7 [] [] []) qU7 N (sub [1,1,1,1,0,1,0,0] (ag fn))) n ⟨[dead,dead,dead,bxp 3 24,bxp 4 31,dead,dead,bxp 7 28,dat 107 (yc 76 3 (.lit (.int .i64 x2))),dead,dead,dead,dead,dead,dead,dead,dead,dead,dead,dat 3 (.lit (.int .i64 ((ae (af x1 0)).length:Int))),dat 3 (.lit (.int .i64 v20)),dead,dead,dead,dead,dead,dead,dead,dead,dead,dead,dead,dead,dead,dead,dead,dead,dead,dead,dead,dead,dead,dead,dead,dead,dead,dead,dead,dead,dead],aZ [(3,some ⟨24,x0,0,none⟩),(4,some ⟨31,x1,0,none⟩),(7,some ⟨28,.slice b7 [],1,none⟩)]⟩ (aG 0 (cZ P (ak Q7 [] [] []) qU7 N (sub [1,1,1,1,1] (ag fn)) (dJ P fn)))
def OY (P:Program) (fn:Func) (N n:Nat) (x0:D) (x1:D) (x2:Int) (v20:Int) (b7:List D) (m0:Nat) (v38:Int) (b7q:List D):Option AV:=aN (preL qU7 (sub [1,1,1,1,0,1,0,0,1,1,0,0,1,1,1,0,0] (ag fn))) (az P (ak Q7 [] [] []) qU7 N (sub [1,1,1,1,0,1,0,0,1,1,0,0,1,1,1,0,0] (ag fn))) n ⟨[dead,dead,dead,bxp 3 24,bxp 4 31,dead,dead,bxp 7 28,dat 107 (yc 76 3 (.lit (.int .i64 x2))),dat 3 (.lit (.int .i64 v20)),dead,dead,dead,dead,dead,dead,dead,dead,dead,dat 3 (.lit (.int .i64 ((ae (af x1 0)).length:Int))),dat 3 (.lit (.int .i64 v20)),dead,dead,dead,dead,dead,dead,dead,dead,dead,dead,dead,dead,dead,dead,dead,dead,dat 3 (.lit (.int .i64 (intD (af ((ae (af x0 0)).getD (intD ((ae (af x1 0)).getD (v20).toNat .nil)).toNat .nil) 0)))),dat 3 (.lit (.int .i64 v38)),dead,dead,dead,dead,dead,dead,dead,dead,dead,dead,dead],aZ [(3,some ⟨24,x0,0,none⟩),(4,some ⟨31,x1,0,none⟩),(7,some ⟨28,.slice b7q [],1,none⟩)]⟩ (aG 2 (aG 1 (cZ P (ak Q7 [] [] []) qU7 N (sub [1,1,1,1,0,1,0,0,1,1,1] (ag fn)) (Nb (fun s=>aN (preL qU7 (sub [1,1,1,1,0,1,0,0] (ag fn))) (az P (ak Q7 [] [] []) qU7 N (sub [1,1,1,1,0,1,0,0] (ag fn))) m0 ((preL qU7 (sub [1,1,1,1,0,1,0,0] (ag fn))) s) (aG 0 (cZ P (ak Q7 [] [] []) qU7 N (sub [1,1,1,1,1] (ag fn)) (dJ P fn)))) (aG 0 (cZ P (ak Q7 [] [] []) qU7 N (sub [1,1,1,1,1] (ag fn)) (dJ P fn)))))))
theorem ahR (N n:Nat) (x0:D) (x1:D) (x2:Int) (v20:Int) (b7:List D) (m0:Nat) (v38:Int) (b7q:List D):OY Tryz.prog Tryz.f28 N (n+1) x0 x1 x2 v20 b7 m0 v38 b7q=
 bif decide (v38<(intD (af ((ae (af x0 0)).getD (intD ((ae (af x1 0)).getD (v20).toNat .nil)).toNat .nil) 0)))then
  bif decide ((b7q).length+1<=2147483648)then
   OY Tryz.prog Tryz.f28 N n x0 x1 x2 v20 b7 m0 (IntKind.wrap .i64 (v38+1)) (b7q++[.lit (.int .i64 (Cj v20 v38))])
  else none
 else ahN Tryz.prog Tryz.f28 N m0 x0 x1 x2 (IntKind.wrap .i64 (v20+1)) b7q:=by kernel_rfl
theorem KU (N n:Nat) (x0:D) (x1:D) (x2:Int) (v20:Int) (b7:List D):ahN Tryz.prog Tryz.f28 N (n+1) x0 x1 x2 v20 b7=
 bif decide (v20<((ae (af x1 0)).length:Int))then
  bif decide (0<=v20)then
   bif (!(MB x2 (LQ v20)))then
    ahN Tryz.prog Tryz.f28 N n x0 x1 x2 (IntKind.wrap .i64 (v20+1)) b7
   else bif (decide (0<=v20)&&decide (v20<((ae (af x1 0)).length:Int)))then
     bif (decide (0<=(intD ((ae (af x1 0)).getD (v20).toNat .nil)))&&decide ((intD ((ae (af x1 0)).getD (v20).toNat .nil))<((ae (af x0 0)).length:Int)))then
      OY Tryz.prog Tryz.f28 N N x0 x1 x2 v20 b7 n 0 b7
     else none
    else none
  else none
 else some (dat 28 (.slice b7 [])):=by kernel_rfl
theorem t28 (N:Nat) (x0:D) (x1:D) (x2:Int):aU Tryz.prog (ak Q7 [] [] []) qU7 N Tryz.f28 [dat 24 x0,dat 31 x1,dat 3 (.lit (.int .i64 x2))]=
 bif (!(HY x0 x1))then
  some (dat 28 (.slice [] []))
 else ahN Tryz.prog Tryz.f28 N N x0 x1 x2 0 []:=by kernel_rfl
end X
end
section
namespace X
open Go.Ev
set_option linter.unusedVariables false
set_option maxRecDepth 10000
set_option linter.unusedSimpArgs false
theorem amZ {c q:D} (h:HY c q=true):lL c=true/\dn c q=true/\l9 c q=true/\QP c q=true:=by
 unfold HY at h
 simpa only[Bool.and_eq_true]using h
theorem ah4 {c q:D} (h:dn c q=true):1<=(dQ q).length/\(dQ q).length<=4:=by
 unfold dn at h
 simp only[Bool.and_eq_true,decide_eq_true_eq]at h
 exact h.1
theorem ah6 {c q:D} (h1:lL c=true) (h2:dn c q=true) {i:Nat} (hi:i<(dQ q).length):1<=Zo c q (i:Int)/\Zo c q (i:Int)<=4:=by
 have hb:=J5 h2 hi
 obtain⟨_,_,h3⟩:=F6.1 h1
 unfold Zo
 rw[Int.toNat_natCast]
 have hlt:(intD ((dQ q).getD i .nil)).toNat<(tabs c).length:=by omega
 rw[dA hlt]
 have:=qw.1 (h3 _ (List.getElem_mem hlt))
 omega
theorem ah0 {N m0 i:Nat} {c q:D} {set:Int} {l0:List D} (h1:1<=Zo c q (i:Int)/\Zo c q (i:Int)<=4): ∀ (n j:Nat) (l:List D),j<=(Zo c q (i:Int)).toNat->(Zo c q (i:Int)).toNat - j<n->l.length+(Zo c q (i:Int)).toNat<=1000+j->
  OY Tryz.prog Tryz.f28 N n c q set (i:Int) l0 m0 (j:Int) l=ahN Tryz.prog Tryz.f28 N m0 c q set (IntKind.wrap .i64 ((i:Int)+1)) (l++((List.range (Zo c q (i:Int)).toNat).drop j).map (qQ (i:Int)))
 |0,j,l,_,h,_=>by omega
 |n+1,j,l,hj,h,hl=>by
  rw[ahR]
  show(bif decide ((j:Int)<Zo c q (i:Int))then _ else _)=_
  by_cases hlt:(j:Int)<Zo c q (i:Int)
  ·have hlt':j<(List.range (Zo c q (i:Int)).toNat).length:=by rw[List.length_range];omega
   rw[dT hlt,cond_true,dT (show l.length+1<=2147483648 by omega),cond_true,aH (l_in (by omega) (by omega)),show((j:Int)+1)=((j+1:Nat):Int)from rfl]
   rw[ah0 h1 n (j+1) _ (by omega) (by omega) (by simp;omega),List.drop_eq_getElem_cons hlt',List.map_cons,List.append_assoc,List.getElem_range]
   rfl
  ·rw[dF hlt,cond_false,List.drop_of_length_le (by rw[List.length_range];omega),List.map_nil,List.append_nil]
theorem zL {N:Nat} {c q:D} {set:Int} (hN:6<=N) (h1:lL c=true) (h2:dn c q=true): ∀ (n i:Nat) (l:List D),i<=(dQ q).length->(dQ q).length - i<n->l.length<=4*i->
  ahN Tryz.prog Tryz.f28 N n c q set (i:Int) l=some (dat 28 (.slice (l++(List.range' i ((dQ q).length - i)).flatMap (rY c q set)) []))
 |0,i,l,_,h,_=>by omega
 |n+1,i,l,hi,h,hl=>by
  have h4:=ah4 h2
  rw[KU]
  show(bif decide ((i:Int)<((dQ q).length:Int))then _ else _)=_
  by_cases hlt:i<(dQ q).length
  ·have hb:=J5 h2 hlt
   have ht:=ah6 h1 h2 hlt
   have b1:(decide (0<=intD ((ae (af q 0)).getD ((i:Int)).toNat .nil))&&decide (intD ((ae (af q 0)).getD ((i:Int)).toNat .nil)<((ae (af c 0)).length:Int)))=true:=by
    rw[Int.toNat_natCast,Bool.and_eq_true,decide_eq_true_eq,decide_eq_true_eq]
    exact hb
   have b2:(decide (0<=(i:Int))&&decide ((i:Int)<((ae (af q 0)).length:Int)))=true:=bG hlt
   have hw:IntKind.wrap .i64 ((i:Int)+1)=((i+1:Nat):Int):=by rw[aH (l_in (by omega) (by omega))];rfl
   have hr:(dQ q).length - i=((dQ q).length - (i+1))+1:=by omega
   rw[eY hlt,cond_true,b1,b2,dT (show 0<=(i:Int) by omega),cond_true,cond_true,cond_true,hw,hr,List.range'_succ,List.flatMap_cons]
   cases hs:MB set (LQ (i:Int))with
   |false=>
    rw[show(!false)=true from rfl,cond_true,zL hN h1 h2 n (i+1) _ (by omega) (by omega) (by omega),show rY c q set i=[] by unfold rY;rw[hs];rfl,List.nil_append]
   |true=>
    rw[show(!true)=false from rfl,cond_false]
    have hin:=ah0 (N:=N) (m0:=n) (c:=c) (q:=q) (set:=set) (l0:=l) ht N 0 l (Nat.zero_le _) (by omega) (by omega)
    have hin:OY Tryz.prog Tryz.f28 N N c q set (i:Int) l n 0 l=_:=hin
    rw[hin,hw,zL hN h1 h2 n (i+1) _ (by omega) (by omega) (by simp;omega),List.drop_zero,List.append_assoc,show rY c q set i=(List.range (Zo c q (i:Int)).toNat).map (qQ (i:Int)) by unfold rY;rw[hs];rfl]
  ·rw[fB hlt,cond_false,show(dQ q).length - i=0 by omega]
   simp
def e28:FuncId×TypeId×(List AV->Bool)×(List AV->Option D):=(28,28,yes,ent [24,31,3] (f3 fun x y z=>some (.slice (ahG x y (intD z)) [])))
theorem k28:FnOK Tryz.prog 28 Tryz.f28:=⟨Tryz.func28,rfl,by kernel_rfl⟩
theorem c28: ∀ args d,e28.2.2.2 args=some d->CallOK Tryz.prog 28 args (aj Tryz.prog 28 d):=
 O7 k28 fun x y z d h _ _ _=>by
  cases h
  rw[tX,xX,n3]
  refine aI hm am0 k28 ((t28 10 x y (intD z)).trans ?_)
  rw[m27]
  unfold ahG
  cases hq:HY x y with
  |false=>rfl
  |true=>
   obtain⟨h1,h2,_,_⟩:=amZ hq
   have h4:=ah4 h2
   rw[show(!true)=false from rfl,cond_false,cond_true,List.range_eq_range']
   exact zL (by omega) h1 h2 10 0 [] (Nat.zero_le _) (by omega) (by simp)
end X
end
end Go.Proofs.YtpceahbengfjeaaGreatDoor
