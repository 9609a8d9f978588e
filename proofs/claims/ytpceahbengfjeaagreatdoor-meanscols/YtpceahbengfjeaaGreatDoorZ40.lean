/- Trees of functions, and lemmas. Nothing here is trusted. -/
import Derived.Test.YtpceahbengfjeaaGreatDoorZ27
import Derived.Test.YtpceahbengfjeaaGreatDoorZ39
namespace Go.Proofs.YtpceahbengfjeaaGreatDoor
open Go.Ev
set_option linter.unusedVariables false
set_option maxRecDepth 10000
set_option linter.unusedSimpArgs false
def e67:FuncId×TypeId×(List AV->Bool)×(List AV->Option D):=(67,4,yes,ent [28,28] (f2 fun x y=>some (.lit (.bool (ik (ae x) (ae y))))))
theorem k67:FnOK Tryz.prog 67 Tryz.f67:=⟨Tryz.func67,rfl,by kernel_rfl⟩
theorem c67: ∀ args d,e67.2.2.2 args=some d->CallOK Tryz.prog 67 args (aj Tryz.prog 4 d):=
 gD k67 fun x y d h ⟨_,hx⟩ ⟨_,hy⟩=>by
  cases h
  rw[nI,nI]
  refine aI hm ZP k67 ((t67 ((ae x).length+1) x y).trans ?_)
  rw[m4]
  by_cases hl:(ae x).length=(ae y).length
  ·have e1:(((ae x).length:Int)!=((ae y).length:Int))=false:=by simp[hl]
   rw[e1,cond_false]
   have:=jl (fun n v=>Ez Tryz.prog Tryz.f67 ((ae x).length+1) n x y v) (ae x).length (fun i=>!(intD ((ae x).getD i .nil)==intD ((ae y).getD i .nil))) (some (dat 4 (.lit (.bool false)))) (some (dat 4 (.lit (.bool true))))
    (fun n i hi=>by
     rw[yX,bG hi,eY hi,bG (by omega:i<(ae y).length),cond_true,cond_true,cond_true,fE (UZ hx) hi,Int.toNat_natCast]
     rfl)
    (fun n=>by rw[yX,fB (by omega),cond_false]) ((ae x).length+1) 0 (Nat.zero_le _) (by omega)
   refine this.trans ?_
   have h2:=MF intD (ae x) (ae y) hl
   show _=some (dat 4 (.lit (.bool (ik (ae x) (ae y)))))
   unfold ik
   rw[<-h2,Nat.sub_zero]
   cases (List.range' 0 (ae x).length).any _<;>rfl
  ·have e1:(((ae x).length:Int)!=((ae y).length:Int))=true:=by simp;omega
   rw[e1,cond_true]
   have:ik (ae x) (ae y)=false:=by
    unfold ik
    rw[beq_eq_false_iff_ne]
    intro hh
    exact hl (by simpa using congrArg List.length hh)
   show _=some (dat 4 (.lit (.bool (ik (ae x) (ae y)))))
   rw[this]
def lG (x:D):Bool:=decide ((aK x).length<=1000000)&&(aK x).all fun r=>decide ((ae r).length<=1000000)
theorem wM {x:D} :lG x=true↔(aK x).length<=1000000/\ ∀ r∈aK x,(ae r).length<=1000000:=by
 unfold lG
 simp only[Bool.and_eq_true,decide_eq_true_eq,List.all_eq_true]
def ja (x y:D):Bool:=SH (ik (aQ x) (aQ y)) x y
def e25:FuncId×TypeId×(List AV->Bool)×(List AV->Option D):=(25,4,jU (q2 fun x y=>lG x&&lG y),ent [37,37] (f2 fun x y=>some (.lit (.bool (ja x y)))))
theorem k25:FnOK Tryz.prog 25 Tryz.f25:=⟨Tryz.func25,rfl,by kernel_rfl⟩
theorem c25: ∀ args d,e25.2.2.1 args=true->e25.2.2.2 args=some d->CallOK Tryz.prog 25 args (aj Tryz.prog 4 d):=
 qG k25 fun x y d hq h ⟨_,hx⟩ ⟨_,hy⟩=>by
  cases h
  rw[nB,nB,m4]
  rw[Bool.and_eq_true,wM,wM]at hq
  have hE:CallOK Tryz.prog 67 [dat 28 (af x 0),dat 28 (af y 0)] (aj Tryz.prog 4 (.lit (.bool (ik (ae (af x 0)) (ae (af y 0)))))):=c67 _ _ rfl
  rw[m4]at hE
  exact YL hE hq.1.1 hq.2.1 hq.1.2 hq.2.2
theorem BN: ∀ (l:List (List UInt8)) (f:List UInt8->Nat),(∀ key,l.count key<=f key)->Iu f l=true
 | [],f,_=>rfl
 |k::l,f,h=>by
  have h0:=h k
  rw[List.count_cons_self]at h0
  show(if f k=0 then false else Iu (fun x=>if x=k then f k - 1 else f x) l)=true
  rw[if_neg (by omega)]
  refine BN l _ fun key=>?_
  show _<=(if key=k then f k - 1 else f key)
  by_cases hk:key=k
  ·subst hk;rw[if_pos rfl];omega
  ·rw[if_neg hk]
   have:=h key
   rw[List.count_cons_of_ne (Ne.symm hk)]at this
   exact this
theorem UQ {x y:D} (hc:ik (aQ x) (aQ y)=true) (h:(aK x).Perm (aK y)):ja x y=true:=by
 unfold ja SH
 rw[hc,Bool.true_and,decide_eq_true (show(jg x).length=(jg y).length from h.length_eq),Bool.true_and]
 refine BN _ _ fun key=>?_
 exact Nat.le_of_eq ((h.map txt).count_eq key).symm
end Go.Proofs.YtpceahbengfjeaaGreatDoor
