/- Trees of functions, and lemmas. Nothing here is trusted. -/
import Derived.Test.YtpceahbengfjeaaGreatDoorZ37
namespace Go.Proofs.YtpceahbengfjeaaGreatDoor
section
namespace X
open Go.Ev
set_option linter.unusedVariables false
/- roadbook/query.May -/
def ady:ay:=fun _=>none
theorem t32 (N:Nat) (x0:D) (x1:D):aU Tryz.prog (ak Q6 [] [] []) ady N Tryz.f32 [dat 24 x0,dat 31 x1]=
 bif ((lL x0)==true)then
  bif ((dn x0 x1)==true)then
   bif dn x0 x1 then
    bif ((l9 x0 x1)==true)then
     bif dn x0 x1 then
      some (dat 4 (.lit (.bool (QP x0 x1))))
     else none
    else some (dat 4 (.lit (.bool false)))
   else none
  else some (dat 4 (.lit (.bool false)))
 else some (dat 4 (.lit (.bool false))):=by kernel_rfl
/- roadbook/query.New -/
def alV:ay:=fun _=>none
theorem t95 (N:Nat) (x0:D) (x1:Int) (x2:Int):aU Tryz.prog (ak Q6 Q6h [] []) alV N Tryz.f95 [dat 31 x0,dat 3 (.lit (.int .i64 x1)),dat 3 (.lit (.int .i64 x2))]=
 bif decide ((qP x0).length<=2147483647)then
  some (dat 28 (.slice (plc (fun e=>ajA (orI .i64 x1 x2) x1 x2 (ofE e)) (qP x0) 0) []))
 else none:=by kernel_rfl
end X
end
section
namespace X
open Go.Ev
set_option linter.unusedVariables false
set_option maxRecDepth 10000
set_option linter.unusedSimpArgs false
def e32:FuncId×TypeId×(List AV->Bool)×(List AV->Option D):=(32,4,yes,ent [24,31] (f2 fun x y=>some (.lit (.bool (HY x y)))))
theorem k32:FnOK Tryz.prog 32 Tryz.f32:=⟨Tryz.func32,rfl,by kernel_rfl⟩
theorem c32: ∀ args d,e32.2.2.2 args=some d->CallOK Tryz.prog 32 args (aj Tryz.prog 4 d):=
 gD k32 fun x y d h _ _=>by
  cases h
  rw[tX,xX]
  refine aI hm aeb k32 ((t32 1 x y).trans ?_)
  rw[m4]
  show _=some (dat 4 (.lit (.bool (HY x y))))
  unfold HY
  cases lL x<;>cases dn x y<;>cases l9 x y<;>rfl
def e95:FuncId×TypeId×(List AV->Bool)×(List AV->Option D):=(95,28,jU (q3 fun x _ _=>decide ((qP x).length<=2147483647)),ent [31,3,3] (f3 fun x y z=>some (.slice (afl x (intD y) (intD z)) [])))
theorem k95:FnOK Tryz.prog 95 Tryz.f95:=⟨Tryz.func95,rfl,by kernel_rfl⟩
theorem c95: ∀ args d,e95.2.2.1 args=true->e95.2.2.2 args=some d->CallOK Tryz.prog 95 args (aj Tryz.prog 28 d):=
 Jd k95 fun x y z d hq h _ _ _=>by
  cases h
  rw[xX,n3,n3]
  have hq:decide ((qP x).length<=2147483647)=true:=hq
  refine aI hm alz k95 ((t95 1 x (intD y) (intD z)).trans ?_)
  rw[m27,hq]
  rfl
end X
end
end Go.Proofs.YtpceahbengfjeaaGreatDoor
