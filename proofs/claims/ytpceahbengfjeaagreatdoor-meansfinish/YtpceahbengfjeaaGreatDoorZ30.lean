/- Trees of functions, and lemmas. Nothing here is trusted. -/
import Derived.Test.YtpceahbengfjeaaGreatDoorZ27
import Derived.Test.YtpceahbengfjeaaGreatDoorZ18
namespace Go.Proofs.YtpceahbengfjeaaGreatDoor
open Go.Ev
set_option linter.unusedVariables false
section
set_option maxRecDepth 10000
def afi : FuncId × TypeId × (List AV -> Bool) × (List AV -> Option D) := (136, 4, yes, ent [28, 28] (f2 fun x y => some (.lit (.bool (sU (ae x) (ae y))))))
theorem adv : FnOK Tryz.prog 136 Tryz.f136 := ⟨Tryz.func136, rfl, by kernel_rfl⟩
theorem agU : ∀ args d, afi.2.2.2 args = some d -> CallOK Tryz.prog 136 args (aj Tryz.prog 4 d) :=
 gB adv fun x y d h _ _ => by
  cases h
  rw [nI, nI]
  refine aI hm ach adv ((afC 1 x y).trans ?_)
  rw [m4]
  rfl
def aht : Go.Shelf.Ren := ⟨fun | 4 => 171 | n => n, fun | 22 => 67 | 25 => 59 | n => n, fun | n => n⟩
def afm : Go.Shelf.Ren := ⟨fun | 4 => 172 | n => n, fun | 22 => 28 | 25 => 3 | n => n, fun | n => n⟩
theorem Z8 : Go.Proofs.Lays8.n4 Tryz.prog aht := {
 mixed := hm
 f4 := ⟨Tryz.f171.name, by kernel_rfl, Tryz.func171.trans (congrArg some (by kernel_rfl))⟩
 t0 := Tryz.underlying0
 a0 := Tryz.isAgg0
 z0 := Tryz.sizeOf0
 v0 := Tryz.zeroValue0
 t3 := Tryz.underlying3
 a3 := Tryz.isAgg3
 z3 := Tryz.sizeOf3
 v3 := Tryz.zeroValue3
 t4 := Tryz.underlying4
 a4 := Tryz.isAgg4
 z4 := Tryz.sizeOf4
 v4 := Tryz.zeroValue4
 t9 := Tryz.underlying9
 a9 := Tryz.isAgg9
 z9 := Tryz.sizeOf9
 v9 := Tryz.zeroValue9
 t20 := Tryz.underlying20
 a20 := Tryz.isAgg20
 z20 := Tryz.sizeOf20
 v20 := Tryz.zeroValue20
 t22 := Tryz.underlying67
 a22 := Tryz.isAgg67
 z22 := Tryz.sizeOf67
 v22 := Tryz.zeroValue67 }
theorem Z4 : Go.Proofs.Lays8.n4 Tryz.prog afm := {
 mixed := hm
 f4 := ⟨Tryz.f172.name, by kernel_rfl, Tryz.func172.trans (congrArg some (by kernel_rfl))⟩
 t0 := Tryz.underlying0
 a0 := Tryz.isAgg0
 z0 := Tryz.sizeOf0
 v0 := Tryz.zeroValue0
 t3 := Tryz.underlying3
 a3 := Tryz.isAgg3
 z3 := Tryz.sizeOf3
 v3 := Tryz.zeroValue3
 t4 := Tryz.underlying4
 a4 := Tryz.isAgg4
 z4 := Tryz.sizeOf4
 v4 := Tryz.zeroValue4
 t9 := Tryz.underlying9
 a9 := Tryz.isAgg9
 z9 := Tryz.sizeOf9
 v9 := Tryz.zeroValue9
 t20 := Tryz.underlying20
 a20 := Tryz.isAgg20
 z20 := Tryz.sizeOf20
 v20 := Tryz.zeroValue20
 t22 := Tryz.underlying28
 a22 := Tryz.isAgg28
 z22 := Tryz.sizeOf28
 v22 := Tryz.zeroValue28 }
theorem Yc : sliceOf Tryz.prog 67 = some 59 := by kernel_rfl
theorem VQ : sliceOf Tryz.prog 28 = some 3 := by kernel_rfl
theorem yG {t : TypeId} {q : Int -> Bool} {ys : List AV} (h : Ib t q ys = true) : ∃ x y, ys = [x, y] /\ x.ix = 2 /\ y.ty = t /\ q (intD y.d) = true := by
 match ys, h with
 | [x, y], h =>
  unfold Ib at h
  rw [Bool.and_eq_true, Bool.and_eq_true, beq_iff_eq, beq_iff_eq] at h
  exact ⟨x, y, rfl, h.1, h.2.1, h.2.2⟩
theorem Zx : ∀ args k d, Ib 3 qB args = true -> (some (2, (.slice [] [] : D)) : Option (Nat × D)) = some (k, d) -> qZ Tryz.prog 171 args 67 k d := by
 intro args k d hp hd
 cases hd
 obtain ⟨x, y, rfl, h1, h2, h3⟩ := yG hp
 unfold qB at h3
 rw [Bool.and_eq_true, decide_eq_true_eq, decide_eq_true_eq] at h3
 exact Oj Z8 Yc h1 (by rw [h2]; exact u3) h3.1 h3.2
theorem Zc : ∀ args k d, Ib 3 qB args = true -> (some (2, (.slice [] [] : D)) : Option (Nat × D)) = some (k, d) -> qZ Tryz.prog 172 args 28 k d := by
 intro args k d hp hd
 cases hd
 obtain ⟨x, y, rfl, h1, h2, h3⟩ := yG hp
 unfold qB at h3
 rw [Bool.and_eq_true, decide_eq_true_eq, decide_eq_true_eq] at h3
 exact Oj Z4 VQ h1 (by rw [h2]; exact u3) h3.1 h3.2
theorem Zn : ∀ args k d, Ib 3 xx args = true -> (some (1, (.slice [] [] : D)) : Option (Nat × D)) = some (k, d) -> qZ Tryz.prog 171 args 67 k d := by
 intro args k d hp hd
 cases hd
 obtain ⟨x, y, rfl, h1, h2, h3⟩ := yG hp
 unfold xx at h3
 rw [beq_iff_eq] at h3
 exact N8 Z8 Yc h1 (by rw [h2]; exact u3) h3
theorem Zy : ∀ args k d, Ib 3 xx args = true -> (some (1, (.slice [] [] : D)) : Option (Nat × D)) = some (k, d) -> qZ Tryz.prog 172 args 28 k d := by
 intro args k d hp hd
 cases hd
 obtain ⟨x, y, rfl, h1, h2, h3⟩ := yG hp
 unfold xx at h3
 rw [beq_iff_eq] at h3
 exact N8 Z4 VQ h1 (by rw [h2]; exact u3) h3
def FGP : ML := [(171, 67, Ib 3 qB, fun _ => some (2, .slice [] [])), (172, 28, Ib 3 qB, fun _ => some (2, .slice [] []))]
def FGZ : ML := [(171, 67, Ib 3 xx, fun _ => some (1, .slice [] [])), (172, 28, Ib 3 xx, fun _ => some (1, .slice [] []))]
theorem aar : EnvOK Tryz.prog (ak B2 [] [] FGP) := qM (qM qN Zc) Zx
theorem ZY : EnvOK Tryz.prog (ak B2 [] [] FGZ) := qM (qM qN Zy) Zn
end
/- slices.Concat[[]roadbook/api.Val,roadbook/api.Val] -/
def pz : ay := fun i => if i = 3 then some ([1, 2, 4, 5, 6, 7, 8, 12, 13, 14, 15, 16, 17, 18, 19, 20, 21, 22, 23, 24, 25, 26, 27, 28, 29, 30, 31, 32, 33, 34, 35], [], []) else if i = 11 then some ([0, 1, 2, 3, 4, 5, 7, 8, 9, 10, 11, 12, 13, 14, 15, 16, 17, 18, 19, 20, 21, 22, 23, 24, 28, 29, 30, 31, 32, 33, 34, 35], [24], []) else none
def uL (P : Program) (fn : Func) (N n : Nat) (x0 : D) (v3 : Int) (v11 : Int) : Option AV := aN (preL pz (sub [1, 1, 0, 1, 0, 0] (ag fn))) (az P (ak B2 [] [] FGP) pz N (sub [1, 1, 0, 1, 0, 0] (ag fn))) n ⟨[dat 35 x0, dead, dead, dat 3 (.lit (.int .i64 v3)), dead, dead, dead, dead, dead, dat 35 x0, dat 3 (.lit (.int .i64 ((ae x0).length : Int))), dat 3 (.lit (.int .i64 v11)), dead, dead, dead, dead, dead, dead, dead, dead, dead, dead, dead, dead, dead, dead, dead, dead, dead, dead, dead, dead, dead, dead, dead, dead], bf []⟩ (aG 0 (cZ P (ak B2 [] [] FGP) pz N (sub [1, 1, 1] (ag fn)) (dJ P fn) ))
def qK (P : Program) (fn : Func) (N n : Nat) (x0 : D) (v3 : Int) (v11 : Int) (m0 : Nat) (v27 : Int) (b24 : List D) : Option AV := aN (preL pz (sub [1, 1, 1, 1, 0, 1, 0, 0] (ag fn))) (az P (ak B2 [] [] FGP) pz N (sub [1, 1, 1, 1, 0, 1, 0, 0] (ag fn))) n ⟨[dead, dead, dead, dead, dead, dead, bxp 24 67, dead, dead, dead, dead, dead, dead, dead, dead, dead, dead, dead, dead, dead, dead, dead, dead, dead, dead, dat 35 x0, dat 3 (.lit (.int .i64 ((ae x0).length : Int))), dat 3 (.lit (.int .i64 v27)), dead, dead, dead, dead, dead, dead, dead, dead], bf [(24, some ⟨67, .slice b24 [], 2, none⟩)]⟩ (aG 2 (cZ P (ak B2 [] [] FGP) pz N (sub [1, 1, 1, 1, 1] (ag fn)) (dJ P fn) ))
theorem Cm  (N n : Nat) (x0 : D) (v3 : Int) (v11 : Int) (m0 : Nat) (v27 : Int) (b24 : List D) : qK Tryz.prog Tryz.f137 N (n + 1) x0 v3 v11 m0 v27 b24 =
 bif decide (v27 < ((ae x0).length : Int)) then
  bif (decide (0 <= v27) && decide (v27 < ((ae x0).length : Int))) then
   bif decide ((b24).length + (ae ((ae x0).getD (v27).toNat .nil)).length <= 2147483648) then
    qK Tryz.prog Tryz.f137 N n x0 v3 v11 m0 (IntKind.wrap .i64 (v27 + 1)) (b24 ++ (ae ((ae x0).getD (v27).toNat .nil)))
   else none
  else none
 else some (dat 67 (.slice b24 [])) := by kernel_rfl
theorem Ee  (N n : Nat) (x0 : D) (v3 : Int) (v11 : Int) : uL Tryz.prog Tryz.f137 N (n + 1) x0 v3 v11 =
 bif decide (v11 < ((ae x0).length : Int)) then
  bif (decide (0 <= v11) && decide (v11 < ((ae x0).length : Int))) then
   bif decide ((IntKind.wrap .i64 (v3 + ((ae ((ae x0).getD (v11).toNat .nil)).length : Int))) < 0) then
    none
   else uL Tryz.prog Tryz.f137 N n x0 (IntKind.wrap .i64 (v3 + ((ae ((ae x0).getD (v11).toNat .nil)).length : Int))) (IntKind.wrap .i64 (v11 + 1))
  else none
 else bif qB v3 then
   qK Tryz.prog Tryz.f137 N N x0 v3 v11 n 0 []
  else none := by kernel_rfl
theorem acm (N : Nat) (x0 : D) : aU Tryz.prog (ak B2 [] [] FGP) pz N Tryz.f137 [dat 35 x0] =
 uL Tryz.prog Tryz.f137 N N x0 0 0 := by kernel_rfl
/- slices.Concat[[]roadbook/api.Val,roadbook/api.Val] -/
def pJ : ay := fun i => if i = 3 then some ([1, 2, 4, 5, 6, 7, 8, 12, 13, 14, 15, 16, 17, 18, 19, 20, 21, 22, 23, 24, 25, 26, 27, 28, 29, 30, 31, 32, 33, 34, 35], [], []) else if i = 11 then some ([0, 1, 2, 3, 4, 5, 7, 8, 9, 10, 11, 12, 13, 14, 15, 16, 17, 18, 19, 20, 21, 22, 23, 24, 28, 29, 30, 31, 32, 33, 34, 35], [24], []) else none
def uG (P : Program) (fn : Func) (N n : Nat) (x0 : D) (v3 : Int) (v11 : Int) : Option AV := aN (preL pJ (sub [1, 1, 0, 1, 0, 0] (ag fn))) (az P (ak B2 [] [] FGZ) pJ N (sub [1, 1, 0, 1, 0, 0] (ag fn))) n ⟨[dat 35 x0, dead, dead, dat 3 (.lit (.int .i64 v3)), dead, dead, dead, dead, dead, dat 35 x0, dat 3 (.lit (.int .i64 ((ae x0).length : Int))), dat 3 (.lit (.int .i64 v11)), dead, dead, dead, dead, dead, dead, dead, dead, dead, dead, dead, dead, dead, dead, dead, dead, dead, dead, dead, dead, dead, dead, dead, dead], bf []⟩ (aG 0 (cZ P (ak B2 [] [] FGZ) pJ N (sub [1, 1, 1] (ag fn)) (dJ P fn) ))
def qW (P : Program) (fn : Func) (N n : Nat) (x0 : D) (v3 : Int) (v11 : Int) (m0 : Nat) (v27 : Int) (b24 : List D) : Option AV := aN (preL pJ (sub [1, 1, 1, 1, 0, 1, 0, 0] (ag fn))) (az P (ak B2 [] [] FGZ) pJ N (sub [1, 1, 1, 1, 0, 1, 0, 0] (ag fn))) n ⟨[dead, dead, dead, dead, dead, dead, bxp 24 67, dead, dead, dead, dead, dead, dead, dead, dead, dead, dead, dead, dead, dead, dead, dead, dead, dead, dead, dat 35 x0, dat 3 (.lit (.int .i64 ((ae x0).length : Int))), dat 3 (.lit (.int .i64 v27)), dead, dead, dead, dead, dead, dead, dead, dead], bf [(24, some ⟨67, .slice b24 [], 1, none⟩)]⟩ (aG 2 (cZ P (ak B2 [] [] FGZ) pJ N (sub [1, 1, 1, 1, 1] (ag fn)) (dJ P fn) ))
theorem BL  (N n : Nat) (x0 : D) (v3 : Int) (v11 : Int) (m0 : Nat) (v27 : Int) (b24 : List D) : qW Tryz.prog Tryz.f137 N (n + 1) x0 v3 v11 m0 v27 b24 =
 bif decide (v27 < ((ae x0).length : Int)) then
  bif (decide (0 <= v27) && decide (v27 < ((ae x0).length : Int))) then
   bif decide ((b24).length + (ae ((ae x0).getD (v27).toNat .nil)).length <= 2147483648) then
    qW Tryz.prog Tryz.f137 N n x0 v3 v11 m0 (IntKind.wrap .i64 (v27 + 1)) (b24 ++ (ae ((ae x0).getD (v27).toNat .nil)))
   else none
  else none
 else some (dat 67 (.slice b24 [])) := by kernel_rfl
theorem En  (N n : Nat) (x0 : D) (v3 : Int) (v11 : Int) : uG Tryz.prog Tryz.f137 N (n + 1) x0 v3 v11 =
 bif decide (v11 < ((ae x0).length : Int)) then
  bif (decide (0 <= v11) && decide (v11 < ((ae x0).length : Int))) then
   bif decide ((IntKind.wrap .i64 (v3 + ((ae ((ae x0).getD (v11).toNat .nil)).length : Int))) < 0) then
    none
   else uG Tryz.prog Tryz.f137 N n x0 (IntKind.wrap .i64 (v3 + ((ae ((ae x0).getD (v11).toNat .nil)).length : Int))) (IntKind.wrap .i64 (v11 + 1))
  else none
 else bif xx v3 then
   qW Tryz.prog Tryz.f137 N N x0 v3 v11 n 0 []
  else none := by kernel_rfl
theorem abr (N : Nat) (x0 : D) : aU Tryz.prog (ak B2 [] [] FGZ) pJ N Tryz.f137 [dat 35 x0] =
 uG Tryz.prog Tryz.f137 N N x0 0 0 := by kernel_rfl
/- slices.Concat[[]int,int] -/
def qo : ay := fun i => if i = 3 then some ([1, 2, 4, 5, 6, 7, 8, 12, 13, 14, 15, 16, 17, 18, 19, 20, 21, 22, 23, 24, 25, 26, 27, 28, 29, 30, 31, 32, 33, 34, 35], [], []) else if i = 11 then some ([0, 1, 2, 3, 4, 5, 7, 8, 9, 10, 11, 12, 13, 14, 15, 16, 17, 18, 19, 20, 21, 22, 23, 24, 28, 29, 30, 31, 32, 33, 34, 35], [24], []) else none
def ui (P : Program) (fn : Func) (N n : Nat) (x0 : D) (v3 : Int) (v11 : Int) : Option AV := aN (preL qo (sub [1, 1, 0, 1, 0, 0] (ag fn))) (az P (ak B2 [] [] FGP) qo N (sub [1, 1, 0, 1, 0, 0] (ag fn))) n ⟨[dat 167 x0, dead, dead, dat 3 (.lit (.int .i64 v3)), dead, dead, dead, dead, dead, dat 167 x0, dat 3 (.lit (.int .i64 ((ae x0).length : Int))), dat 3 (.lit (.int .i64 v11)), dead, dead, dead, dead, dead, dead, dead, dead, dead, dead, dead, dead, dead, dead, dead, dead, dead, dead, dead, dead, dead, dead, dead, dead], bf []⟩ (aG 0 (cZ P (ak B2 [] [] FGP) qo N (sub [1, 1, 1] (ag fn)) (dJ P fn) ))
def qV (P : Program) (fn : Func) (N n : Nat) (x0 : D) (v3 : Int) (v11 : Int) (m0 : Nat) (v27 : Int) (b24 : List D) : Option AV := aN (preL qo (sub [1, 1, 1, 1, 0, 1, 0, 0] (ag fn))) (az P (ak B2 [] [] FGP) qo N (sub [1, 1, 1, 1, 0, 1, 0, 0] (ag fn))) n ⟨[dead, dead, dead, dead, dead, dead, bxp 24 28, dead, dead, dead, dead, dead, dead, dead, dead, dead, dead, dead, dead, dead, dead, dead, dead, dead, dead, dat 167 x0, dat 3 (.lit (.int .i64 ((ae x0).length : Int))), dat 3 (.lit (.int .i64 v27)), dead, dead, dead, dead, dead, dead, dead, dead], bf [(24, some ⟨28, .slice b24 [], 2, none⟩)]⟩ (aG 2 (cZ P (ak B2 [] [] FGP) qo N (sub [1, 1, 1, 1, 1] (ag fn)) (dJ P fn) ))
theorem BB  (N n : Nat) (x0 : D) (v3 : Int) (v11 : Int) (m0 : Nat) (v27 : Int) (b24 : List D) : qV Tryz.prog Tryz.f138 N (n + 1) x0 v3 v11 m0 v27 b24 =
 bif decide (v27 < ((ae x0).length : Int)) then
  bif (decide (0 <= v27) && decide (v27 < ((ae x0).length : Int))) then
   bif decide ((b24).length + (ae ((ae x0).getD (v27).toNat .nil)).length <= 2147483648) then
    qV Tryz.prog Tryz.f138 N n x0 v3 v11 m0 (IntKind.wrap .i64 (v27 + 1)) (b24 ++ (ae ((ae x0).getD (v27).toNat .nil)))
   else none
  else none
 else some (dat 28 (.slice b24 [])) := by kernel_rfl
theorem Eo  (N n : Nat) (x0 : D) (v3 : Int) (v11 : Int) : ui Tryz.prog Tryz.f138 N (n + 1) x0 v3 v11 =
 bif decide (v11 < ((ae x0).length : Int)) then
  bif (decide (0 <= v11) && decide (v11 < ((ae x0).length : Int))) then
   bif decide ((IntKind.wrap .i64 (v3 + ((ae ((ae x0).getD (v11).toNat .nil)).length : Int))) < 0) then
    none
   else ui Tryz.prog Tryz.f138 N n x0 (IntKind.wrap .i64 (v3 + ((ae ((ae x0).getD (v11).toNat .nil)).length : Int))) (IntKind.wrap .i64 (v11 + 1))
  else none
 else bif qB v3 then
   qV Tryz.prog Tryz.f138 N N x0 v3 v11 n 0 []
  else none := by kernel_rfl
theorem acJ (N : Nat) (x0 : D) : aU Tryz.prog (ak B2 [] [] FGP) qo N Tryz.f138 [dat 167 x0] =
 ui Tryz.prog Tryz.f138 N N x0 0 0 := by kernel_rfl
/- slices.Concat[[]int,int] -/
def pW : ay := fun i => if i = 3 then some ([1, 2, 4, 5, 6, 7, 8, 12, 13, 14, 15, 16, 17, 18, 19, 20, 21, 22, 23, 24, 25, 26, 27, 28, 29, 30, 31, 32, 33, 34, 35], [], []) else if i = 11 then some ([0, 1, 2, 3, 4, 5, 7, 8, 9, 10, 11, 12, 13, 14, 15, 16, 17, 18, 19, 20, 21, 22, 23, 24, 28, 29, 30, 31, 32, 33, 34, 35], [24], []) else none
def uM (P : Program) (fn : Func) (N n : Nat) (x0 : D) (v3 : Int) (v11 : Int) : Option AV := aN (preL pW (sub [1, 1, 0, 1, 0, 0] (ag fn))) (az P (ak B2 [] [] FGZ) pW N (sub [1, 1, 0, 1, 0, 0] (ag fn))) n ⟨[dat 167 x0, dead, dead, dat 3 (.lit (.int .i64 v3)), dead, dead, dead, dead, dead, dat 167 x0, dat 3 (.lit (.int .i64 ((ae x0).length : Int))), dat 3 (.lit (.int .i64 v11)), dead, dead, dead, dead, dead, dead, dead, dead, dead, dead, dead, dead, dead, dead, dead, dead, dead, dead, dead, dead, dead, dead, dead, dead], bf []⟩ (aG 0 (cZ P (ak B2 [] [] FGZ) pW N (sub [1, 1, 1] (ag fn)) (dJ P fn) ))
def qX (P : Program) (fn : Func) (N n : Nat) (x0 : D) (v3 : Int) (v11 : Int) (m0 : Nat) (v27 : Int) (b24 : List D) : Option AV := aN (preL pW (sub [1, 1, 1, 1, 0, 1, 0, 0] (ag fn))) (az P (ak B2 [] [] FGZ) pW N (sub [1, 1, 1, 1, 0, 1, 0, 0] (ag fn))) n ⟨[dead, dead, dead, dead, dead, dead, bxp 24 28, dead, dead, dead, dead, dead, dead, dead, dead, dead, dead, dead, dead, dead, dead, dead, dead, dead, dead, dat 167 x0, dat 3 (.lit (.int .i64 ((ae x0).length : Int))), dat 3 (.lit (.int .i64 v27)), dead, dead, dead, dead, dead, dead, dead, dead], bf [(24, some ⟨28, .slice b24 [], 1, none⟩)]⟩ (aG 2 (cZ P (ak B2 [] [] FGZ) pW N (sub [1, 1, 1, 1, 1] (ag fn)) (dJ P fn) ))
theorem BZ  (N n : Nat) (x0 : D) (v3 : Int) (v11 : Int) (m0 : Nat) (v27 : Int) (b24 : List D) : qX Tryz.prog Tryz.f138 N (n + 1) x0 v3 v11 m0 v27 b24 =
 bif decide (v27 < ((ae x0).length : Int)) then
  bif (decide (0 <= v27) && decide (v27 < ((ae x0).length : Int))) then
   bif decide ((b24).length + (ae ((ae x0).getD (v27).toNat .nil)).length <= 2147483648) then
    qX Tryz.prog Tryz.f138 N n x0 v3 v11 m0 (IntKind.wrap .i64 (v27 + 1)) (b24 ++ (ae ((ae x0).getD (v27).toNat .nil)))
   else none
  else none
 else some (dat 28 (.slice b24 [])) := by kernel_rfl
theorem Eh  (N n : Nat) (x0 : D) (v3 : Int) (v11 : Int) : uM Tryz.prog Tryz.f138 N (n + 1) x0 v3 v11 =
 bif decide (v11 < ((ae x0).length : Int)) then
  bif (decide (0 <= v11) && decide (v11 < ((ae x0).length : Int))) then
   bif decide ((IntKind.wrap .i64 (v3 + ((ae ((ae x0).getD (v11).toNat .nil)).length : Int))) < 0) then
    none
   else uM Tryz.prog Tryz.f138 N n x0 (IntKind.wrap .i64 (v3 + ((ae ((ae x0).getD (v11).toNat .nil)).length : Int))) (IntKind.wrap .i64 (v11 + 1))
  else none
 else bif xx v3 then
   qX Tryz.prog Tryz.f138 N N x0 v3 v11 n 0 []
  else none := by kernel_rfl
theorem aa7 (N : Nat) (x0 : D) : aU Tryz.prog (ak B2 [] [] FGZ) pW N Tryz.f138 [dat 167 x0] =
 uM Tryz.prog Tryz.f138 N N x0 0 0 := by kernel_rfl
section
set_option maxRecDepth 10000
set_option linter.unusedSimpArgs false
theorem FH {N m0 : Nat} {x0 : D} {v3 v11 : Int} (hl : (ae x0).length <= 1000) (hs : bK (ae x0) <= 1000000) : ∀ (n i : Nat) (acc : List D), i <= (ae x0).length -> (ae x0).length - i < n -> acc = jg ((ae x0).take i) ->
  qK Tryz.prog Tryz.f137 N n x0 v3 v11 m0 (i : Int) acc = some (dat 67 (.slice (jg (ae x0)) []))
 | 0, i, acc, _, h, _ => by omega
 | n + 1, i, acc, hi, h, ha => by
  rw [Cm]
  by_cases hlt : i < (ae x0).length
  ·have w1 : IntKind.wrap .i64 ((i : Int) + 1) = ((i + 1 : Nat) : Int) := by rw [aH (l_in (by omega) (by omega))]; omega
   have b1 := iH (ae x0) (i + 1)
   have b2 := iE hlt
   have b3 : acc.length = bK ((ae x0).take i) := by rw [ha, zk]
   have g1 : decide (acc.length + (ae (ae x0)[i]).length <= 2147483648) = true := by rw [decide_eq_true_eq]; omega
   rw [bG hlt, eQ hlt, Int.toNat_natCast, dA hlt, w1, g1, cond_true, cond_true, cond_true]
   exact FH hl hs n (i + 1) _ (by omega) (by omega) (by rw [ha, tY hlt])
  ·rw [eX hlt, cond_false, ha, List.take_of_length_le (by omega)]
theorem JB {N : Nat} {x0 : D} (hN : (ae x0).length < N) (hl : (ae x0).length <= 1000) (hs : bK (ae x0) <= 1000000) (hg : qB ((bK (ae x0) : Nat) : Int) = true) : ∀ (n i : Nat), i <= (ae x0).length -> (ae x0).length - i < n ->
  uL Tryz.prog Tryz.f137 N n x0 ((bK ((ae x0).take i) : Nat) : Int) (i : Int) = some (dat 67 (.slice (jg (ae x0)) []))
 | 0, i, _, h => by omega
 | n + 1, i, hi, h => by
  rw [Ee]
  by_cases hlt : i < (ae x0).length
  ·have w1 : IntKind.wrap .i64 ((i : Int) + 1) = ((i + 1 : Nat) : Int) := by rw [aH (l_in (by omega) (by omega))]; omega
   have b1 := iH (ae x0) (i + 1)
   have b2 := iE hlt
   have w2 : IntKind.wrap .i64 (((bK ((ae x0).take i) : Nat) : Int) + ((ae (ae x0)[i]).length : Int)) = ((bK ((ae x0).take (i + 1)) : Nat) : Int) := by rw [aH (l_in (by omega) (by omega))]; omega
   have g1 : decide (((bK ((ae x0).take (i + 1)) : Nat) : Int) < 0) = false := by rw [decide_eq_false_iff_not]; omega
   rw [bG hlt, eQ hlt, Int.toNat_natCast, dA hlt, w1, w2, g1, cond_true, cond_true, cond_false]
   exact JB hN hl hs hg n (i + 1) (by omega) (by omega)
  ·rw [eX hlt, cond_false, List.take_of_length_le (by omega), hg, cond_true]
   exact FH hl hs N 0 [] (Nat.zero_le _) (by omega) rfl
theorem Hl {N m0 : Nat} {x0 : D} {v3 v11 : Int} (hl : (ae x0).length <= 1000) (hs : bK (ae x0) <= 1000000) : ∀ (n i : Nat) (acc : List D), i <= (ae x0).length -> (ae x0).length - i < n -> acc = jg ((ae x0).take i) ->
  qW Tryz.prog Tryz.f137 N n x0 v3 v11 m0 (i : Int) acc = some (dat 67 (.slice (jg (ae x0)) []))
 | 0, i, acc, _, h, _ => by omega
 | n + 1, i, acc, hi, h, ha => by
  rw [BL]
  by_cases hlt : i < (ae x0).length
  ·have w1 : IntKind.wrap .i64 ((i : Int) + 1) = ((i + 1 : Nat) : Int) := by rw [aH (l_in (by omega) (by omega))]; omega
   have b1 := iH (ae x0) (i + 1)
   have b2 := iE hlt
   have b3 : acc.length = bK ((ae x0).take i) := by rw [ha, zk]
   have g1 : decide (acc.length + (ae (ae x0)[i]).length <= 2147483648) = true := by rw [decide_eq_true_eq]; omega
   rw [bG hlt, eQ hlt, Int.toNat_natCast, dA hlt, w1, g1, cond_true, cond_true, cond_true]
   exact Hl hl hs n (i + 1) _ (by omega) (by omega) (by rw [ha, tY hlt])
  ·rw [eX hlt, cond_false, ha, List.take_of_length_le (by omega)]
theorem IX {N : Nat} {x0 : D} (hN : (ae x0).length < N) (hl : (ae x0).length <= 1000) (hs : bK (ae x0) <= 1000000) (hg : xx ((bK (ae x0) : Nat) : Int) = true) : ∀ (n i : Nat), i <= (ae x0).length -> (ae x0).length - i < n ->
  uG Tryz.prog Tryz.f137 N n x0 ((bK ((ae x0).take i) : Nat) : Int) (i : Int) = some (dat 67 (.slice (jg (ae x0)) []))
 | 0, i, _, h => by omega
 | n + 1, i, hi, h => by
  rw [En]
  by_cases hlt : i < (ae x0).length
  ·have w1 : IntKind.wrap .i64 ((i : Int) + 1) = ((i + 1 : Nat) : Int) := by rw [aH (l_in (by omega) (by omega))]; omega
   have b1 := iH (ae x0) (i + 1)
   have b2 := iE hlt
   have w2 : IntKind.wrap .i64 (((bK ((ae x0).take i) : Nat) : Int) + ((ae (ae x0)[i]).length : Int)) = ((bK ((ae x0).take (i + 1)) : Nat) : Int) := by rw [aH (l_in (by omega) (by omega))]; omega
   have g1 : decide (((bK ((ae x0).take (i + 1)) : Nat) : Int) < 0) = false := by rw [decide_eq_false_iff_not]; omega
   rw [bG hlt, eQ hlt, Int.toNat_natCast, dA hlt, w1, w2, g1, cond_true, cond_true, cond_false]
   exact IX hN hl hs hg n (i + 1) (by omega) (by omega)
  ·rw [eX hlt, cond_false, List.take_of_length_le (by omega), hg, cond_true]
   exact Hl hl hs N 0 [] (Nat.zero_le _) (by omega) rfl
def e137 : FuncId × TypeId × (List AV -> Bool) × (List AV -> Option D) := (137, 67, jS (q1 fun x => Au (ae x)), ent [35] (f1 fun x => some (.slice (jg (ae x)) [])))
theorem ab3 : FnOK Tryz.prog 137 Tryz.f137 := ⟨Tryz.func137, rfl, by kernel_rfl⟩
theorem ac3 (x : D) : bC Tryz.prog 35 x = x := by kernel_rfl
theorem aav (x : D) : aj Tryz.prog 67 x = dat 67 x := by kernel_rfl
theorem ahc : ∀ args d, e137.2.2.1 args = true -> e137.2.2.2 args = some d -> CallOK Tryz.prog 137 args (aj Tryz.prog 67 d) :=
 N7 ab3 fun x d hq h _ => by
  cases h
  rw [ac3]
  unfold Au at hq
  rw [Bool.and_eq_true, decide_eq_true_eq, decide_eq_true_eq] at hq
  by_cases h0 : bK (ae x) = 0
  ·refine aI hm ZY ab3 ((abr ((ae x).length + 1) x).trans ?_)
   rw [aav]
   have := IX (N := (ae x).length + 1) (x0 := x) (by omega) hq.1 hq.2 (by rw [h0]; rfl) ((ae x).length + 1) 0 (Nat.zero_le _) (by omega)
   exact this
  ·refine aI hm aar ab3 ((acm ((ae x).length + 1) x).trans ?_)
   rw [aav]
   have hg : qB ((bK (ae x) : Nat) : Int) = true := by
    unfold qB
    rw [Bool.and_eq_true, decide_eq_true_eq, decide_eq_true_eq]
    omega
   have := JB (N := (ae x).length + 1) (x0 := x) (by omega) hq.1 hq.2 hg ((ae x).length + 1) 0 (Nat.zero_le _) (by omega)
   exact this
theorem G9 {N m0 : Nat} {x0 : D} {v3 v11 : Int} (hl : (ae x0).length <= 1000) (hs : bK (ae x0) <= 1000000) : ∀ (n i : Nat) (acc : List D), i <= (ae x0).length -> (ae x0).length - i < n -> acc = jg ((ae x0).take i) ->
  qV Tryz.prog Tryz.f138 N n x0 v3 v11 m0 (i : Int) acc = some (dat 28 (.slice (jg (ae x0)) []))
 | 0, i, acc, _, h, _ => by omega
 | n + 1, i, acc, hi, h, ha => by
  rw [BB]
  by_cases hlt : i < (ae x0).length
  ·have w1 : IntKind.wrap .i64 ((i : Int) + 1) = ((i + 1 : Nat) : Int) := by rw [aH (l_in (by omega) (by omega))]; omega
   have b1 := iH (ae x0) (i + 1)
   have b2 := iE hlt
   have b3 : acc.length = bK ((ae x0).take i) := by rw [ha, zk]
   have g1 : decide (acc.length + (ae (ae x0)[i]).length <= 2147483648) = true := by rw [decide_eq_true_eq]; omega
   rw [bG hlt, eQ hlt, Int.toNat_natCast, dA hlt, w1, g1, cond_true, cond_true, cond_true]
   exact G9 hl hs n (i + 1) _ (by omega) (by omega) (by rw [ha, tY hlt])
  ·rw [eX hlt, cond_false, ha, List.take_of_length_le (by omega)]
theorem I7 {N : Nat} {x0 : D} (hN : (ae x0).length < N) (hl : (ae x0).length <= 1000) (hs : bK (ae x0) <= 1000000) (hg : qB ((bK (ae x0) : Nat) : Int) = true) : ∀ (n i : Nat), i <= (ae x0).length -> (ae x0).length - i < n ->
  ui Tryz.prog Tryz.f138 N n x0 ((bK ((ae x0).take i) : Nat) : Int) (i : Int) = some (dat 28 (.slice (jg (ae x0)) []))
 | 0, i, _, h => by omega
 | n + 1, i, hi, h => by
  rw [Eo]
  by_cases hlt : i < (ae x0).length
  ·have w1 : IntKind.wrap .i64 ((i : Int) + 1) = ((i + 1 : Nat) : Int) := by rw [aH (l_in (by omega) (by omega))]; omega
   have b1 := iH (ae x0) (i + 1)
   have b2 := iE hlt
   have w2 : IntKind.wrap .i64 (((bK ((ae x0).take i) : Nat) : Int) + ((ae (ae x0)[i]).length : Int)) = ((bK ((ae x0).take (i + 1)) : Nat) : Int) := by rw [aH (l_in (by omega) (by omega))]; omega
   have g1 : decide (((bK ((ae x0).take (i + 1)) : Nat) : Int) < 0) = false := by rw [decide_eq_false_iff_not]; omega
   rw [bG hlt, eQ hlt, Int.toNat_natCast, dA hlt, w1, w2, g1, cond_true, cond_true, cond_false]
   exact I7 hN hl hs hg n (i + 1) (by omega) (by omega)
  ·rw [eX hlt, cond_false, List.take_of_length_le (by omega), hg, cond_true]
   exact G9 hl hs N 0 [] (Nat.zero_le _) (by omega) rfl
theorem GI {N m0 : Nat} {x0 : D} {v3 v11 : Int} (hl : (ae x0).length <= 1000) (hs : bK (ae x0) <= 1000000) : ∀ (n i : Nat) (acc : List D), i <= (ae x0).length -> (ae x0).length - i < n -> acc = jg ((ae x0).take i) ->
  qX Tryz.prog Tryz.f138 N n x0 v3 v11 m0 (i : Int) acc = some (dat 28 (.slice (jg (ae x0)) []))
 | 0, i, acc, _, h, _ => by omega
 | n + 1, i, acc, hi, h, ha => by
  rw [BZ]
  by_cases hlt : i < (ae x0).length
  ·have w1 : IntKind.wrap .i64 ((i : Int) + 1) = ((i + 1 : Nat) : Int) := by rw [aH (l_in (by omega) (by omega))]; omega
   have b1 := iH (ae x0) (i + 1)
   have b2 := iE hlt
   have b3 : acc.length = bK ((ae x0).take i) := by rw [ha, zk]
   have g1 : decide (acc.length + (ae (ae x0)[i]).length <= 2147483648) = true := by rw [decide_eq_true_eq]; omega
   rw [bG hlt, eQ hlt, Int.toNat_natCast, dA hlt, w1, g1, cond_true, cond_true, cond_true]
   exact GI hl hs n (i + 1) _ (by omega) (by omega) (by rw [ha, tY hlt])
  ·rw [eX hlt, cond_false, ha, List.take_of_length_le (by omega)]
theorem Jw {N : Nat} {x0 : D} (hN : (ae x0).length < N) (hl : (ae x0).length <= 1000) (hs : bK (ae x0) <= 1000000) (hg : xx ((bK (ae x0) : Nat) : Int) = true) : ∀ (n i : Nat), i <= (ae x0).length -> (ae x0).length - i < n ->
  uM Tryz.prog Tryz.f138 N n x0 ((bK ((ae x0).take i) : Nat) : Int) (i : Int) = some (dat 28 (.slice (jg (ae x0)) []))
 | 0, i, _, h => by omega
 | n + 1, i, hi, h => by
  rw [Eh]
  by_cases hlt : i < (ae x0).length
  ·have w1 : IntKind.wrap .i64 ((i : Int) + 1) = ((i + 1 : Nat) : Int) := by rw [aH (l_in (by omega) (by omega))]; omega
   have b1 := iH (ae x0) (i + 1)
   have b2 := iE hlt
   have w2 : IntKind.wrap .i64 (((bK ((ae x0).take i) : Nat) : Int) + ((ae (ae x0)[i]).length : Int)) = ((bK ((ae x0).take (i + 1)) : Nat) : Int) := by rw [aH (l_in (by omega) (by omega))]; omega
   have g1 : decide (((bK ((ae x0).take (i + 1)) : Nat) : Int) < 0) = false := by rw [decide_eq_false_iff_not]; omega
   rw [bG hlt, eQ hlt, Int.toNat_natCast, dA hlt, w1, w2, g1, cond_true, cond_true, cond_false]
   exact Jw hN hl hs hg n (i + 1) (by omega) (by omega)
  ·rw [eX hlt, cond_false, List.take_of_length_le (by omega), hg, cond_true]
   exact GI hl hs N 0 [] (Nat.zero_le _) (by omega) rfl
def e138 : FuncId × TypeId × (List AV -> Bool) × (List AV -> Option D) := (138, 28, jS (q1 fun x => Au (ae x)), ent [167] (f1 fun x => some (.slice (jg (ae x)) [])))
theorem acG : FnOK Tryz.prog 138 Tryz.f138 := ⟨Tryz.func138, rfl, by kernel_rfl⟩
theorem aeu (x : D) : bC Tryz.prog 167 x = x := by kernel_rfl
theorem aah (x : D) : aj Tryz.prog 28 x = dat 28 x := by kernel_rfl
theorem c138 : ∀ args d, e138.2.2.1 args = true -> e138.2.2.2 args = some d -> CallOK Tryz.prog 138 args (aj Tryz.prog 28 d) :=
 N7 acG fun x d hq h _ => by
  cases h
  rw [aeu]
  unfold Au at hq
  rw [Bool.and_eq_true, decide_eq_true_eq, decide_eq_true_eq] at hq
  by_cases h0 : bK (ae x) = 0
  ·refine aI hm ZY acG ((aa7 ((ae x).length + 1) x).trans ?_)
   rw [aah]
   have := Jw (N := (ae x).length + 1) (x0 := x) (by omega) hq.1 hq.2 (by rw [h0]; rfl) ((ae x).length + 1) 0 (Nat.zero_le _) (by omega)
   exact this
  ·refine aI hm aar acG ((acJ ((ae x).length + 1) x).trans ?_)
   rw [aah]
   have hg : qB ((bK (ae x) : Nat) : Int) = true := by
    unfold qB
    rw [Bool.and_eq_true, decide_eq_true_eq, decide_eq_true_eq]
    omega
   have := I7 (N := (ae x).length + 1) (x0 := x) (by omega) hq.1 hq.2 hg ((ae x).length + 1) 0 (Nat.zero_le _) (by omega)
   exact this
def C2 : Tab := e137 :: e138 :: afi :: B2
theorem ae3 : EnvOK Tryz.prog (ak C2 [] [] []) := aO (aO (ah qN agU) c138) ahc
end
/- roadbook/bag.Cross -/
def uS : ay := fun i => if i = 5 then some ([0, 1, 5, 7, 8, 9, 10, 11, 12, 13, 14, 15, 16, 17, 18, 19, 20, 21, 22, 23, 24, 25, 26, 27, 28, 29, 30, 31, 32, 33, 34, 35, 36, 37, 38, 39, 40, 41, 42, 43, 44, 45, 49, 50, 51, 52, 53, 54, 55, 56, 57, 58, 59, 60, 61, 62, 63, 64, 65, 66, 67, 68, 69, 70, 71, 72, 73, 74, 75], [2, 3, 4, 44], []) else if i = 8 then some ([0, 1, 5, 7, 9, 10, 11, 12, 13, 14, 15, 16, 17, 18, 19, 20, 21, 22, 23, 24, 25, 26, 27, 28, 29, 30, 31, 32, 33, 34, 35, 36, 37, 38, 39, 40, 41, 42, 43, 44, 45, 49, 50, 51, 52, 56, 57, 58, 59, 60, 61, 62, 63, 64, 65, 66, 67, 68, 69, 70, 71, 72, 73, 74, 75], [2, 3, 4, 44], []) else none
def yV (P : Program) (fn : Func) (N n : Nat) (x0 : D) (x1 : D) (v48 : Int) (b44 : List D) : Option AV := aN (preL uS (sub [1, 1, 1, 0, 1, 0, 0] (ag fn))) (az P (ak C2 [] [] []) uS N (sub [1, 1, 1, 0, 1, 0, 0] (ag fn))) n ⟨[dead, dead, bxp 2 37, bxp 3 37, bxp 4 37, dead, bxp 44 35, dead, dead, dead, dead, dead, dead, dead, dead, dead, dead, dead, dead, dead, dead, dead, dead, dead, dead, dead, dead, dead, dead, dead, dead, dead, dead, dead, dead, dead, dead, dead, dead, dead, dead, dead, dead, dead, dead, dead, dat 35 (af x0 1), dat 3 (.lit (.int .i64 ((ae (af x0 1)).length : Int))), dat 3 (.lit (.int .i64 v48)), dead, dead, dead, dead, dead, dead, dead, dead, dead, dead, dead, dead, dead, dead, dead, dead, dead, dead, dead, dead, dead, dead, dead, dead, dead, dead, dead], bf [(2, some ⟨37, x0, 0, none⟩), (3, some ⟨37, x1, 0, none⟩), (4, some ⟨37, .agg [.slice [] [], .slice [] []], 0, none⟩), (44, some ⟨35, .slice b44 [], 2, none⟩)]⟩ (aG 0 (cZ P (ak C2 [] [] []) uS N (sub [1, 1, 1, 1] (ag fn)) (dJ P fn) ))
def EW (P : Program) (fn : Func) (N n : Nat) (x0 : D) (x1 : D) (v48 : Int) (b44 : List D) (m0 : Nat) (v55 : Int) (b44q : List D) : Option AV := aN (preL uS (sub [1, 1, 1, 0, 1, 0, 0, 1, 1, 0, 0, 1, 1, 0, 0] (ag fn))) (az P (ak C2 [] [] []) uS N (sub [1, 1, 1, 0, 1, 0, 0, 1, 1, 0, 0, 1, 1, 0, 0] (ag fn))) n ⟨[dead, dead, bxp 2 37, bxp 3 37, bxp 4 37, dead, bxp 44 35, dead, dat 67 ((ae (af x0 1)).getD (v48).toNat .nil), dead, dead, dead, dead, dead, dead, dead, dead, dead, dead, dead, dead, dead, dead, dead, dead, dead, dead, dead, dead, dead, dead, dead, dead, dead, dead, dead, dead, dead, dead, dead, dead, dead, dead, dead, dead, dead, dat 35 (af x0 1), dat 3 (.lit (.int .i64 ((ae (af x0 1)).length : Int))), dat 3 (.lit (.int .i64 v48)), dead, dead, dead, dead, dat 35 (af x1 1), dat 3 (.lit (.int .i64 ((ae (af x1 1)).length : Int))), dat 3 (.lit (.int .i64 v55)), dead, dead, dead, dead, dead, dead, dead, dead, dead, dead, dead, dead, dead, dead, dead, dead, dead, dead, dead, dead], bf [(2, some ⟨37, x0, 0, none⟩), (3, some ⟨37, x1, 0, none⟩), (4, some ⟨37, .agg [.slice [] [], .slice [] []], 0, none⟩), (44, some ⟨35, .slice b44q [], 2, none⟩)]⟩ (aG 2 (aG 1 (cZ P (ak C2 [] [] []) uS N (sub [1, 1, 1, 0, 1, 0, 0, 1, 1, 1] (ag fn)) (OY (fun s => aN (preL uS (sub [1, 1, 1, 0, 1, 0, 0] (ag fn))) (az P (ak C2 [] [] []) uS N (sub [1, 1, 1, 0, 1, 0, 0] (ag fn))) m0 ((preL uS (sub [1, 1, 1, 0, 1, 0, 0] (ag fn))) s) (aG 0 (cZ P (ak C2 [] [] []) uS N (sub [1, 1, 1, 1] (ag fn)) (dJ P fn) ))) (aG 0 (cZ P (ak C2 [] [] []) uS N (sub [1, 1, 1, 1] (ag fn)) (dJ P fn) ))) )))
theorem KA  (N n : Nat) (x0 : D) (x1 : D) (v48 : Int) (b44 : List D) (m0 : Nat) (v55 : Int) (b44q : List D) : EW Tryz.prog Tryz.f94 N (n + 1) x0 x1 v48 b44 m0 v55 b44q =
 bif decide (v55 < ((ae (af x1 1)).length : Int)) then
  bif (decide (0 <= v55) && decide (v55 < ((ae (af x1 1)).length : Int))) then
   bif Au [(ae (af x0 1)).getD (v48).toNat .nil, (ae (af x1 1)).getD (v55).toNat .nil] then
    bif decide ((b44q).length + 1 <= 2147483648) then
     EW Tryz.prog Tryz.f94 N n x0 x1 v48 b44 m0 (IntKind.wrap .i64 (v55 + 1)) (b44q ++ [.slice (jg [(ae (af x0 1)).getD (v48).toNat .nil, (ae (af x1 1)).getD (v55).toNat .nil]) []])
    else none
   else none
  else none
 else yV Tryz.prog Tryz.f94 N m0 x0 x1 (IntKind.wrap .i64 (v48 + 1)) b44q := by kernel_rfl
theorem L8  (N n : Nat) (x0 : D) (x1 : D) (v48 : Int) (b44 : List D) : yV Tryz.prog Tryz.f94 N (n + 1) x0 x1 v48 b44 =
 bif decide (v48 < ((ae (af x0 1)).length : Int)) then
  bif (decide (0 <= v48) && decide (v48 < ((ae (af x0 1)).length : Int))) then
   EW Tryz.prog Tryz.f94 N N x0 x1 v48 b44 n 0 b44
  else none
 else bif Au [af x0 0, af x1 0] then
   some (aL [37, 4] (.agg [.agg [.slice (jg [af x0 0, af x1 0]) [], .slice b44 []], .lit (.bool true)]))
  else none := by kernel_rfl
theorem t94 (N : Nat) (x0 : D) (x1 : D) : aU Tryz.prog (ak C2 [] [] []) uS N Tryz.f94 [dat 37 x0, dat 37 x1] =
 bif ((!(bn x0)) == false) then
  bif ((!(bn x1)) == false) then
   bif ((sU (ae (af x0 0)) (ae (af x1 0))) == false) then
    bif decide ((IntKind.wrap .i64 (((ae (af x0 1)).length : Int) * ((ae (af x1 1)).length : Int))) > 5000) then
     some (aL [37, 4] (.agg [.agg [.slice [] [], .slice [] []], .lit (.bool false)]))
    else bif (decide ((0 : Int) <= (IntKind.wrap .i64 (((ae (af x0 1)).length : Int) * ((ae (af x1 1)).length : Int)))) && decide (0 <= (0 : Int)) && decide ((IntKind.wrap .i64 (((ae (af x0 1)).length : Int) * ((ae (af x1 1)).length : Int))) <= 2147483648)) then
      yV Tryz.prog Tryz.f94 N N x0 x1 0 []
     else none
   else some (aL [37, 4] (.agg [.agg [.slice [] [], .slice [] []], .lit (.bool false)]))
  else some (aL [37, 4] (.agg [.agg [.slice [] [], .slice [] []], .lit (.bool false)]))
 else some (aL [37, 4] (.agg [.agg [.slice [] [], .slice [] []], .lit (.bool false)])) := by kernel_rfl
section
set_option maxRecDepth 10000
set_option linter.unusedSimpArgs false
theorem RI {x y : D} (hx : (ae x).length <= 5000) (hy : (ae y).length <= 5000) : Au [x, y] = true := by
 unfold Au
 rw [PI, Bool.and_eq_true, decide_eq_true_eq, decide_eq_true_eq]
 exact ⟨by simp, by omega⟩
section
variable {cs1 cs2 xs ys : List D} {N : Nat} (hx : ∀ x ∈ xs, (ae x).length <= 5000) (hy : ∀ y ∈ ys, (ae y).length <= 5000) (hl : xs.length <= 5000) (hm : ys.length <= 5000)
include hx hy hm hl
theorem NR {i m0 : Nat} {b44 : List D} (hi : i < xs.length) : ∀ (n j : Nat) (acc : List D), j <= ys.length -> ys.length - j < n -> acc.length + (ys.length - j) <= 5000 ->
  EW Tryz.prog Tryz.f94 N n (aX cs1 xs) (aX cs2 ys) (i : Int) b44 m0 (j : Int) acc = yV Tryz.prog Tryz.f94 N m0 (aX cs1 xs) (aX cs2 ys) ((i + 1 : Nat) : Int) (acc ++ (ys.drop j).map (Gl xs[i]))
 | 0, j, acc, _, h, _ => by omega
 | n + 1, j, acc, hj, h, ha => by
  rw [KA, tZ, tZ]
  by_cases hlt : j < ys.length
  ·have w1 : IntKind.wrap .i64 ((j : Int) + 1) = ((j + 1 : Nat) : Int) := by rw [aH (l_in (by omega) (by omega))]; omega
   have g1 : decide (acc.length + 1 <= 2147483648) = true := by rw [decide_eq_true_eq]; omega
   rw [bG hlt, eQ hlt, Int.toNat_natCast, Int.toNat_natCast, dA hlt, dA hi, w1, g1, RI (hx _ (List.getElem_mem hi)) (hy _ (List.getElem_mem hlt)), O5, cond_true, cond_true, cond_true, cond_true]
   rw [NR hi n (j + 1) _ (by omega) (by omega) (by simp; omega), List.drop_eq_getElem_cons hlt, List.map_cons, List.append_assoc]
   rfl
  ·have w1 : IntKind.wrap .i64 ((i : Int) + 1) = ((i + 1 : Nat) : Int) := by rw [aH (l_in (by omega) (by omega))]; omega
   rw [eX hlt, cond_false, w1, List.drop_of_length_le (by omega), List.map_nil, List.append_nil]
theorem JA (hN : ys.length < N) (hc1 : cs1.length <= 5000) (hc2 : cs2.length <= 5000) : ∀ (n i : Nat) (acc : List D), i <= xs.length -> xs.length - i < n -> acc.length + (xs.length - i) * ys.length <= 5000 ->
  yV Tryz.prog Tryz.f94 N n (aX cs1 xs) (aX cs2 ys) (i : Int) acc = some (aL [37, 4] (.agg [aX (cs1 ++ cs2) (acc ++ jK (xs.drop i) ys), .lit (.bool true)]))
 | 0, i, acc, _, h, _ => by omega
 | n + 1, i, acc, hi, h, ha => by
  rw [L8, tZ]
  by_cases hlt : i < xs.length
  ·have hk : xs.length - i = (xs.length - (i + 1)) + 1 := by omega
   rw [hk, Nat.succ_mul] at ha
   rw [bG hlt, eQ hlt, cond_true, cond_true]
   refine (NR hx hy hl hm hlt N 0 acc (Nat.zero_le _) (by omega) (by omega)).trans ?_
   rw [List.drop_zero, JA hN hc1 hc2 n (i + 1) _ (by omega) (by omega) (by rw [List.length_append, List.length_map]; omega), List.drop_eq_getElem_cons hlt]
   have e1 : jK (xs[i] :: xs.drop (i + 1)) ys = ys.map (Gl xs[i]) ++ jK (xs.drop (i + 1)) ys := by unfold jK; rw [List.flatMap_cons]
   rw [e1, List.append_assoc]
  ·have e1 : Au [af (aX cs1 xs) 0, af (aX cs2 ys) 0] = true := RI (x := af (aX cs1 xs) 0) (y := af (aX cs2 ys) 0) hc1 hc2
   rw [eX hlt, cond_false, e1, cond_true, O5, List.drop_of_length_le (by omega)]
   have e2 : jK [] ys = [] := rfl
   rw [e2, List.append_nil]
   rfl
end
def e94 : FuncId × TypeId × (List AV -> Bool) × (List AV -> Option D) := (94, 43, yes, ent [37, 37] (f2 fun x y => some (.agg [jq x y, .lit (.bool (jL x y))])))
theorem k94 : FnOK Tryz.prog 94 Tryz.f94 := ⟨Tryz.func94, rfl, by kernel_rfl⟩
theorem c94 : ∀ args d, e94.2.2.2 args = some d -> CallOK Tryz.prog 94 args (aj Tryz.prog 43 d) :=
 gB k94 fun x y d h ⟨_, hx⟩ ⟨_, hy⟩ => by
  cases h
  rw [nB, nB]
  obtain ⟨cs, rs, rfl, _, _, _, _⟩ := tyB hx
  obtain ⟨cs', rs', rfl, _, _, _, _⟩ := tyB hy
  refine aI hm ae3 k94 ((t94 (rs.length + rs'.length + 1) (aX cs rs) (aX cs' rs')).trans ?_)
  rw [UI, tZ, tZ, PV, PV]
  have ho : jL (aX cs rs) (aX cs' rs') = (bn (aX cs rs) && (bn (aX cs' rs') && (!meetB cs cs' && decide (rs.length * rs'.length <= 5000)))) := rfl
  unfold jq
  rw [ho]
  cases h1 : bn (aX cs rs) with
  | false => rfl
  | true =>
   cases h2 : bn (aX cs' rs') with
   | false => rfl
   | true =>
    cases h3 : sU cs cs' with
    | true => rfl
    | false =>
     have m1 := yL h1
     have m2 := yL h2
     have n1 := m1.n
     have n2 := m2.n
     have f1 : cs.length <= 16 := qj (by unfold bn at h1; rw [Bool.and_eq_true, Bool.and_eq_true] at h1; exact h1.1.1)
     have f2 : cs'.length <= 16 := qj (by unfold bn at h2; rw [Bool.and_eq_true, Bool.and_eq_true] at h2; exact h2.1.1)
     have hp : rs.length * rs'.length <= 5000 * 5000 := Nat.mul_le_mul n1 n2
     have w1 : IntKind.wrap .i64 ((rs.length : Int) * (rs'.length : Int)) = ((rs.length * rs'.length : Nat) : Int) := by
      rw [<- Int.natCast_mul, aH (l_in (by omega) (by omega))]
     rw [w1]
     by_cases h4 : rs.length * rs'.length <= 5000
     ·have g1 : decide (((rs.length * rs'.length : Nat) : Int) > 5000) = false := by rw [decide_eq_false_iff_not]; omega
      have g2 : (decide ((0 : Int) <= ((rs.length * rs'.length : Nat) : Int)) && decide (0 <= (0 : Int)) && decide (((rs.length * rs'.length : Nat) : Int) <= 2147483648)) = true := by
       simp only [Bool.and_eq_true, decide_eq_true_eq]; omega
      rw [g1, g2, decide_eq_true h4]
      have key := JA (cs1 := cs) (cs2 := cs') (xs := rs) (ys := rs') (N := rs.length + rs'.length + 1) (fun x hx => by have := m1.l x hx; omega) (fun y hy => by have := m2.l y hy; omega) n1 n2 (by omega) (by omega) (by omega) (rs.length + rs'.length + 1) 0 [] (Nat.zero_le _) (by omega) (by simpa using h4)
      simp only [Bool.not_true, Bool.not_false, beq_self_eq_true, cond_true, cond_false, Bool.and_self]
      exact key
     ·have g1 : decide (((rs.length * rs'.length : Nat) : Int) > 5000) = true := by rw [decide_eq_true_eq]; omega
      rw [g1, decide_eq_false h4]
      rfl
end
end Go.Proofs.YtpceahbengfjeaaGreatDoor
