/- Trees of functions, and lemmas. Nothing here is trusted. -/
import Derived.Test.YtpceahbengfjeaaGreatDoorZ38
import Derived.Test.YtpceahbengfjeaaGreatDoorZ35
import Derived.Test.YtpceahbengfjeaaGreatDoorZ30
import Derived.Test.YtpceahbengfjeaaGreatDoorZ28
import Derived.Test.YtpceahbengfjeaaGreatDoorZ36
import Derived.Test.YtpceahbengfjeaaGreatDoorZ29
namespace Go.Proofs.YtpceahbengfjeaaGreatDoor
open Go.Ev
set_option linter.unusedVariables false
set_option maxRecDepth 10000
def M0 : Tab := e30 :: e31 :: e27 :: e94 :: e46 :: e25 :: e56 :: e24 :: Dn.e135 :: Dn.e89 :: X.e32 :: e37 :: Dn.e34 :: e20 :: e33 :: []
theorem Pz : EnvOK Tryz.prog (ak M0 [] [] []) :=
 ah (aO (ah (ah (ah (aO (ah (aO (ah (ah (ah (ah (ah (ah (ah CQ c33) c20) Dn.c34) c37) X.c32) Dn.c89) Dn.c135) c24) c56) c25) c46) c94) c27) c31) c30
/- roadbook/means.hold -/
def aeG : ay := fun _ =>  none
theorem t40 (N : Nat) (x0 : Bool) : aU Tryz.prog (ak M0 [] [] []) aeG N Tryz.f40 [dat 4 (.lit (.bool x0))] =
 bif (!x0) then
  none
 else some (aL [] (.agg [])) := by kernel_rfl
/- roadbook/means.asks -/
def aet : ay := fun _ =>  none
theorem t41 (N : Nat) (x0 : D) (x1 : D) (x2 : D) : aU Tryz.prog (ak M0 [] [] []) aet N Tryz.f41 [dat 24 x0, dat 27 x1, dat 31 x2] =
 bif ((HY x0 x2) == true) then
  some (dat 4 (.lit (.bool (xC x0 x1))))
 else some (dat 4 (.lit (.bool false))) := by kernel_rfl
/- roadbook/means.isOf -/
/- roadbook/means.at -/
/- roadbook/means.Finish -/
def adp : ay := fun _ =>  none
theorem t16 (N : Nat) (x0 : D) (x1 : D) : aU Tryz.prog (ak M0 [] [] []) adp N Tryz.f16 [dat 31 x0, dat 37 x1] =
 bif ((intD (af x0 2)) != (-1)) then
  some (aL [37, 4] (.agg [eF x1 (intD (af x0 2)) (ae (af x0 3)), .lit (.bool (dO x1 (intD (af x0 2)) (ae (af x0 3))))]))
 else some (aL [37, 4] (.agg [gI x1 (ae (af x0 4)), .lit (.bool (gy x1 (ae (af x0 4))))])) := by kernel_rfl
/- roadbook/roadbooklaw03.Far -/
def ad9 : ay := fun _ =>  none
theorem t13 (N : Nat) (x0 : D) (x1 : Int) : aU Tryz.prog (ak M0 [] [] []) ad9 N Tryz.f13 [dat 37 x0, dat 3 (.lit (.int .i64 x1))] =
 bif lq x0 x1 then
  some (dat 3 (.lit (.int .i64 0)))
 else some (dat 3 (.lit (.int .i64 1))) := by kernel_rfl
/- roadbook/roadbooklaw04.Far -/
/- roadbook/roadbooklaw05.Far -/
/- roadbook/roadbooklaw07.Light -/
section
set_option linter.unusedSimpArgs false
theorem tX (x : D) : bD Tryz.prog 24 x = x := by kernel_rfl
theorem Dz (x : D) : bD Tryz.prog 27 x = x := by kernel_rfl
theorem xX (x : D) : bD Tryz.prog 31 x = x := by kernel_rfl
theorem mU (x : D) : aj Tryz.prog 0 x = aL [] x := by kernel_rfl
def e40 : FuncId × TypeId × (List AV -> Bool) × (List AV -> Option D) := (40, 0, jU (q1 fun x => gu x), ent [4] (f1 fun _ => some (.agg [])))
theorem k40 : FnOK Tryz.prog 40 Tryz.f40 := ⟨Tryz.func40, rfl, by kernel_rfl⟩
theorem c40 : ∀ args d, e40.2.2.1 args = true -> e40.2.2.2 args = some d -> CallOK Tryz.prog 40 args (aj Tryz.prog 0 d) :=
 Oa k40 fun x d hq h _ => by
  cases h
  rw [n4]
  refine aI hm Pz k40 ((t40 1 (gu x)).trans ?_)
  rw [mU, show gu x = true from hq]
  rfl
def e41 : FuncId × TypeId × (List AV -> Bool) × (List AV -> Option D) := (41, 4, yes, ent [24, 27, 31] (f3 fun x y z => some (.lit (.bool (iR x y z)))))
theorem k41 : FnOK Tryz.prog 41 Tryz.f41 := ⟨Tryz.func41, rfl, by kernel_rfl⟩
theorem c41 : ∀ args d, e41.2.2.2 args = some d -> CallOK Tryz.prog 41 args (aj Tryz.prog 4 d) :=
 O7 k41 fun x y z d h _ _ _ => by
  cases h
  rw [tX, Dz, xX]
  refine aI hm Pz k41 ((t41 1 x y z).trans ?_)
  rw [m4]
  unfold iR
  cases HY x z <;> rfl
def e16 : FuncId × TypeId × (List AV -> Bool) × (List AV -> Option D) := (16, 43, yes, ent [31, 37] (f2 fun x y => some (.agg [gp x y, .lit (.bool (gB x y))])))
theorem k16 : FnOK Tryz.prog 16 Tryz.f16 := ⟨Tryz.func16, rfl, by kernel_rfl⟩
theorem c16 : ∀ args d, e16.2.2.2 args = some d -> CallOK Tryz.prog 16 args (aj Tryz.prog 43 d) :=
 gD k16 fun x y d h _ _ => by
  cases h
  rw [xX, nB]
  refine aI hm Pz k16 ((t16 1 x y).trans ?_)
  rw [Ua]
  unfold gp gB qBy
  cases (intD (af x 2) != -1) <;> rfl
theorem aaS (b : Bool) : (bif b then (some (dat 3 (.lit (.int .i64 0))) : Option AV) else some (dat 3 (.lit (.int .i64 1)))) = some (dat 3 (.lit (.int .i64 (Zd b)))) := by cases b <;> rfl
def e13 : FuncId × TypeId × (List AV -> Bool) × (List AV -> Option D) := (13, 3, yes, ent [37, 3] (f2 fun x y => some (.lit (.int .i64 (Zd (lq x (intD y)))))))
theorem k13 : FnOK Tryz.prog 13 Tryz.f13 := ⟨Tryz.func13, rfl, by kernel_rfl⟩
theorem c13 : ∀ args d, e13.2.2.2 args = some d -> CallOK Tryz.prog 13 args (aj Tryz.prog 3 d) :=
 gD k13 fun x y d h _ _ => by
  cases h
  rw [nB, n3]
  refine aI hm Pz k13 ((t13 1 x (intD y)).trans ?_)
  rw [m3]
  exact aaS _
def M1 : Tab := e40 :: e41 :: e16 :: e13 :: M0
theorem aas : EnvOK Tryz.prog (bT M1 []) := aO (ah (ah (ah Pz c13) c16) c41) c40
end
/- roadbook/means.must -/
def aff : ay := fun _ =>  none
theorem t50 (N : Nat) (x0 : D) (x1 : Bool) : aU Tryz.prog (ak M1 [] [] []) aff N Tryz.f50 [dat 37 x0, dat 4 (.lit (.bool x1))] =
 bif x1 then
  some (dat 37 x0)
 else none := by kernel_rfl
/- roadbook/roadbooklaw07.few -/
section
set_option linter.unusedSimpArgs false
def e50 : FuncId × TypeId × (List AV -> Bool) × (List AV -> Option D) := (50, 37, jU (q2 fun _ y => gu y), ent [37, 4] (f2 fun x _ => some x))
theorem k50 : FnOK Tryz.prog 50 Tryz.f50 := ⟨Tryz.func50, rfl, by kernel_rfl⟩
theorem c50 : ∀ args d, e50.2.2.1 args = true -> e50.2.2.2 args = some d -> CallOK Tryz.prog 50 args (aj Tryz.prog 37 d) :=
 qG k50 fun x y d hq h _ _ => by
  cases h
  rw [nB, n4]
  refine aI hm aas k50 ((t50 1 x (gu y)).trans ?_)
  rw [mB, show gu y = true from hq]
  rfl
def M2 : Tab := e50 :: M1
theorem aay : EnvOK Tryz.prog (bT M2 []) := aO aas c50
end
/- roadbook/means.occurrence -/
def aeC : ay := fun _ =>  none
theorem t92 (N : Nat) (x0 : D) (x1 : D) (x2 : D) (x3 : Int) : aU Tryz.prog (ak M2 [] [] []) aeC N Tryz.f92 [dat 24 x0, dat 27 x1, dat 31 x2, dat 3 (.lit (.int .i64 x3))] =
 bif (decide (0 <= x3) && decide (x3 < ((ae (af x2 0)).length : Int))) then
  bif (Ip x0 x1 (intD ((ae (af x2 0)).getD (x3).toNat .nil)) x3) then
   some (dat 37 (Jv x0 x1 (intD ((ae (af x2 0)).getD (x3).toNat .nil)) x3))
  else none
 else none := by kernel_rfl
section
set_option linter.unusedSimpArgs false
def e92 : FuncId × TypeId × (List AV -> Bool) × (List AV -> Option D) := (92, 37, jU (q4 fun x y z u => FP x y z (intD u)), ent [24, 27, 31, 3] (f4 fun x y z u => some (lX x y z (intD u))))
theorem k92 : FnOK Tryz.prog 92 Tryz.f92 := ⟨Tryz.func92, rfl, by kernel_rfl⟩
theorem c92 : ∀ args d, e92.2.2.1 args = true -> e92.2.2.2 args = some d -> CallOK Tryz.prog 92 args (aj Tryz.prog 37 d) :=
 ZZ k92 fun x y z u d hq h _ _ _ _ => by
  cases h
  rw [tX, Dz, xX, n3]
  refine aI hm aay k92 ((t92 1 x y z (intD u)).trans ?_)
  rw [mB]
  unfold FP at hq
  rw [Bool.and_eq_true] at hq
  rw [show ae (af z 0) = dQ z from rfl, hq.1, cond_true]
  have h2 : Ip x y (intD ((dQ z).getD (intD u).toNat .nil)) (intD u) = true := hq.2
  rw [h2]
  rfl
def M3 : Tab := e92 :: M2
theorem Z9 : EnvOK Tryz.prog (bT M3 []) := aO aay c92
end
/- roadbook/means.crossed -/
def RF : ay := fun i => if i = 3 then some ([0, 1, 2, 9, 10, 11, 12, 13, 14, 15, 16, 17, 18, 19, 20, 21, 22, 23, 24, 25, 26, 27, 28, 29, 30], [3, 4, 5, 6, 7], []) else none
def ET (P : Program) (fn : Func) (N n : Nat) (x0 : D) (x1 : D) (x2 : D) (v8 : Int) (b7 : D) : Option AV := aN (preL RF (sub [1, 1, 0, 1, 0, 0] (ag fn))) (az P (ak M3 [] [] []) RF N (sub [1, 1, 0, 1, 0, 0] (ag fn))) n ⟨[dead, dead, dead, bxp 3 24, bxp 4 27, bxp 5 31, bxp 6 37, bxp 7 37, dat 3 (.lit (.int .i64 v8)), dead, dead, dead, dead, dead, dead, dead, dead, dead, dead, dead, dead, dead, dead, dead, dead, dead, dead, dead, dead, dead, dead], aZ [(3, some ⟨24, x0, 0, none⟩), (4, some ⟨27, x1, 0, none⟩), (5, some ⟨31, x2, 0, none⟩), (6, some ⟨37, .agg [.slice [] [], .slice [] []], 0, none⟩), (7, some ⟨37, b7, 0, none⟩)]⟩ (aG 0 (cZ P (ak M3 [] [] []) RF N (sub [1, 1, 1] (ag fn)) (dJ P fn) ))
theorem LH  (N n : Nat) (x0 : D) (x1 : D) (x2 : D) (v8 : Int) (b7 : D) : ET Tryz.prog Tryz.f51 N (n + 1) x0 x1 x2 v8 b7 =
 bif decide (v8 < ((ae (af x2 0)).length : Int)) then
  bif FP x0 x1 x2 v8 then
   bif (jM b7 (lX x0 x1 x2 v8)) then
    ET Tryz.prog Tryz.f51 N n x0 x1 x2 (IntKind.wrap .i64 (v8 + 1)) (jf b7 (lX x0 x1 x2 v8))
   else none
  else none
 else some (dat 37 b7) := by kernel_rfl
theorem t51 (N : Nat) (x0 : D) (x1 : D) (x2 : D) : aU Tryz.prog (ak M3 [] [] []) RF N Tryz.f51 [dat 24 x0, dat 27 x1, dat 31 x2] =
 bif FP x0 x1 x2 0 then
  ET Tryz.prog Tryz.f51 N N x0 x1 x2 1 (lX x0 x1 x2 0)
 else none := by kernel_rfl
/- roadbook/means.teller$1 -/
section
set_option linter.unusedSimpArgs false
def e51 : FuncId × TypeId × (List AV -> Bool) × (List AV -> Option D) := (51, 37, jU (q3 fun x y z => iR x y z), ent [24, 27, 31] (f3 fun x y z => some (jW x y z)))
theorem k51 : FnOK Tryz.prog 51 Tryz.f51 := ⟨Tryz.func51, rfl, by kernel_rfl⟩
theorem yM {c d q : D} (h : Asks c d q) {N : Nat} : ∀ (n i : Nat), i + 1 <= (dQ q).length -> (dQ q).length - (i + 1) < n ->
  ET Tryz.prog Tryz.f51 N n c d q ((i + 1 : Nat) : Int) (GU c d q i) = some (dat 37 (jW c d q))
 | 0, i, _, hn => by omega
 | n + 1, i, hi, hn => by
  have h4 := h.n4
  rw [LH, show ae (af q 0) = dQ q from rfl]
  by_cases hlt : i + 1 < (dQ q).length
  ·have w1 : IntKind.wrap .i64 (((i + 1 : Nat) : Int) + 1) = ((i + 1 + 1 : Nat) : Int) := by rw [aH (l_in (by omega) (by omega))]; omega
   rw [eY hlt, cond_true, XT h hlt, cond_true, Qd h hlt, cond_true, w1]
   exact yM h n (i + 1) (by omega) (by omega)
  ·rw [fB hlt, cond_false]
   unfold jW
   rw [show (dQ q).length - 1 = i by omega]
theorem c51 : ∀ args d, e51.2.2.1 args = true -> e51.2.2.2 args = some d -> CallOK Tryz.prog 51 args (aj Tryz.prog 37 d) :=
 Jd k51 fun x y z d hq h _ _ _ => by
  cases h
  have ha := zx hq
  have hn := ha.n1
  rw [tX, Dz, xX]
  refine aI hm Z9 k51 ((t51 ((dQ z).length + 1) x y z).trans ?_)
  rw [mB]
  have h0 := XT ha (o := 0) (by omega)
  have h0 : FP x y z 0 = true := h0
  rw [h0, cond_true]
  exact yM ha ((dQ z).length + 1) 0 (by omega) (by omega)
def M4 : Tab := e51 :: M3
theorem Sr : EnvOK Tryz.prog (bT M4 []) := aO Z9 c51
end
/- roadbook/means.All$1 -/
def aef : ay := fun _ =>  none
theorem t49 (N : Nat) (c : D) (d : D) (q : D) : jP Tryz.prog (ak M4 [] [] []) aef N Tryz.f49 [bxp 1000000 24, bxp 1000001 27, bxp 1000002 31] [⟨24, c, 0, none⟩, ⟨27, d, 0, none⟩, ⟨31, q, 0, none⟩] =
 bif (iR c d q) then
  bif iR c d q then
   bif iY (jW c d q) then
    bif (gB q (oQ (jW c d q) (ae (af q 1)))) then
     some (dat 37 (gp q (oQ (jW c d q) (ae (af q 1)))), [some ⟨24, c, 0, none⟩, some ⟨27, d, 0, none⟩, some ⟨31, q, 0, none⟩])
    else none
   else none
  else none
 else none := by kernel_rfl
/- roadbook/means.Rows$1 -/
end Go.Proofs.YtpceahbengfjeaaGreatDoor
