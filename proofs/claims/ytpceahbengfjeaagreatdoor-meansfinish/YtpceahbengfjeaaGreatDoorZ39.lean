/- Trees of functions, and lemmas. Nothing here is trusted. -/
import Derived.Test.YtpceahbengfjeaaGreatDoorZ38
import Derived.Test.YtpceahbengfjeaaGreatDoorZ35
import Derived.Test.YtpceahbengfjeaaGreatDoorZ30
import Derived.Test.YtpceahbengfjeaaGreatDoorZ28
import Derived.Test.YtpceahbengfjeaaGreatDoorZ36
import Derived.Test.YtpceahbengfjeaaGreatDoorZ29
namespace Go.Proofs.YtpceahbengfjeaaGreatDoor
open Go.Ev
set_option linter.unusedVariables false
set_option maxRecDepth 10000
def M0 : Tab := e30 :: e31 :: e27 :: e94 :: e46 :: e25 :: e56 :: e24 :: Dn.e135 :: Dn.e89 :: X.e32 :: e37 :: Dn.e34 :: e20 :: e33 :: []
theorem OM : EnvOK Tryz.prog (ak M0 [] [] []) :=
 ah (aO (ah (ah (ah (aO (ah (aO (ah (ah (ah (ah (ah (ah (ah BU c33) c20) Dn.c34) c37) X.c32) Dn.c89) Dn.c135) c24) c56) c25) c46) c94) c27) c31) c30
/- roadbook/means.hold -/
def aet : ay := fun _ =>  none
theorem t40 (N : Nat) (x0 : Bool) : aU Tryz.prog (ak M0 [] [] []) aet N Tryz.f40 [dat 4 (.lit (.bool x0))] =
 bif (!x0) then
  none
 else some (aL [] (.agg [])) := by kernel_rfl
/- roadbook/means.asks -/
def ady : ay := fun _ =>  none
theorem t41 (N : Nat) (x0 : D) (x1 : D) (x2 : D) : aU Tryz.prog (ak M0 [] [] []) ady N Tryz.f41 [dat 24 x0, dat 27 x1, dat 31 x2] =
 bif ((IG x0 x2) == true) then
  some (dat 4 (.lit (.bool (xw x0 x1))))
 else some (dat 4 (.lit (.bool false))) := by kernel_rfl
/- roadbook/means.isOf -/
/- roadbook/means.at -/
/- roadbook/means.Finish -/
def adi : ay := fun _ =>  none
theorem t16 (N : Nat) (x0 : D) (x1 : D) : aU Tryz.prog (ak M0 [] [] []) adi N Tryz.f16 [dat 31 x0, dat 37 x1] =
 bif ((intD (af x0 2)) != (-1)) then
  some (aL [37, 4] (.agg [eF x1 (intD (af x0 2)) (ae (af x0 3)), .lit (.bool (dO x1 (intD (af x0 2)) (ae (af x0 3))))]))
 else some (aL [37, 4] (.agg [gz x1 (ae (af x0 4)), .lit (.bool (gm x1 (ae (af x0 4))))])) := by kernel_rfl
/- roadbook/roadbooklaw03.Far -/
def afc : ay := fun _ =>  none
theorem t13 (N : Nat) (x0 : D) (x1 : Int) : aU Tryz.prog (ak M0 [] [] []) afc N Tryz.f13 [dat 37 x0, dat 3 (.lit (.int .i64 x1))] =
 bif kZ x0 x1 then
  some (dat 3 (.lit (.int .i64 0)))
 else some (dat 3 (.lit (.int .i64 1))) := by kernel_rfl
/- roadbook/roadbooklaw04.Far -/
/- roadbook/roadbooklaw05.Far -/
/- roadbook/roadbooklaw07.Light -/
section
set_option linter.unusedSimpArgs false
theorem tq (x : D) : bC Tryz.prog 24 x = x := by kernel_rfl
theorem Dz (x : D) : bC Tryz.prog 27 x = x := by kernel_rfl
theorem xY (x : D) : bC Tryz.prog 31 x = x := by kernel_rfl
theorem mU (x : D) : aj Tryz.prog 0 x = aL [] x := by kernel_rfl
def e40 : FuncId × TypeId × (List AV -> Bool) × (List AV -> Option D) := (40, 0, jS (q1 fun x => gW x), ent [4] (f1 fun _ => some (.agg [])))
theorem k40 : FnOK Tryz.prog 40 Tryz.f40 := ⟨Tryz.func40, rfl, by kernel_rfl⟩
theorem c40 : ∀ args d, e40.2.2.1 args = true -> e40.2.2.2 args = some d -> CallOK Tryz.prog 40 args (aj Tryz.prog 0 d) :=
 N7 k40 fun x d hq h _ => by
  cases h
  rw [n4]
  refine aI hm OM k40 ((t40 1 (gW x)).trans ?_)
  rw [mU, show gW x = true from hq]
  rfl
def e41 : FuncId × TypeId × (List AV -> Bool) × (List AV -> Option D) := (41, 4, yes, ent [24, 27, 31] (f3 fun x y z => some (.lit (.bool (iP x y z)))))
theorem k41 : FnOK Tryz.prog 41 Tryz.f41 := ⟨Tryz.func41, rfl, by kernel_rfl⟩
theorem c41 : ∀ args d, e41.2.2.2 args = some d -> CallOK Tryz.prog 41 args (aj Tryz.prog 4 d) :=
 Pq k41 fun x y z d h _ _ _ => by
  cases h
  rw [tq, Dz, xY]
  refine aI hm OM k41 ((t41 1 x y z).trans ?_)
  rw [m4]
  unfold iP
  cases IG x z <;> rfl
def e16 : FuncId × TypeId × (List AV -> Bool) × (List AV -> Option D) := (16, 43, yes, ent [31, 37] (f2 fun x y => some (.agg [fV x y, .lit (.bool (gV x y))])))
theorem k16 : FnOK Tryz.prog 16 Tryz.f16 := ⟨Tryz.func16, rfl, by kernel_rfl⟩
theorem c16 : ∀ args d, e16.2.2.2 args = some d -> CallOK Tryz.prog 16 args (aj Tryz.prog 43 d) :=
 gB k16 fun x y d h _ _ => by
  cases h
  rw [xY, nB]
  refine aI hm OM k16 ((t16 1 x y).trans ?_)
  rw [UI]
  unfold fV gV qBy
  cases (intD (af x 2) != -1) <;> rfl
theorem aaV (b : Bool) : (bif b then (some (dat 3 (.lit (.int .i64 0))) : Option AV) else some (dat 3 (.lit (.int .i64 1)))) = some (dat 3 (.lit (.int .i64 (Y4 b)))) := by cases b <;> rfl
def e13 : FuncId × TypeId × (List AV -> Bool) × (List AV -> Option D) := (13, 3, yes, ent [37, 3] (f2 fun x y => some (.lit (.int .i64 (Y4 (kZ x (intD y)))))))
theorem k13 : FnOK Tryz.prog 13 Tryz.f13 := ⟨Tryz.func13, rfl, by kernel_rfl⟩
theorem c13 : ∀ args d, e13.2.2.2 args = some d -> CallOK Tryz.prog 13 args (aj Tryz.prog 3 d) :=
 gB k13 fun x y d h _ _ => by
  cases h
  rw [nB, n3]
  refine aI hm OM k13 ((t13 1 x (intD y)).trans ?_)
  rw [m3]
  exact aaV _
def M1 : Tab := e40 :: e41 :: e16 :: e13 :: M0
theorem aaf : EnvOK Tryz.prog (bT M1 []) := aO (ah (ah (ah OM c13) c16) c41) c40
end
/- roadbook/means.must -/
def ae0 : ay := fun _ =>  none
theorem t50 (N : Nat) (x0 : D) (x1 : Bool) : aU Tryz.prog (ak M1 [] [] []) ae0 N Tryz.f50 [dat 37 x0, dat 4 (.lit (.bool x1))] =
 bif x1 then
  some (dat 37 x0)
 else none := by kernel_rfl
/- roadbook/roadbooklaw07.few -/
section
set_option linter.unusedSimpArgs false
def e50 : FuncId × TypeId × (List AV -> Bool) × (List AV -> Option D) := (50, 37, jS (q2 fun _ y => gW y), ent [37, 4] (f2 fun x _ => some x))
theorem k50 : FnOK Tryz.prog 50 Tryz.f50 := ⟨Tryz.func50, rfl, by kernel_rfl⟩
theorem c50 : ∀ args d, e50.2.2.1 args = true -> e50.2.2.2 args = some d -> CallOK Tryz.prog 50 args (aj Tryz.prog 37 d) :=
 qL k50 fun x y d hq h _ _ => by
  cases h
  rw [nB, n4]
  refine aI hm aaf k50 ((t50 1 x (gW y)).trans ?_)
  rw [mB, show gW y = true from hq]
  rfl
def M2 : Tab := e50 :: M1
theorem ZW : EnvOK Tryz.prog (bT M2 []) := aO aaf c50
end
/- roadbook/means.occurrence -/
def adT : ay := fun _ =>  none
theorem t92 (N : Nat) (x0 : D) (x1 : D) (x2 : D) (x3 : Int) : aU Tryz.prog (ak M2 [] [] []) adT N Tryz.f92 [dat 24 x0, dat 27 x1, dat 31 x2, dat 3 (.lit (.int .i64 x3))] =
 bif (decide (0 <= x3) && decide (x3 < ((ae (af x2 0)).length : Int))) then
  bif (Il x0 x1 (intD ((ae (af x2 0)).getD (x3).toNat .nil)) x3) then
   some (dat 37 (Jc x0 x1 (intD ((ae (af x2 0)).getD (x3).toNat .nil)) x3))
  else none
 else none := by kernel_rfl
section
set_option linter.unusedSimpArgs false
def e92 : FuncId × TypeId × (List AV -> Bool) × (List AV -> Option D) := (92, 37, jS (q4 fun x y z u => GZ x y z (intD u)), ent [24, 27, 31, 3] (f4 fun x y z u => some (lT x y z (intD u))))
theorem k92 : FnOK Tryz.prog 92 Tryz.f92 := ⟨Tryz.func92, rfl, by kernel_rfl⟩
theorem c92 : ∀ args d, e92.2.2.1 args = true -> e92.2.2.2 args = some d -> CallOK Tryz.prog 92 args (aj Tryz.prog 37 d) :=
 Z9 k92 fun x y z u d hq h _ _ _ _ => by
  cases h
  rw [tq, Dz, xY, n3]
  refine aI hm ZW k92 ((t92 1 x y z (intD u)).trans ?_)
  rw [mB]
  unfold GZ at hq
  rw [Bool.and_eq_true] at hq
  rw [show ae (af z 0) = dQ z from rfl, hq.1, cond_true]
  have h2 : Il x y (intD ((dQ z).getD (intD u).toNat .nil)) (intD u) = true := hq.2
  rw [h2]
  rfl
def M3 : Tab := e92 :: M2
theorem aaj : EnvOK Tryz.prog (bT M3 []) := aO ZW c92
end
/- roadbook/means.crossed -/
def Ti : ay := fun i => if i = 3 then some ([0, 1, 2, 9, 10, 11, 12, 13, 14, 15, 16, 17, 18, 19, 20, 21, 22, 23, 24, 25, 26, 27, 28, 29, 30], [3, 4, 5, 6, 7], []) else none
def ER (P : Program) (fn : Func) (N n : Nat) (x0 : D) (x1 : D) (x2 : D) (v8 : Int) (b7 : D) : Option AV := aN (preL Ti (sub [1, 1, 0, 1, 0, 0] (ag fn))) (az P (ak M3 [] [] []) Ti N (sub [1, 1, 0, 1, 0, 0] (ag fn))) n ⟨[dead, dead, dead, bxp 3 24, bxp 4 27, bxp 5 31, bxp 6 37, bxp 7 37, dat 3 (.lit (.int .i64 v8)), dead, dead, dead, dead, dead, dead, dead, dead, dead, dead, dead, dead, dead, dead, dead, dead, dead, dead, dead, dead, dead, dead], bf [(3, some ⟨24, x0, 0, none⟩), (4, some ⟨27, x1, 0, none⟩), (5, some ⟨31, x2, 0, none⟩), (6, some ⟨37, .agg [.slice [] [], .slice [] []], 0, none⟩), (7, some ⟨37, b7, 0, none⟩)]⟩ (aG 0 (cZ P (ak M3 [] [] []) Ti N (sub [1, 1, 1] (ag fn)) (dJ P fn) ))
theorem Lh  (N n : Nat) (x0 : D) (x1 : D) (x2 : D) (v8 : Int) (b7 : D) : ER Tryz.prog Tryz.f51 N (n + 1) x0 x1 x2 v8 b7 =
 bif decide (v8 < ((ae (af x2 0)).length : Int)) then
  bif GZ x0 x1 x2 v8 then
   bif (jL b7 (lT x0 x1 x2 v8)) then
    ER Tryz.prog Tryz.f51 N n x0 x1 x2 (IntKind.wrap .i64 (v8 + 1)) (jq b7 (lT x0 x1 x2 v8))
   else none
  else none
 else some (dat 37 b7) := by kernel_rfl
theorem t51 (N : Nat) (x0 : D) (x1 : D) (x2 : D) : aU Tryz.prog (ak M3 [] [] []) Ti N Tryz.f51 [dat 24 x0, dat 27 x1, dat 31 x2] =
 bif GZ x0 x1 x2 0 then
  ER Tryz.prog Tryz.f51 N N x0 x1 x2 1 (lT x0 x1 x2 0)
 else none := by kernel_rfl
/- roadbook/means.teller$1 -/
section
set_option linter.unusedSimpArgs false
def e51 : FuncId × TypeId × (List AV -> Bool) × (List AV -> Option D) := (51, 37, jS (q3 fun x y z => iP x y z), ent [24, 27, 31] (f3 fun x y z => some (jX x y z)))
theorem k51 : FnOK Tryz.prog 51 Tryz.f51 := ⟨Tryz.func51, rfl, by kernel_rfl⟩
theorem zO {c d q : D} (h : Asks c d q) {N : Nat} : ∀ (n i : Nat), i + 1 <= (dQ q).length -> (dQ q).length - (i + 1) < n ->
  ER Tryz.prog Tryz.f51 N n c d q ((i + 1 : Nat) : Int) (EX c d q i) = some (dat 37 (jX c d q))
 | 0, i, _, hn => by omega
 | n + 1, i, hi, hn => by
  have h4 := h.n4
  rw [Lh, show ae (af q 0) = dQ q from rfl]
  by_cases hlt : i + 1 < (dQ q).length
  ·have w1 : IntKind.wrap .i64 (((i + 1 : Nat) : Int) + 1) = ((i + 1 + 1 : Nat) : Int) := by rw [aH (l_in (by omega) (by omega))]; omega
   rw [eQ hlt, cond_true, XX h hlt, cond_true, QY h hlt, cond_true, w1]
   exact zO h n (i + 1) (by omega) (by omega)
  ·rw [eX hlt, cond_false]
   unfold jX
   rw [show (dQ q).length - 1 = i by omega]
theorem c51 : ∀ args d, e51.2.2.1 args = true -> e51.2.2.2 args = some d -> CallOK Tryz.prog 51 args (aj Tryz.prog 37 d) :=
 Jg k51 fun x y z d hq h _ _ _ => by
  cases h
  have ha := zK hq
  have hn := ha.n1
  rw [tq, Dz, xY]
  refine aI hm aaj k51 ((t51 ((dQ z).length + 1) x y z).trans ?_)
  rw [mB]
  have h0 := XX ha (o := 0) (by omega)
  have h0 : GZ x y z 0 = true := h0
  rw [h0, cond_true]
  exact zO ha ((dQ z).length + 1) 0 (by omega) (by omega)
def M4 : Tab := e51 :: M3
theorem Td : EnvOK Tryz.prog (bT M4 []) := aO aaj c51
end
/- roadbook/means.All$1 -/
def ae8 : ay := fun _ =>  none
theorem t49 (N : Nat) (c : D) (d : D) (q : D) : jO Tryz.prog (ak M4 [] [] []) ae8 N Tryz.f49 [bxp 1000000 24, bxp 1000001 27, bxp 1000002 31] [⟨24, c, 0, none⟩, ⟨27, d, 0, none⟩, ⟨31, q, 0, none⟩] =
 bif (iP c d q) then
  bif iP c d q then
   bif iX (jX c d q) then
    bif (gV q (oV (jX c d q) (ae (af q 1)))) then
     some (dat 37 (fV q (oV (jX c d q) (ae (af q 1)))), [some ⟨24, c, 0, none⟩, some ⟨27, d, 0, none⟩, some ⟨31, q, 0, none⟩])
    else none
   else none
  else none
 else none := by kernel_rfl
/- roadbook/means.Rows$1 -/
end Go.Proofs.YtpceahbengfjeaaGreatDoor
