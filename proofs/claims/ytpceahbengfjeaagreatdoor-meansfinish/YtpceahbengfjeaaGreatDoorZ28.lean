/- Trees of functions, and lemmas. Nothing here is trusted. -/
import Derived.Test.YtpceahbengfjeaaGreatDoorZ27
import Derived.Test.YtpceahbengfjeaaGreatDoorRows
import Derived.Test.YtpceahbengfjeaaGreatDoorZ22
namespace Go.Proofs.YtpceahbengfjeaaGreatDoor
section
namespace Dn
open Go.Ev
set_option linter.unusedVariables false
/- roadbook/data.Col -/
def WC : ay := fun _ =>  none
theorem t78 (N : Nat) (x0 : Int) (x1 : Int) : aU Tryz.prog (ak D1 [] [] []) WC N Tryz.f78 [dat 3 (.lit (.int .i64 x0)), dat 3 (.lit (.int .i64 x1))] =
 bif ((!(bF x0 4)) == false) then
  bif (!(bF x1 4)) then
   some (dat 3 (.lit (.int .i64 (-1))))
  else some (dat 3 (.lit (.int .i64 (IntKind.wrap .i64 ((IntKind.wrap .i64 (x0 * 4)) + x1)))))
 else some (dat 3 (.lit (.int .i64 (-1)))) := by kernel_rfl
/- roadbook/data.Split -/
def PE : ay := fun _ =>  none
theorem abK (N : Nat) (x0 : Int) : aU Tryz.prog (ak D1 [] [] []) PE N Tryz.f184 [dat 3 (.lit (.int .i64 x0))] =
 bif (!(bF x0 16)) then
  some (aL [3, 3, 4] (.agg [.lit (.int .i64 0), .lit (.int .i64 0), .lit (.bool false)]))
 else some (aL [3, 3, 4] (.agg [.lit (.int .i64 (IntKind.wrap .i64 (Int.tdiv x0 4))), .lit (.int .i64 (Int.tmod x0 4)), .lit (.bool true)])) := by kernel_rfl
/- roadbook/data.May -/
def AC : ay := fun i => if i = 4 then some ([0, 1, 2, 3, 4, 5, 6, 7, 8, 9, 10, 11, 12, 13, 14, 15, 19, 20, 21, 22, 23, 24, 25, 26], [], []) else none
def lU (P : Program) (fn : Func) (N n : Nat) (x0 : D) (v18 : Int) : Option AV := aN (preL AC (sub [1, 1, 0, 1, 0, 0] (ag fn))) (az P (ak D1 [] [] []) AC N (sub [1, 1, 0, 1, 0, 0] (ag fn))) n ⟨[dead, dead, dead, dead, dead, dead, dead, dead, dead, dead, dead, dead, dead, dead, dead, dead, dat 22 (af x0 0), dat 3 (.lit (.int .i64 ((ae (af x0 0)).length : Int))), dat 3 (.lit (.int .i64 v18)), dead, dead, dead, dead, dead, dead, dead, dead], bf []⟩ (aG 0 (cZ P (ak D1 [] [] []) AC N (sub [1, 1, 1] (ag fn)) (dJ P fn) ))
theorem lJ  (N n : Nat) (x0 : D) (v18 : Int) : lU Tryz.prog Tryz.f82 N (n + 1) x0 v18 =
 bif decide (v18 < ((ae (af x0 0)).length : Int)) then
  bif (decide (0 <= v18) && decide (v18 < ((ae (af x0 0)).length : Int))) then
   bif (((intD (af (lX ((ae (af x0 0)).getD (v18).toNat .nil)) 0)) == 0) && (((intD (af (lX ((ae (af x0 0)).getD (v18).toNat .nil)) 1)) == 0) && true)) then
    some (dat 4 (.lit (.bool false)))
   else lU Tryz.prog Tryz.f82 N n x0 (IntKind.wrap .i64 (v18 + 1))
  else none
 else some (dat 4 (.lit (.bool true))) := by kernel_rfl
theorem t82 (N : Nat) (x0 : D) : aU Tryz.prog (ak D1 [] [] []) AC N Tryz.f82 [dat 24 x0] =
 bif ((decide (((ae (af x0 0)).length : Int) < 1)) == false) then
  bif decide (((ae (af x0 0)).length : Int) > 4) then
   some (dat 4 (.lit (.bool false)))
  else lU Tryz.prog Tryz.f82 N N x0 0
 else some (dat 4 (.lit (.bool false))) := by kernel_rfl
/- roadbook/bag.Keep -/
def zF : ay := fun i => if i = 3 then some ([0, 3, 6, 7, 8, 12, 13, 14, 15, 16, 17, 18, 19, 20, 21, 22, 23, 24, 25, 26, 27, 28, 29, 30], [2, 4, 5, 24, 900000], []) else none
def ni (P : Program) (fn : Func) (N n : Nat) (x0 : D) (v11 : Int) (b5 : List D) : Option AV := aN (preL zF (sub [1, 1, 0, 1, 0, 0] (ag fn))) (az P (ak D1 [] [] []) zF N (sub [1, 1, 0, 1, 0, 0] (ag fn))) n ⟨[dead, dat 29 (.slice [] []), bxp 2 37, dead, bxp 4 37, bxp 5 35, dead, dead, dead, dat 35 (af x0 1), dat 3 (.lit (.int .i64 ((ae (af x0 1)).length : Int))), dat 3 (.lit (.int .i64 v11)), dead, dead, dead, dead, dead, dead, dead, dead, dead, dead, dead, dead, dead, dead, dead, dead, dead, dead, dead], bf [(2, some ⟨37, x0, 0, none⟩), (4, some ⟨37, .agg [.slice [] [], .slice [] []], 0, none⟩), (5, some ⟨35, .slice b5 [], 1, none⟩), (24, none), (900000, none)]⟩ (aG 0 (cZ P (ak D1 [] [] []) zF N (sub [1, 1, 1] (ag fn)) (dJ P fn) ))
theorem ug  (N n : Nat) (x0 : D) (v11 : Int) (b5 : List D) : ni Tryz.prog Tryz.f31 N (n + 1) x0 v11 b5 =
 bif decide (v11 < ((ae (af x0 1)).length : Int)) then
  bif (decide (0 <= v11) && decide (v11 < ((ae (af x0 1)).length : Int))) then
   bif BV [] then
    bif decide ((ae ((ae (af x0 1)).getD (v11).toNat .nil)).length <= 2147483648) then
     bif decide ((b5).length + 1 <= 2147483648) then
      ni Tryz.prog Tryz.f31 N n x0 (IntKind.wrap .i64 (v11 + 1)) (b5 ++ [(ae (af x0 1)).getD (v11).toNat .nil])
     else none
    else none
   else none
  else none
 else bif decide ((ae (af x0 0)).length <= 2147483648) then
   some (dat 37 (.agg [af x0 0, .slice b5 []]))
  else none := by kernel_rfl
theorem t31 (N : Nat) (x0 : D) : aU Tryz.prog (ak D1 [] [] []) zF N Tryz.f31 [dat 37 x0, dat 29 (.slice [] [])] =
 ni Tryz.prog Tryz.f31 N N x0 0 [] := by kernel_rfl
end Dn
end
section
namespace Dn
open Go.Ev
set_option linter.unusedVariables false
set_option maxRecDepth 10000
set_option linter.unusedSimpArgs false
def e78 : FuncId × TypeId × (List AV -> Bool) × (List AV -> Option D) := (78, 3, yes, ent [3, 3] (f2 fun x y => some (.lit (.int .i64 (Ci (intD x) (intD y))))))
theorem k78 : FnOK Tryz.prog 78 Tryz.f78 := ⟨Tryz.func78, rfl, by kernel_rfl⟩
theorem c78 : ∀ args d, e78.2.2.2 args = some d -> CallOK Tryz.prog 78 args (aj Tryz.prog 3 d) :=
 gB k78 fun x y d h _ _ => by
  cases h
  rw [n3, n3]
  refine aI hm OV k78 ((t78 1 (intD x) (intD y)).trans ?_)
  rw [m3]
  show _ = some (dat 3 (.lit (.int .i64 (Ci (intD x) (intD y)))))
  generalize intD x = a
  generalize intD y = b
  cases h1 : bF a 4 with
  | false => rw [zN (by have := mF.1 h1; omega)]; rfl
  | true =>
   cases h2 : bF b 4 with
   | false => rw [zN (by have := mF.1 h2; omega)]; rfl
   | true =>
    have a1 := dw.1 h1
    have a2 := dw.1 h2
    rw [EM a1 a2, aH (z := a * 4) (l_in (by omega) (by omega)), aH (l_in (by omega) (by omega))]; rfl
def VJ : FuncId × TypeId × (List AV -> Bool) × (List AV -> Option D) := (184, 175, yes, ent [3] (f1 fun x => some (.agg [.lit (.int .i64 (dB (intD x))), .lit (.int .i64 (splitB (intD x))), .lit (.bool (bF (intD x) 16))])))
theorem Vt : FnOK Tryz.prog 184 Tryz.f184 := ⟨Tryz.func184, rfl, by kernel_rfl⟩
theorem ab8 : ∀ args d, VJ.2.2.2 args = some d -> CallOK Tryz.prog 184 args (aj Tryz.prog 175 d) :=
 mG Vt fun x d h _ => by
  cases h
  rw [n3]
  refine aI hm OV Vt ((abK 1 (intD x)).trans ?_)
  rw [aaQ]
  generalize intD x = z
  cases h1 : bF z 16 with
  | false =>
   obtain ⟨a, b⟩ := BG (z := z) (mF.1 h1)
   rw [a, b]; rfl
  | true =>
   have h2 := dw.1 h1
   obtain ⟨a, b⟩ := vI h2
   rw [a, b, Ho h2, Int.tmod_eq_emod_of_nonneg h2.1]; rfl
def e82 : FuncId × TypeId × (List AV -> Bool) × (List AV -> Option D) := (82, 4, yes, ent [24] (f1 fun x => some (.lit (.bool (kY x)))))
theorem k82 : FnOK Tryz.prog 82 Tryz.f82 := ⟨Tryz.func82, rfl, by kernel_rfl⟩
theorem c82 : ∀ args d, e82.2.2.2 args = some d -> CallOK Tryz.prog 82 args (aj Tryz.prog 4 d) :=
 mG k82 fun x d h ⟨_, hx⟩ => by
  cases h
  rw [tq]
  obtain ⟨ts, rfl, hl, _⟩ := MM hx
  refine aI hm OV k82 ((t82 (ts.length + 1) (lH ts)).trans ?_)
  rw [m4, iw]
  have := jl (fun n v => lU Tryz.prog Tryz.f82 (ts.length + 1) n (lH ts) v) ts.length (fun i => !mayDef (ts.getD i .nil)) (some (dat 4 (.lit (.bool false)))) (some (dat 4 (.lit (.bool true))))
   (fun n i hi => by
    rw [lJ, iw, bG hi, eQ hi, Int.toNat_natCast, DD, fB hl hi, cond_true, cond_true])
   (fun n => by rw [lJ, iw, eX (by omega), cond_false]) (ts.length + 1) 0 (Nat.zero_le _) (by omega)
  have this : lU Tryz.prog Tryz.f82 (ts.length + 1) (ts.length + 1) (lH ts) 0 = _ := this
  rw [this, Nat.sub_zero, rG ts (fun t => !mayDef t), LK]
  show _ = some (dat 4 (.lit (.bool ((decide (1 <= ts.length) && decide (ts.length <= 4)) && ts.all gp))))
  by_cases h1 : 1 <= ts.length
  ·by_cases h4 : ts.length <= 4
   ·rw [dF (show ¬ ((ts.length : Int)) < 1 by omega), dF (show ¬ ((ts.length : Int)) > 4 by omega), dT h1, dT h4]
    cases ts.all gp <;> rfl
   ·rw [dF (show ¬ ((ts.length : Int)) < 1 by omega), dT (show ((ts.length : Int)) > 4 by omega), dT h1, dF h4]
    rfl
  ·rw [dT (show ((ts.length : Int)) < 1 by omega), dF h1]
   rfl
theorem FQ {N : Nat} {cs rs : List D} (hc : cs.length <= 2147483648) (hb : rs.length <= 2147483648) (hr : ∀ r ∈ rs, (ae r).length <= 2147483648) : ∀ (n i : Nat) (acc : List D), i <= rs.length -> rs.length - i < n -> acc.length <= i ->
  ni Tryz.prog Tryz.f31 N n (aX cs rs) (i : Int) acc = some (dat 37 (aX cs (acc ++ rs.drop i)))
 | 0, i, acc, _, h, _ => by omega
 | n + 1, i, acc, hi, h, ha => by
  rw [ug, tZ, PV]
  by_cases hlt : i < rs.length
  ·have w1 : IntKind.wrap .i64 ((i : Int) + 1) = ((i + 1 : Nat) : Int) := by rw [aH (l_in (by omega) (by omega))]; omega
   rw [bG hlt, eQ hlt, Int.toNat_natCast, dA hlt, w1, dT (hr _ (List.getElem_mem hlt)), dT (show acc.length + 1 <= 2147483648 by omega), show BV [] = true from rfl]
   simp only [cond_true]
   rw [FQ hc hb hr n (i + 1) (acc ++ [rs[i]]) (by omega) (by omega) (by simp; omega), List.drop_eq_getElem_cons hlt, List.append_assoc]
   rfl
  ·rw [eX hlt, cond_false, dT hc, cond_true, List.drop_of_length_le (by omega), List.append_nil]
   rfl
def e31 : FuncId × TypeId × (List AV -> Bool) × (List AV -> Option D) := (31, 37, jS (q2 fun x y => BV (ae y) && iX x), ent [37, 29] (f2 fun x _ => some (RS x)))
theorem k31 : FnOK Tryz.prog 31 Tryz.f31 := ⟨Tryz.func31, rfl, by kernel_rfl⟩
theorem c31 : ∀ args d, e31.2.2.1 args = true -> e31.2.2.2 args = some d -> CallOK Tryz.prog 31 args (aj Tryz.prog 37 d) :=
 qL k31 fun x y d hq h ⟨_, hx⟩ ⟨_, hy⟩ => by
  cases h
  rw [nB, ad5]
  obtain ⟨cs, rs, rfl, h1, h2, h3, h4⟩ := tyB hx
  obtain ⟨m, es, rfl, _, _⟩ := pO hy afb
  rw [Bool.and_eq_true] at hq
  have hes : es = [] := J9 hq.1
  subst hes
  have hq := hq.2
  simp only [iX, Bool.and_eq_true, decide_eq_true_eq, List.all_eq_true] at hq
  obtain ⟨⟨g1, g2⟩, g3⟩ := hq
  refine aI hm OV k31 ((t31 (rs.length + 1) (aX cs rs)).trans ?_)
  rw [mB]
  exact FQ (N := rs.length + 1) (cs := cs) (rs := rs) g2 g1 g3 (rs.length + 1) 0 [] (Nat.zero_le _) (by omega) (by simp)
def D2 : Tab := e78 :: VJ :: e82 :: e31 :: D1
theorem ZM : EnvOK Tryz.prog (bT D2 []) := ah (ah (ah (aO OV c31) c82) ab8) c78
end Dn
end
section
namespace Dn
open Go.Ev
set_option linter.unusedVariables false
/- roadbook/data.seen -/
def KI : ay := fun i => if i = 3 then some ([0, 3, 4, 5, 8, 9, 10, 11, 12, 15, 16, 17, 18, 19, 20, 21, 22, 23, 24, 25, 26], [6, 11], []) else none
def yM (P : Program) (fn : Func) (N n : Nat) (x0 : D) (x1 : D) (x2 : Int) (v14 : Int) (b11 : List D) : Option AV := aN (preL KI (sub [1, 1, 0, 1, 0, 0] (ag fn))) (az P (ak D2 [] [] []) KI N (sub [1, 1, 0, 1, 0, 0] (ag fn))) n ⟨[dead, dat 35 x1, dat 3 (.lit (.int .i64 x2)), dead, dead, dead, bxp 6 37, bxp 11 28, dead, dead, dead, dead, dead, dat 3 (.lit (.int .i64 ((List.replicate (intD (af x0 0)).toNat (.lit (.int .i64 0) : D)).length : Int))), dat 3 (.lit (.int .i64 v14)), dead, dead, dead, dead, dead, dead, dead, dead, dead, dead, dead, dead], bf [(6, some ⟨37, .agg [.slice [] [], .slice [] []], 0, none⟩), (11, some ⟨28, .slice b11 [], 2, none⟩)]⟩ (aG 0 (cZ P (ak D2 [] [] []) KI N (sub [1, 1, 1] (ag fn)) (dJ P fn) ))
theorem IC  (N n : Nat) (x0 : D) (x1 : D) (x2 : Int) (v14 : Int) (b11 : List D) : yM Tryz.prog Tryz.f134 N (n + 1) x0 x1 x2 v14 b11 =
 bif decide (v14 < ((List.replicate (intD (af x0 0)).toNat (.lit (.int .i64 0) : D)).length : Int)) then
  bif (decide (0 <= v14) && decide (v14 < (b11.length : Int))) then
   yM Tryz.prog Tryz.f134 N n x0 x1 x2 (IntKind.wrap .i64 (v14 + 1)) (b11.set (v14).toNat (.lit (.int .i64 (Ci x2 v14))))
  else none
 else some (dat 37 (.agg [.slice b11 [], x1])) := by kernel_rfl
theorem ahx (N : Nat) (x0 : D) (x1 : D) (x2 : Int) : aU Tryz.prog (ak D2 [] [] []) KI N Tryz.f134 [dat 111 x0, dat 35 x1, dat 3 (.lit (.int .i64 x2))] =
 bif (decide (0 <= (intD (af x0 0))) && decide ((intD (af x0 0)) <= 2147483648)) then
  yM Tryz.prog Tryz.f134 N N x0 x1 x2 0 (List.replicate (intD (af x0 0)).toNat (.lit (.int .i64 0) : D))
 else none := by kernel_rfl
/- roadbook/roadbookref04.Fits -/
end Dn
end
section
namespace Dn
open Go.Ev
set_option linter.unusedVariables false
set_option maxRecDepth 10000
set_option linter.unusedSimpArgs false
theorem Jv {N m : Nat} {t x1 : D} {occ : Int} (hm : (intD (af t 0)).toNat = m) (h4 : m <= 4) : ∀ (n i : Nat) (tl : List D), i <= m -> m - i < n -> tl.length = m - i ->
  yM Tryz.prog Tryz.f134 N n t x1 occ (i : Int) (((List.range m).take i).map (qI occ) ++ tl) = some (dat 37 (.agg [.slice (ik m occ) [], x1]))
 | 0, i, tl, _, h, _ => by omega
 | n + 1, i, tl, hi, h, ht => by
  rw [IC, List.length_replicate, hm]
  by_cases hlt : i < m
  ·have hl2 : (((List.range m).take i).map (qI occ) ++ tl).length = m := by simp; omega
   have w1 : IntKind.wrap .i64 ((i : Int) + 1) = ((i + 1 : Nat) : Int) := by rw [aH (l_in (by omega) (by omega))]; omega
   have hr : i < (List.range m).length := by simpa using hlt
   have e1 : (DataW.lit (.int .i64 (Ci occ (i : Int))) : D) = qI occ (List.range m)[i] := by rw [List.getElem_range]; rfl
   rw [hl2, bG hlt, eQ hlt, cond_true, cond_true, Int.toNat_natCast, w1, e1, E9 (qI occ) hr (by simpa using ht)]
   exact Jv hm h4 n (i + 1) (tl.drop 1) (by omega) (by omega) (by simp; omega)
  ·have hi2 : i = m := by omega
   have htl : tl = [] := List.length_eq_zero_iff.1 (by omega)
   rw [eX hlt, cond_false, htl, hi2, List.append_nil, List.take_of_length_le (by simp)]
   rfl
def abV : FuncId × TypeId × (List AV -> Bool) × (List AV -> Option D) := (134, 37, jS (q3 fun x _ _ => bF (xV x) 5), ent [111, 35, 3] (f3 fun x y z => some (jY x (ae y) (intD z))))
theorem ael : FnOK Tryz.prog 134 Tryz.f134 := ⟨Tryz.func134, rfl, by kernel_rfl⟩
theorem agk : ∀ args d, abV.2.2.1 args = true -> abV.2.2.2 args = some d -> CallOK Tryz.prog 134 args (aj Tryz.prog 37 d) :=
 Jg ael fun x y z d hq h _ ⟨_, hy⟩ _ => by
  cases h
  rw [Y6, nR, n3]
  have hq := dw.1 hq
  obtain ⟨rs, rfl, _, _⟩ := tyR hy
  refine aI hm ZM ael ((ahx 6 x (.slice rs []) (intD z)).trans ?_)
  rw [mB]
  have hq : 0 <= intD (af x 0) /\ intD (af x 0) < 5 := hq
  have g1 : (decide (0 <= (intD (af x 0))) && decide ((intD (af x 0)) <= 2147483648)) = true := by simp only [Bool.and_eq_true, decide_eq_true_eq]; omega
  rw [g1, cond_true]
  exact Jv (N := 6) (t := x) (x1 := .slice rs []) (occ := intD z) rfl (by omega) 6 0 (List.replicate (intD (af x 0)).toNat (.lit (.int .i64 0))) (Nat.zero_le _) (by omega) (by simp)
section
variable {cs ts : List D} {N i : Nat} (hi : i < ts.length) (hlc : ts.length = cs.length) (hc : gp (cs.getD i .nil) = true) (hl : (ae (ts.getD i .nil)).length <= maxLen)
 (hr : ∀ r ∈ ae (ts.getD i .nil), (ae r).length <= maxLen) (hN : FX (ae (ts.getD i .nil)) < N)
include hi hl hr hN
include hlc hc
end
theorem SA {ts : List D} (h : kY (lH ts) = true) {i : Nat} (hi : i < ts.length) : gp (ts.getD i .nil) = true := by
 rw [dA hi]
 exact (FD.1 h).2.2 _ (List.getElem_mem hi)
def D3 : Tab := abV :: D2
theorem ZR : EnvOK Tryz.prog (bT D3 []) := aO ZM agk
end Dn
end
section
namespace Dn
open Go.Ev
set_option linter.unusedVariables false
/- roadbook/data.Fits -/
def Ro : ay := fun i => if i = 4 then some ([0, 1, 2, 4, 5, 6, 7, 8, 9, 10, 11, 12, 13, 14, 15, 16, 17, 18, 19, 23, 24, 25, 26, 27, 28, 29, 30, 31, 32, 33, 34, 35, 36, 37, 38, 39, 40, 41, 42, 43, 44, 45], [3], []) else none
def zq (P : Program) (fn : Func) (N n : Nat) (x0 : D) (x1 : D) (v22 : Int) : Option AV := aN (preL Ro (sub [1, 1, 0, 1, 0, 0] (ag fn))) (az P (ak D3 [] [] []) Ro N (sub [1, 1, 0, 1, 0, 0] (ag fn))) n ⟨[dead, dead, dead, bxp 3 27, dead, dead, dead, dead, dead, dead, dead, dead, dead, dead, dead, dead, dead, dead, dead, dead, dat 22 (af x0 0), dat 3 (.lit (.int .i64 ((ae (af x0 0)).length : Int))), dat 3 (.lit (.int .i64 v22)), dead, dead, dead, dead, dead, dead, dead, dead, dead, dead, dead, dead, dead, dead, dead, dead, dead, dead, dead, dead, dead, dead, dead], bf [(3, some ⟨27, x1, 0, none⟩)]⟩ (aG 0 (cZ P (ak D3 [] [] []) Ro N (sub [1, 1, 1] (ag fn)) (dJ P fn) ))
theorem zx  (N n : Nat) (x0 : D) (x1 : D) (v22 : Int) : zq Tryz.prog Tryz.f89 N (n + 1) x0 x1 v22 =
 bif decide (v22 < ((ae (af x0 0)).length : Int)) then
  bif (decide (0 <= v22) && decide (v22 < ((ae (af x0 0)).length : Int))) then
   bif (decide (0 <= v22) && decide (v22 < ((ae (af x1 0)).length : Int))) then
    bif ((decide (((ae ((ae (af x1 0)).getD (v22).toNat .nil)).length : Int) > 8)) == false) then
     bif (decide (0 <= v22) && decide (v22 < ((ae (af x1 0)).length : Int))) then
      bif bF (xV ((ae (af x0 0)).getD (v22).toNat .nil)) 5 then
       bif (!(bn (jY ((ae (af x0 0)).getD (v22).toNat .nil) (ae ((ae (af x1 0)).getD (v22).toNat .nil)) 0))) then
        some (dat 4 (.lit (.bool false)))
       else zq Tryz.prog Tryz.f89 N n x0 x1 (IntKind.wrap .i64 (v22 + 1))
      else none
     else none
    else some (dat 4 (.lit (.bool false)))
   else none
  else none
 else some (dat 4 (.lit (.bool true))) := by kernel_rfl
theorem t89 (N : Nat) (x0 : D) (x1 : D) : aU Tryz.prog (ak D3 [] [] []) Ro N Tryz.f89 [dat 24 x0, dat 27 x1] =
 bif ((!(kY x0)) == false) then
  bif (((ae (af x1 0)).length : Int) != ((ae (af x0 0)).length : Int)) then
   some (dat 4 (.lit (.bool false)))
  else zq Tryz.prog Tryz.f89 N N x0 x1 0
 else some (dat 4 (.lit (.bool false))) := by kernel_rfl
end Dn
end
section
namespace Dn
open Go.Ev
set_option linter.unusedVariables false
set_option maxRecDepth 10000
set_option linter.unusedSimpArgs false
theorem JX {t : D} (h : gp t = true) : bF (xV t) 5 = true := by
 obtain ⟨a, b, _, _⟩ := pU.1 h
 exact dw.2 ⟨by omega, by omega⟩
def e89 : FuncId × TypeId × (List AV -> Bool) × (List AV -> Option D) := (89, 4, yes, ent [24, 27] (f2 fun x y => some (.lit (.bool (xw x y)))))
theorem k89 : FnOK Tryz.prog 89 Tryz.f89 := ⟨Tryz.func89, rfl, by kernel_rfl⟩
theorem c89 : ∀ args d, e89.2.2.2 args = some d -> CallOK Tryz.prog 89 args (aj Tryz.prog 4 d) :=
 gB k89 fun x y d h ⟨_, hx⟩ ⟨_, hy⟩ => by
  cases h
  rw [tq, Dz]
  obtain ⟨cs, rfl, hlc, _⟩ := MM hx
  obtain ⟨ts, rfl, hl, hp⟩ := WG hy
  refine aI hm ZR k89 ((t89 (cs.length + 1) (lH cs) (lH ts)).trans ?_)
  rw [m4, iw, iw]
  show _ = some (dat 4 (.lit (.bool (kY (lH cs) && ((ts.length == cs.length) && !(List.range' 0 cs.length).any fun i => !fitsTab (cs.getD i .nil) (ts.getD i .nil))))))
  cases hmay : kY (lH cs) with
  | false => rfl
  | true =>
   by_cases hle : ts.length = cs.length
   ·have := jl (fun n v => zq Tryz.prog Tryz.f89 (cs.length + 1) n (lH cs) (lH ts) v) cs.length (fun i => !fitsTab (cs.getD i .nil) (ts.getD i .nil)) (some (dat 4 (.lit (.bool false)))) (some (dat 4 (.lit (.bool true))))
     (fun n i hi => by
      have hi2 : i < ts.length := by omega
      have hd := SA hmay hi
      rw [zx, iw, iw, bG hi, eQ hi, bG hi2, Int.toNat_natCast, JX hd, fB hlc hi, PQ]
      simp only [cond_true]
      unfold uQ
      by_cases h8 : ((ae (ts.getD i .nil)).length : Int) <= 8
      ·rw [Np hd (by omega) ⟨by omega, by omega⟩, dT h8]
       cases (ae (ts.getD i .nil)).all (fitsRow (cs.getD i .nil)) <;> rfl
      ·rw [dF h8]
       rfl)
     (fun n => by rw [zx, iw, eX (by omega), cond_false]) (cs.length + 1) 0 (Nat.zero_le _) (by omega)
    have this : zq Tryz.prog Tryz.f89 (cs.length + 1) (cs.length + 1) (lH cs) (lH ts) 0 = _ := this
    rw [Q8 hle, ZU hle, this, Nat.sub_zero]
    cases (List.range' 0 cs.length).any _ <;> rfl
   ·rw [Rh hle, aaw hle]
    rfl
def D4 : Tab := e89 :: D3
theorem aeC : EnvOK Tryz.prog (ak D4 [] [] []) := ah ZR c89
end Dn
end
section
namespace Dn
open Go.Ev
set_option linter.unusedVariables false
/- roadbook/data.Of -/
def abq : ay := fun _ =>  none
theorem agj (N : Nat) (x0 : D) (x1 : D) (x2 : Int) (x3 : Int) : aU Tryz.prog (ak D4 [] [] []) abq N Tryz.f135 [dat 24 x0, dat 27 x1, dat 3 (.lit (.int .i64 x2)), dat 3 (.lit (.int .i64 x3))] =
 bif ((!(xw x0 x1)) == false) then
  bif ((!(bF x2 ((ae (af x0 0)).length : Int))) == false) then
   bif (!(bF x3 4)) then
    some (aL [37, 4] (.agg [.agg [.slice [] [], .slice [] []], .lit (.bool false)]))
   else bif (decide (0 <= x2) && decide (x2 < ((ae (af x0 0)).length : Int))) then
     bif (decide (0 <= x2) && decide (x2 < ((ae (af x1 0)).length : Int))) then
      bif bF (xV ((ae (af x0 0)).getD (x2).toNat .nil)) 5 then
       bif (BV [] && iX (jY ((ae (af x0 0)).getD (x2).toNat .nil) (ae ((ae (af x1 0)).getD (x2).toNat .nil)) x3)) then
        some (aL [37, 4] (.agg [RS (jY ((ae (af x0 0)).getD (x2).toNat .nil) (ae ((ae (af x1 0)).getD (x2).toNat .nil)) x3), .lit (.bool true)]))
       else none
      else none
     else none
    else none
  else some (aL [37, 4] (.agg [.agg [.slice [] [], .slice [] []], .lit (.bool false)]))
 else some (aL [37, 4] (.agg [.agg [.slice [] [], .slice [] []], .lit (.bool false)])) := by kernel_rfl
end Dn
end
section
namespace Dn
open Go.Ev
set_option linter.unusedVariables false
set_option maxRecDepth 10000
set_option linter.unusedSimpArgs false
def e135 : FuncId × TypeId × (List AV -> Bool) × (List AV -> Option D) := (135, 43, yes, ent [24, 27, 3, 3] (f4 fun x y z u => some (.agg [Jc x y (intD z) (intD u), .lit (.bool (Il x y (intD z) (intD u)))])))
theorem aeL : FnOK Tryz.prog 135 Tryz.f135 := ⟨Tryz.func135, rfl, by kernel_rfl⟩
theorem c135 : ∀ args d, e135.2.2.2 args = some d -> CallOK Tryz.prog 135 args (aj Tryz.prog 43 d) :=
 ahb aeL fun x y z u d h ⟨_, hx⟩ ⟨_, hy⟩ _ _ => by
  cases h
  rw [tq, Dz, n3, n3]
  obtain ⟨cs, rfl, hlc, _⟩ := MM hx
  obtain ⟨ts, rfl, hl, hp⟩ := WG hy
  refine aI hm aeC aeL ((agj 1 (lH cs) (lH ts) (intD z) (intD u)).trans ?_)
  rw [UI, iw, iw]
  generalize intD z = a
  generalize intD u = b
  have ho : Il (lH cs) (lH ts) a b = (xw (lH cs) (lH ts) && (bF a (cs.length : Int) && bF b 4)) := rfl
  unfold Jc
  rw [ho]
  cases h1 : xw (lH cs) (lH ts) with
  | false => rfl
  | true =>
   cases h2 : bF a (cs.length : Int) with
   | false => rfl
   | true =>
    cases h3 : bF b 4 with
    | false => rfl
    | true =>
     obtain ⟨f1, f2, f3⟩ := NP.1 h1
     have f2 : ts.length = cs.length := f2
     have a1 := dw.1 h2
     have hi : a.toNat < cs.length := by omega
     have hi2 : a.toNat < ts.length := by omega
     have hd := SA f1 hi
     have hmem : ts.getD a.toNat .nil ∈ ts := by rw [dA hi2]; exact List.getElem_mem hi2
     obtain ⟨rs, hrs, _, _⟩ := hp _ hmem
     have hft : uQ (cs.getD a.toNat .nil) (.slice (ae (ts.getD a.toNat .nil)) []) = true := f3 _ hi
     have g1 : (decide (0 <= a) && decide (a < (cs.length : Int))) = true := h2
     have g2 : (decide (0 <= a) && decide (a < (ts.length : Int))) = true := by rw [f2]; exact h2
     rw [g1, g2, JX hd, Uz hd hft]
     rfl
end Dn
end
section
namespace Tn
open Go.Ev
set_option linter.unusedVariables false
set_option linter.unusedSimpArgs false
set_option maxRecDepth 10000
theorem hm : Tryz.prog.follows .mixedOrders = true := by kernel_rfl
theorem n3 (x : D) : bC Tryz.prog 3 x = .lit (.int .i64 (intD x)) := by kernel_rfl
theorem n24 (x : D) : bC Tryz.prog 34 x = x := by kernel_rfl
theorem m3 (x : D) : aj Tryz.prog 3 x = dat 3 (.lit (.int .i64 (intD x))) := by kernel_rfl
theorem u3 : Tryz.prog.underlying 3 = some (.int .i64) := by kernel_rfl
theorem u22 : Tryz.prog.underlying 32 = some (.slice 34) := by kernel_rfl
theorem u24 : ∃ f g : Field, Tryz.prog.underlying 34 = some (.struct #[f, g]) /\ f.type = 3 /\ g.type = 32 := ⟨_, _, Tryz.underlying34, rfl, rfl⟩
theorem abZ {t : TypeId} {k : IntKind} (hu : Tryz.prog.underlying t = some (.int k)) {n : Nat} {x : D} (h : Ty Tryz.prog n t x) : ∃ z, x = .lit (.int k z) /\ (Lit.int k z).wf = true := by
 cases n with
 | zero => exact h.elim
 | succ n =>
  unfold Ty at h
  rw [hu] at h
  split at h <;> try (exact h.elim)
  all_goals simp_all
theorem iC {n : Nat} {x : D} (h : Ty Tryz.prog n 3 x) : ∃ z, x = .lit (.int .i64 z) /\ inR z = true := by
 obtain ⟨z, h1, h2⟩ := abZ u3 h
 exact ⟨z, h1, Ls h2⟩
theorem aa4 {n : Nat} {x : D} (h : Ty Tryz.prog n 34 x) : ∃ z ks, x = .agg [.lit (.int .i64 z), .slice ks []] /\ inR z = true /\ ks.length <= maxLen /\ ∀ y ∈ ks, ∃ m, Ty Tryz.prog m 34 y := by
 obtain ⟨f, g, hu, hf, hg⟩ := u24
 obtain ⟨m, a, b, rfl, h1, h2⟩ := yF h hu
 rw [hf] at h1
 rw [hg] at h2
 obtain ⟨z, rfl, hz⟩ := iC h1
 obtain ⟨m2, ks, rfl, hl, hp⟩ := pO h2 u22
 exact ⟨z, ks, rfl, hz, hl, fun y hy => ⟨m2, hp y hy⟩⟩
theorem ab5 {n : Nat} {x : D} (h : Ty Tryz.prog n 34 x) : (fG x).length <= maxLen /\ inR (Yj x) = true := by
 obtain ⟨z, ks, rfl, hz, hl, _⟩ := aa4 h
 exact ⟨hl, hz⟩
theorem A7 : EnvOK Tryz.prog (bT [] []) := BU
end Tn
end
section
namespace Tn
open Go.Ev
set_option linter.unusedVariables false
set_option linter.unusedSimpArgs false
set_option maxRecDepth 10000
def e12 (K : Nat) : FuncId × TypeId × (List AV -> Bool) × (List AV -> Option D) := (12, 3, jS (q2 fun x y => decide (0 <= intD y) && decide (intD y < (K : Int)) && decide (K <= 101)), ent [34, 3] (f2 fun x y => some (.lit (.int .i64 (szK K x (intD y))))))
def S9 (K : Nat) : Tab := []
end Tn
end
section
namespace Tn
open Go.Ev
set_option linter.unusedVariables false
/- roadbook/roadbookref06.Size -/
def Tz : ay := fun i => if i = 3 then some ([0, 3, 4, 7, 8, 9, 10, 11, 12, 13, 14, 15, 16, 17, 18, 19, 20, 21, 22, 23, 24, 25, 26, 27, 28, 29, 30], [2], []) else none
def EF (P : Program) (fn : Func) (K : Nat) (N n : Nat) (x0 : D) (x1 : Int) (v5 : Int) (v6 : Int) : Option AV := aN (preL Tz (sub [1, 1, 0, 1, 0, 0] (ag fn))) (az P (bT (S9 K) []) Tz N (sub [1, 1, 0, 1, 0, 0] (ag fn))) n ⟨[dead, dat 3 (.lit (.int .i64 x1)), bxp 2 34, dead, dead, dat 3 (.lit (.int .i64 v5)), dat 3 (.lit (.int .i64 v6)), dead, dead, dead, dead, dead, dead, dead, dead, dead, dead, dead, dead, dead, dead, dead, dead, dead, dead, dead, dead, dead, dead, dead, dead], bf [(2, some ⟨34, x0, 0, none⟩)]⟩ (aG 0 (cZ P (bT (S9 K) []) Tz N (sub [1, 1, 1] (ag fn)) (dJ P fn) ))
theorem L9 (K : Nat) (N n : Nat) (x0 : D) (x1 : Int) (v5 : Int) (v6 : Int) : EF Tryz.prog Tryz.f12 K N (n + 1) x0 x1 v5 v6 =
 bif ((decide (v6 < ((ae (af x0 1)).length : Int))) == true) then
  bif decide (v5 <= x1) then
   bif (decide (0 <= v6) && decide (v6 < ((ae (af x0 1)).length : Int))) then
    bif (decide (0 <= (IntKind.wrap .i64 (x1 - v5))) && decide ((IntKind.wrap .i64 (x1 - v5)) < (K : Int)) && decide (K <= 101)) then
     EF Tryz.prog Tryz.f12 K N n x0 x1 (IntKind.wrap .i64 (v5 + (szK K ((ae (af x0 1)).getD (v6).toNat .nil) (IntKind.wrap .i64 (x1 - v5))))) (IntKind.wrap .i64 (v6 + 1))
    else none
   else none
  else some (dat 3 (.lit (.int .i64 v5)))
 else some (dat 3 (.lit (.int .i64 v5))) := by kernel_rfl
theorem t12 (K : Nat) (N : Nat) (x0 : D) (x1 : Int) : aU Tryz.prog (bT (S9 K) []) Tz N Tryz.f12 [dat 34 x0, dat 3 (.lit (.int .i64 x1))] =
 EF Tryz.prog Tryz.f12 K N N x0 x1 1 0 := by kernel_rfl
end Tn
end
section
namespace Tn
open Go.Ev
set_option linter.unusedVariables false
set_option linter.unusedSimpArgs false
set_option maxRecDepth 10000
theorem k12 : FnOK Tryz.prog 12 Tryz.f12 := ⟨Tryz.func12, rfl, by kernel_rfl⟩
theorem sD {K N : Nat} {x0 : D} {most : Int} (hK : most < (K : Int) + 1) (hK2 : K <= 101) (hm0 : 0 <= most) (hl : (fG x0).length <= maxLen) : ∀ (n i : Nat) (c : Int), i <= (fG x0).length -> (fG x0).length - i < n -> 1 <= c -> c <= most + 1 ->
  EF Tryz.prog Tryz.f12 K N n x0 most c (i : Int) = some (dat 3 (.lit (.int .i64 (goS (szK K) most ((fG x0).drop i) c))))
 | 0, i, c, _, h, _, _ => by omega
 | n + 1, i, c, hi, h, hc1, hc2 => by
  rw [L9, show ae (af x0 1) = fG x0 from rfl]
  by_cases hlt : i < (fG x0).length
  ·have h1 : decide ((i : Int) < ((fG x0).length : Int)) = true := by simpa using hlt
   rw [List.drop_eq_getElem_cons hlt, NF, og hlt, h1]
   by_cases h2 : c <= most
   ·have d2 : decide (c <= most) = true := by simpa using h2
    have hw : IntKind.wrap .i64 (most - c) = most - c := wrap_in (by rw [bH]; omega)
    have hp : (decide (0 <= most - c) && decide (most - c < (K : Int)) && decide (K <= 101)) = true := by
     simp only [Bool.and_eq_true, decide_eq_true_eq]
     omega
    obtain ⟨s1, s2⟩ := JV K (fG x0)[i] (most - c) (by omega)
    have hw2 : IntKind.wrap .i64 (c + szK K (fG x0)[i] (most - c)) = c + szK K (fG x0)[i] (most - c) := wrap_in (by rw [bH]; omega)
    rw [d2, hw, hp, Int.toNat_natCast, getD_lt hlt, hw2, jC hl hlt]
    exact sD hK hK2 hm0 hl n (i + 1) _ (by omega) (by omega) (by omega) (by omega)
   ·have d2 : decide (c <= most) = false := by simpa using h2
    rw [d2]
    rfl
  ·have h1 : decide ((i : Int) < ((fG x0).length : Int)) = false := by simpa using hlt
   have h2 : (fG x0).drop i = [] := List.drop_of_length_le (by omega)
   rw [h1, h2]
   rfl
theorem c12 (K : Nat) (henv : EnvOK Tryz.prog (bT (S9 K) [])) : ∀ args d, (e12 (K + 1)).2.2.1 args = true -> (e12 (K + 1)).2.2.2 args = some d -> CallOK Tryz.prog 12 args (aj Tryz.prog 3 d) :=
 qL k12 fun x y d hq h ⟨_, hx⟩ ⟨_, hy⟩ => by
  cases h
  obtain ⟨z, rfl, hz⟩ := iC hy
  rw [n24, n3]
  have hq : (decide (0 <= z) && decide (z < ((K + 1 : Nat) : Int)) && decide (K + 1 <= 101)) = true := hq
  simp only [Bool.and_eq_true, decide_eq_true_eq] at hq
  obtain ⟨hl, _⟩ := ab5 hx
  refine aI hm henv k12 ((t12 K ((fG x).length + 1) x z).trans ?_)
  rw [m3]
  exact sD (K := K) (by omega) (by omega) hq.1.1 hl ((fG x).length + 1) 0 1 (Nat.zero_le _) (by omega) (by omega) (by omega)
theorem ac7 : ∀ K : Nat, EnvOK Tryz.prog (bT (S9 K) [])
 | 0 => aO A7 (fun args d hp hd => by
   exfalso
   have hp : q2 (fun x y => decide (0 <= intD y) && decide (intD y < ((0 : Nat) : Int)) && decide (0 <= 101)) (args.map (·.d)) = true := hp
   unfold q2 at hp
   split at hp
   ·simp only [Bool.and_eq_true, decide_eq_true_eq] at hp
    omega
   ·cases hp)
 | K + 1 => aO A7 (c12 K (ac7 K))
end Tn
end
end Go.Proofs.YtpceahbengfjeaaGreatDoor
