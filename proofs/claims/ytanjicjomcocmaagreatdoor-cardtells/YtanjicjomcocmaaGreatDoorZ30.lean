/- Trees of functions, and lemmas. Nothing here is trusted. -/
import Derived.Test.YtanjicjomcocmaaGreatDoorZ29
import Derived.Test.YtanjicjomcocmaaGreatDoorZ23
namespace Go.Proofs.YtanjicjomcocmaaGreatDoor
section
namespace X
open Go.Ev
set_option linter.unusedVariables false
/- roadbook/roadbookref09.Times -/
def t7_h : Hints := fun i => if i = 4 then some ([1, 2, 6, 7, 8, 9, 10, 11, 12, 13, 14, 15, 16, 17, 18, 19, 20, 21, 22, 23, 24, 25, 26, 27, 28, 29, 30, 31, 32, 33], [], []) else none
def t7_lp4 (P : Program) (fn : Func) (N n : Nat) (x0 : D) (v3 : Int) (v4 : Bool) (v5 : Int) : Option AV := evLoop (preL t7_h (sub [1, 1, 1, 0, 1, 0, 0] (bodyOf fn))) (evCode P (envR R6 [] [] []) t7_h N (sub [1, 1, 1, 0, 1, 0, 0] (bodyOf fn))) n ⟨[dat 25 x0, dead, dead, dat 3 (.lit (.int .i64 v3)), dat 4 (.lit (.bool v4)), dat 3 (.lit (.int .i64 v5)), dead, dead, dead, dead, dead, dead, dead, dead, dead, dead, dead, dead, dead, dead, dead, dead, dead, dead, dead, dead, dead, dead, dead, dead, dead, dead, dead, dead], lookB []⟩ (blockK 0 (seqC P (envR R6 [] [] []) t7_h N (sub [1, 1, 1, 1] (bodyOf fn)) (finK P fn) ))
theorem t7_lp4_step (N n : Nat) (x0 : D) (v3 : Int) (v4 : Bool) (v5 : Int) : t7_lp4 Tryz.prog Tryz.f7 N (n + 1) x0 v3 v4 v5 =
 bif decide (v5 < ((elemsD x0).length : Int)) then
  bif (decide (0 <= v5) && decide (v5 < ((elemsD x0).length : Int))) then
   bif decide ((intD ((elemsD x0).getD (v5).toNat .nil)) <= 0) then
    some (dat 3 (.lit (.int .i64 0)))
   else bif (decide (0 <= v5) && decide (v5 < ((elemsD x0).length : Int))) then
     bif (!((intD ((elemsD x0).getD (v5).toNat .nil)) == 0)) then
      bif decide (v3 > (IntKind.wrap .i64 (Int.tdiv 1099511627776 (intD ((elemsD x0).getD (v5).toNat .nil))))) then
       bif (decide (0 <= v5) && decide (v5 < ((elemsD x0).length : Int))) then
        bif decide ((IntKind.wrap .i64 (1 * (intD ((elemsD x0).getD (v5).toNat .nil)))) > 1099511627776) then
         t7_lp4 Tryz.prog Tryz.f7 N n x0 1 true (IntKind.wrap .i64 (v5 + 1))
        else t7_lp4 Tryz.prog Tryz.f7 N n x0 (IntKind.wrap .i64 (1 * (intD ((elemsD x0).getD (v5).toNat .nil)))) true (IntKind.wrap .i64 (v5 + 1))
       else none
      else bif (decide (0 <= v5) && decide (v5 < ((elemsD x0).length : Int))) then
        bif decide ((IntKind.wrap .i64 (v3 * (intD ((elemsD x0).getD (v5).toNat .nil)))) > 1099511627776) then
         t7_lp4 Tryz.prog Tryz.f7 N n x0 1 true (IntKind.wrap .i64 (v5 + 1))
        else t7_lp4 Tryz.prog Tryz.f7 N n x0 (IntKind.wrap .i64 (v3 * (intD ((elemsD x0).getD (v5).toNat .nil)))) v4 (IntKind.wrap .i64 (v5 + 1))
       else none
     else none
    else none
  else none
 else bif v4 then
   some (dat 3 (.lit (.int .i64 1099511627776)))
  else some (dat 3 (.lit (.int .i64 v3))) := by kernel_rfl
theorem t7 (N : Nat) (x0 : D) : evFn Tryz.prog (envR R6 [] [] []) t7_h N Tryz.f7 [dat 25 x0] =
 t7_lp4 Tryz.prog Tryz.f7 N N x0 1 false 0 := by kernel_rfl

/- roadbook/roadbookref09.Base -/
def t13_h : Hints := fun _ =>  none
theorem t13 (N : Nat) (x0 : D) (x1 : D) (x2 : Int) : evFn Tryz.prog (envR R6 [] [] []) t13_h N Tryz.f13 [dat 24 x0, dat 28 x1, dat 3 (.lit (.int .i64 x2))] =
 bif ((!(mayQ x0 x1)) == false) then
  bif ((decide (x2 < 0)) == false) then
   bif decide (x2 >= ((elemsD (fieldD x1 0)).length : Int)) then
    some (dat 3 (.lit (.int .i64 0)))
   else bif (decide (0 <= x2) && decide (x2 < ((elemsD (fieldD x1 0)).length : Int))) then
     bif (decide (0 <= (intD ((elemsD (fieldD x1 0)).getD (x2).toNat .nil))) && decide ((intD ((elemsD (fieldD x1 0)).getD (x2).toNat .nil)) < ((elemsD (fieldD x0 0)).length : Int))) then
      some (dat 3 (.lit (.int .i64 (intD (fieldD ((elemsD (fieldD x0 0)).getD (intD ((elemsD (fieldD x1 0)).getD (x2).toNat .nil)).toNat .nil) 1)))))
     else none
    else none
  else some (dat 3 (.lit (.int .i64 0)))
 else some (dat 3 (.lit (.int .i64 0))) := by kernel_rfl

end X
end
section
namespace X
open Go.Ev
set_option linter.unusedVariables false
set_option maxRecDepth 10000
set_option linter.unusedSimpArgs false

/-- What is known of the numbers so far: their product, or that it was too great. -/
def upTo (p : Nat) (n : Int) (o : Bool) : Prop := 1 <= n /\ n <= 1099511627776 /\ (o = false -> n = (p : Int)) /\ (o = true -> 1099511627776 < p)
theorem rTimes_loop {N : Nat} {x0 : D} (hl : (elemsD x0).length <= maxLen) (hr : ∀ x ∈ elemsD x0, inR (intD x) = true) : ∀ (n i p : Nat) (v : Int) (o : Bool), i <= (elemsD x0).length -> (elemsD x0).length - i < n -> upTo p v o ->
  t7_lp4 Tryz.prog Tryz.f7 N n x0 v o (i : Int) = some (dat 3 (.lit (.int .i64 ((capN (p * prodN ((elemsD x0).drop i)) : Nat) : Int))))
 | 0, i, p, v, o, _, h, _ => by omega
 | n + 1, i, p, v, o, hi, h, hu => by
  obtain ⟨u1, u2, u3, u4⟩ := hu
  rw [t7_lp4_step]
  by_cases hlt : i < (elemsD x0).length
  ·rw [l_idx hlt, l_lt hlt, cond_true, cond_true, Int.toNat_natCast, l_get hlt, l_wrap hl hlt, List.drop_eq_getElem_cons hlt, prodN, <- Nat.mul_assoc]
   have hin := hr _ (List.getElem_mem hlt)
   generalize hb : intD (elemsD x0)[i] = b at hin
   by_cases h0 : b <= 0
   ·rw [dT h0, cond_true, show b.toNat = 0 by omega, Nat.mul_zero, Nat.zero_mul]
    rfl
   ·have hnz : (!(b == 0)) = true := by
     rw [Bool.not_eq_true', beq_eq_false_iff_ne]
     omega
    rw [dF h0, cond_false, cond_true, hnz, cond_true]
    obtain ⟨m, hm⟩ : ∃ m : Nat, b = ((m + 1 : Nat) : Int) := ⟨b.toNat - 1, by omega⟩
    have hq : Int.tdiv 1099511627776 b = ((1099511627776 / (m + 1) : Nat) : Int) := by
     rw [hm]
     show Int.tdiv ((1099511627776 : Nat) : Int) ((m + 1 : Nat) : Int) = _
     rw [Int.ofNat_tdiv]
    have hkle : 1099511627776 / (m + 1) <= 1099511627776 := Nat.div_le_self _ _
    have hk : 1099511627776 / (m + 1) < v.toNat ↔ 1099511627776 < v.toNat * (m + 1) := Nat.div_lt_iff_lt_mul (Nat.succ_pos m)
    rw [hq]
    generalize 1099511627776 / (m + 1) = k at hkle hk
    rw [l_wrapI (l_in (z := (k : Int)) (by omega) (by omega))]
    have hbn : b.toNat = m + 1 := by omega
    by_cases hgt : v > (k : Int)
    ·have h1 : 1099511627776 < v.toNat * (m + 1) := hk.1 (by omega)
     have hpb : 1099511627776 < p * b.toNat := by
      rw [hbn]
      cases o with
      | false =>
       have hv : v.toNat = p := by have := u3 rfl; omega
       rw [<- hv]; exact h1
      | true => exact Nat.lt_of_lt_of_le (u4 rfl) (Nat.le_mul_of_pos_right _ (Nat.succ_pos m))
     rw [dT hgt, cond_true, Int.one_mul, l_wrapI hin]
     by_cases hbm : b > 1099511627776
     ·rw [dT hbm, cond_true]
      exact rTimes_loop hl hr n (i + 1) _ _ _ (by omega) (by omega) ⟨by omega, by omega, fun h => (by cases h), fun _ => hpb⟩
     ·rw [dF hbm, cond_false]
      exact rTimes_loop hl hr n (i + 1) _ _ _ (by omega) (by omega) ⟨by omega, by omega, fun h => (by cases h), fun _ => hpb⟩
    ·have h1 : v.toNat * (m + 1) <= 1099511627776 := Nat.le_of_not_lt fun hh => hgt (by have := hk.2 hh; omega)
     have hvb : v * b = ((v.toNat * (m + 1) : Nat) : Int) := by
      rw [Int.natCast_mul, hm, Int.toNat_of_nonneg (by omega)]
     rw [dF hgt, cond_false, cond_true, hvb]
     have hge : 1 <= v.toNat * (m + 1) := Nat.mul_pos (by omega) (Nat.succ_pos m)
     generalize hz : v.toNat * (m + 1) = z at h1 hge
     rw [l_wrapI (l_in (z := (z : Int)) (by omega) (by omega)), dF (show ¬ (z : Int) > 1099511627776 by omega), cond_false]
     refine rTimes_loop hl hr n (i + 1) _ _ _ (by omega) (by omega) ⟨by omega, by omega, fun ho => ?_, fun ho => ?_⟩
     ·have hv : v.toNat = p := by have := u3 ho; omega
      rw [<- hz, hv, hbn]
     ·exact Nat.lt_of_lt_of_le (u4 ho) (Nat.le_mul_of_pos_right _ (by omega))
  ·rw [l_ge hlt, cond_false, List.drop_of_length_le (by omega), prodN, Nat.mul_one]
   cases o with
   | true =>
    have := u4 rfl
    have hc : capN p = 1099511627776 := by unfold capN; omega
    rw [hc]
    rfl
   | false =>
    have := u3 rfl
    have hc : capN p = p := capN_small (by omega)
    rw [hc, <- this]
    rfl
def e7 : FuncId × TypeId × (List AV -> Bool) × (List AV -> Option D) := (7, 3, yes, ent [25] (f1 fun x => some (.lit (.int .i64 (timesL 1 (elemsD x))))))
theorem k7 : FnOK Tryz.prog 7 Tryz.f7 := ⟨Tryz.func7, rfl, by kernel_rfl⟩
theorem c7 : ∀ args d, e7.2.2.2 args = some d -> CallOK Tryz.prog 7 args (mkRes Tryz.prog 3 d) :=
 ent1 k7 fun x d h ⟨_, hx⟩ => by
  cases h
  rw [n27]
  refine fn_ok hm envR6 k7 ((t7 ((elemsD x).length + 1) x).trans ?_)
  rw [m3, times_eq]
  have := rTimes_loop (N := (elemsD x).length + 1) (len27 hx) (fun y hy => by
   obtain ⟨es, rfl, _, he⟩ := ty27 hx
   obtain ⟨z, rfl, hz⟩ := he y hy
   exact hz) ((elemsD x).length + 1) 0 1 1 false (Nat.zero_le _) (by omega) ⟨by omega, by omega, fun _ => rfl, fun h => (by cases h)⟩
  rw [List.drop_zero, Nat.one_mul] at this
  exact this
def e13 : FuncId × TypeId × (List AV -> Bool) × (List AV -> Option D) := (13, 3, yes, ent [24, 28, 3] (f3 fun x y z => some (.lit (.int .i64 (baseI x y (intD z))))))
theorem k13 : FnOK Tryz.prog 13 Tryz.f13 := ⟨Tryz.func13, rfl, by kernel_rfl⟩
theorem c13 : ∀ args d, e13.2.2.2 args = some d -> CallOK Tryz.prog 13 args (mkRes Tryz.prog 3 d) :=
 ent3 k13 fun x y z d h _ _ _ => by
  cases h
  rw [nCat, nQry, n3]
  refine fn_ok hm envR6 k13 ((t13 1 x y (intD z)).trans ?_)
  rw [m3]
  unfold baseI
  cases hm : mayQ x y with
  | false => rfl
  | true =>
   obtain ⟨_, ho, _, _⟩ := mayQ_parts hm
   by_cases h0 : intD z < 0
   ·rw [dT h0, dF (show ¬ 0 <= intD z by omega)]; rfl
   ·rw [dF h0]
    by_cases h1 : intD z < ((qOcc y).length : Int)
    ·have e1 : decide (intD z >= ((elemsD (fieldD y 0)).length : Int)) = false := dF (show ¬ intD z >= ((qOcc y).length : Int) by omega)
     have e2 : (decide (0 <= intD z) && decide (intD z < ((elemsD (fieldD y 0)).length : Int))) = true := by
      rw [Bool.and_eq_true, decide_eq_true_eq, decide_eq_true_eq]
      exact ⟨by omega, h1⟩
     obtain ⟨i, hi⟩ : ∃ i : Nat, intD z = (i : Int) := ⟨(intD z).toNat, by omega⟩
     have hb := occ_below ho (i := i) (by omega)
     have e3 : (decide (0 <= (intD ((elemsD (fieldD y 0)).getD (intD z).toNat .nil))) && decide ((intD ((elemsD (fieldD y 0)).getD (intD z).toNat .nil)) < ((elemsD (fieldD x 0)).length : Int))) = true := by
      rw [hi, Int.toNat_natCast, Bool.and_eq_true, decide_eq_true_eq, decide_eq_true_eq]
      exact hb
     rw [e1, e2, e3, dT (show 0 <= intD z by omega), dT h1]; rfl
    ·have e1 : decide (intD z >= ((elemsD (fieldD y 0)).length : Int)) = true := dT (show intD z >= ((qOcc y).length : Int) by omega)
     rw [e1, dT (show 0 <= intD z by omega), dF h1]; rfl
def B1 : Tab := e13 :: e7 :: R6
theorem envB1 : EnvOK Tryz.prog (envH B1 []) := envOK_cons (envOK_cons envR6 c7) c13

end X
end
section
namespace X
open Go.Ev
set_option linter.unusedVariables false
/- roadbook/roadbookref09.Rows -/
def t9_h : Hints := fun i => if i = 6 then some ([0, 1, 5, 6, 7, 10, 11, 12, 13, 14, 15, 16, 17, 18, 19, 20, 21, 22, 23, 24, 25, 26, 27, 28, 29, 30, 31, 32, 33, 34, 35, 36, 37, 38, 39, 40, 41, 42, 43, 44, 45, 46, 47, 48, 49, 50, 51, 52, 53, 54, 55, 56, 57, 58, 59, 60, 61, 62, 63, 64, 65, 66, 67, 68, 69, 70, 71, 72, 73, 74], [3, 4, 8], []) else if i = 14 then some ([0, 1, 2, 3, 5, 6, 7, 9, 10, 14, 15, 16, 17, 18, 19, 20, 21, 22, 23, 24, 25, 26, 27, 28, 29, 30, 31, 32, 33, 34, 35, 36, 37, 38, 39, 40, 41, 42, 43, 44, 45, 46, 47, 48, 49, 50, 51, 52, 53, 54, 55, 56, 57, 58, 59, 60, 61, 62, 63, 64, 65, 66, 67, 68, 69, 70, 71, 72, 73, 74], [4, 8], []) else none
def t9_lp6 (P : Program) (fn : Func) (N n : Nat) (x0 : D) (x1 : D) (x2 : Int) (v9 : Int) (b8 : List D) : Option AV := evLoop (preL t9_h (sub [1, 1, 1, 1, 0, 1, 0, 0] (bodyOf fn))) (evCode P (envR B1 [] [] []) t9_h N (sub [1, 1, 1, 1, 0, 1, 0, 0] (bodyOf fn))) n ⟨[dead, dead, dat 3 (.lit (.int .i64 x2)), bxp 3 24, bxp 4 28, dead, dead, dead, bxp 8 25, dat 3 (.lit (.int .i64 v9)), dead, dead, dead, dead, dead, dead, dead, dead, dead, dead, dead, dead, dead, dead, dead, dead, dead, dead, dead, dead, dead, dead, dead, dead, dead, dead, dead, dead, dead, dead, dead, dead, dead, dead, dead, dead, dead, dead, dead, dead, dead, dead, dead, dead, dead, dead, dead, dead, dead, dead, dead, dead, dead, dead, dead, dead, dead, dead, dead, dead, dead, dead, dead, dead, dead], lookB [(3, some ⟨24, x0, 0, none⟩), (4, some ⟨28, x1, 0, none⟩), (8, some ⟨25, .slice b8 [], 1, none⟩)]⟩ (blockK 0 (seqC P (envR B1 [] [] []) t9_h N (sub [1, 1, 1, 1, 1] (bodyOf fn)) (finK P fn) ))
def t9_lp14 (P : Program) (fn : Func) (N n : Nat) (x0 : D) (x1 : D) (x2 : Int) (v9 : Int) (b8 : List D) (m0 : Nat) (v11 : Int) (v13 : Int) : Option AV := evLoop (preL t9_h (sub [1, 1, 1, 1, 1, 1, 1, 0, 1, 0, 0] (bodyOf fn))) (evCode P (envR B1 [] [] []) t9_h N (sub [1, 1, 1, 1, 1, 1, 1, 0, 1, 0, 0] (bodyOf fn))) n ⟨[dead, dead, dead, dead, bxp 4 28, dead, dead, dead, bxp 8 25, dead, dead, dat 3 (.lit (.int .i64 v11)), dat 25 (.slice (ownL x1 x2) []), dat 3 (.lit (.int .i64 v13)), dead, dead, dead, dead, dead, dead, dead, dead, dead, dead, dead, dead, dead, dead, dead, dead, dead, dead, dead, dead, dead, dead, dead, dead, dead, dead, dead, dead, dead, dead, dead, dead, dead, dead, dead, dead, dead, dead, dead, dead, dead, dead, dead, dead, dead, dead, dead, dead, dead, dead, dead, dead, dead, dead, dead, dead, dead, dead, dead, dead, dead], lookB [(4, some ⟨28, x1, 0, none⟩), (8, some ⟨25, .slice b8 [], 1, none⟩)]⟩ (blockK 2 (seqC P (envR B1 [] [] []) t9_h N (sub [1, 1, 1, 1, 1, 1, 1, 1] (bodyOf fn)) (finK P fn) ))
theorem t9_lp14_step (N n : Nat) (x0 : D) (x1 : D) (x2 : Int) (v9 : Int) (b8 : List D) (m0 : Nat) (v11 : Int) (v13 : Int) : t9_lp14 Tryz.prog Tryz.f9 N (n + 1) x0 x1 x2 v9 b8 m0 v11 v13 =
 bif decide (v13 < ((ownL x1 x2).length : Int)) then
  bif (decide (0 <= v13) && decide (v13 < ((ownL x1 x2).length : Int))) then
   bif (decide (0 <= (intD ((ownL x1 x2).getD (v13).toNat .nil))) && decide ((intD ((ownL x1 x2).getD (v13).toNat .nil)) < ((elemsD (fieldD x1 1)).length : Int))) then
    bif pairE ((elemsD (fieldD x1 1)).getD (intD ((ownL x1 x2).getD (v13).toNat .nil)).toNat .nil) then
     t9_lp14 Tryz.prog Tryz.f9 N n x0 x1 x2 v9 b8 m0 (IntKind.wrap .i64 (v11 * 10)) (IntKind.wrap .i64 (v13 + 1))
    else t9_lp14 Tryz.prog Tryz.f9 N n x0 x1 x2 v9 b8 m0 (IntKind.wrap .i64 (v11 * 3)) (IntKind.wrap .i64 (v13 + 1))
   else none
  else none
 else bif (!(v11 == 0)) then
   bif decide ((IntKind.wrap .i64 (Int.tdiv (timesL 1 b8) v11)) < 1) then
    some (dat 3 (.lit (.int .i64 1)))
   else some (dat 3 (.lit (.int .i64 (IntKind.wrap .i64 (Int.tdiv (timesL 1 b8) v11)))))
  else none := by kernel_rfl
theorem t9_lp6_step (N n : Nat) (x0 : D) (x1 : D) (x2 : Int) (v9 : Int) (b8 : List D) : t9_lp6 Tryz.prog Tryz.f9 N (n + 1) x0 x1 x2 v9 b8 =
 bif decide (v9 < ((elemsD (fieldD x1 0)).length : Int)) then
  bif bitB x2 v9 then
   bif decide ((b8).length + 1 <= 2147483648) then
    t9_lp6 Tryz.prog Tryz.f9 N n x0 x1 x2 (IntKind.wrap .i64 (v9 + 1)) (b8 ++ [.lit (.int .i64 (baseI x0 x1 v9))])
   else none
  else t9_lp6 Tryz.prog Tryz.f9 N n x0 x1 x2 (IntKind.wrap .i64 (v9 + 1)) b8
 else bif decide ((qP x1).length <= 2147483647) then
   t9_lp14 Tryz.prog Tryz.f9 N N x0 x1 x2 v9 b8 n 1 0
  else none := by kernel_rfl
theorem t9 (N : Nat) (x0 : D) (x1 : D) (x2 : Int) : evFn Tryz.prog (envR B1 [] [] []) t9_h N Tryz.f9 [dat 24 x0, dat 28 x1, dat 3 (.lit (.int .i64 x2))] =
 bif (!(mayQ x0 x1)) then
  some (dat 3 (.lit (.int .i64 0)))
 else t9_lp6 Tryz.prog Tryz.f9 N N x0 x1 x2 0 [] := by kernel_rfl

end X
end
section
namespace X
open Go.Ev
set_option linter.unusedVariables false
set_option maxRecDepth 10000
set_option linter.unusedSimpArgs false

theorem rdiv_loop {N m0 : Nat} {c q : D} {s v9 : Int} {l : List D} (h6 : (qP q).length <= 6) : ∀ (n i v : Nat), i <= (ownL q s).length -> (ownL q s).length - i < n -> 1 <= v -> v * 10 ^ ((ownL q s).length - i) <= 1000000 ->
  t9_lp14 Tryz.prog Tryz.f9 N n c q s v9 l m0 (v : Int) (i : Int) = some (dat 3 (.lit (.int .i64 ((max 1 (capN (prodN l) / (v * dvl (qP q) ((ownL q s).drop i))) : Nat) : Int))))
 | 0, i, v, _, h, _, _ => by omega
 | n + 1, i, v, hi, h, hv, hb => by
  have hol : (ownL q s).length <= 6 := by
   unfold ownL
   rw [plc_len]
   exact Nat.le_trans List.countP_le_length h6
  rw [t9_lp14_step]
  by_cases hlt : i < (ownL q s).length
  ·obtain ⟨k, hk, hx⟩ := own_at hlt
   have hg : (ownL q s).getD i .nil = litI (k : Int) := by rw [l_get hlt, hx]
   have hki : intD (litI (k : Int)) = (k : Int) := rfl
   have b1 : (decide (0 <= (k : Int)) && decide ((k : Int) < ((elemsD (fieldD q 1)).length : Int))) = true := l_idx hk
   have hw : IntKind.wrap .i64 ((i : Int) + 1) = ((i + 1 : Nat) : Int) := by rw [l_wrapI (l_in (by omega) (by omega))]; rfl
   have hdv := dv_pos ((qP q).getD k .nil)
   have hr : (ownL q s).length - i = ((ownL q s).length - (i + 1)) + 1 := by omega
   have hp : 1 <= 10 ^ ((ownL q s).length - (i + 1)) := Nat.pos_of_ne_zero (by simp)
   have hb' : v * dv ((qP q).getD k .nil) * 10 ^ ((ownL q s).length - (i + 1)) <= 1000000 := by
    refine Nat.le_trans ?_ hb
    rw [hr, Nat.pow_succ, Nat.mul_assoc]
    refine Nat.mul_le_mul_left _ ?_
    rw [Nat.mul_comm]
    exact Nat.mul_le_mul_left _ hdv.2
   have hvb : v * dv ((qP q).getD k .nil) <= 1000000 := Nat.le_trans (Nat.le_mul_of_pos_right _ hp) hb'
   have ih := rdiv_loop (N := N) (m0 := m0) (c := c) (s := s) (v9 := v9) (l := l) h6 n (i + 1) _ (by omega) (by omega) (Nat.mul_pos hv (by omega)) hb'
   rw [l_idx hlt, l_lt hlt, cond_true, cond_true, Int.toNat_natCast, hg, hki, b1, cond_true, Int.toNat_natCast, hw, List.drop_eq_getElem_cons hlt, hx]
   have e2 : dvl (qP q) (litI (k : Int) :: (ownL q s).drop (i + 1)) = dv ((qP q).getD k .nil) * dvl (qP q) ((ownL q s).drop (i + 1)) := rfl
   rw [e2, <- Nat.mul_assoc, <- ih]
   show (bif pairE ((qP q).getD k .nil) then _ else _) = _
   have hdd : dv ((qP q).getD k .nil) = bif pairE ((qP q).getD k .nil) then 10 else 3 := rfl
   rw [hdd] at hvb ⊢
   cases hpe : pairE ((qP q).getD k .nil) with
   | true =>
    rw [hpe] at hvb
    have hvb : v * 10 <= 1000000 := hvb
    rw [cond_true, cond_true, show ((v : Int) * 10) = ((v * 10 : Nat) : Int) by rw [Int.natCast_mul]; rfl, l_wrapI (l_in (by omega) (by omega))]
   | false =>
    rw [hpe] at hvb
    have hvb : v * 3 <= 1000000 := hvb
    rw [cond_false, cond_false, show ((v : Int) * 3) = ((v * 3 : Nat) : Int) by rw [Int.natCast_mul]; rfl, l_wrapI (l_in (by omega) (by omega))]
  ·have hnz : (!((v : Int) == 0)) = true := by
    rw [Bool.not_eq_true', beq_eq_false_iff_ne]
    omega
   have e2 : dvl (qP q) [] = 1 := rfl
   have hc := capN_le (prodN l)
   have hd : capN (prodN l) / v <= capN (prodN l) := Nat.div_le_self _ _
   rw [l_ge hlt, cond_false, List.drop_of_length_le (by omega), e2, Nat.mul_one, hnz, cond_true, times_eq, <- Int.ofNat_tdiv]
   generalize capN (prodN l) / v = z at hd
   rw [l_wrapI (l_in (by omega) (by omega))]
   by_cases hz : (z : Int) < 1
   ·rw [dT hz, cond_true, show max 1 z = 1 by omega]
    rfl
   ·rw [dF hz, cond_false, show max 1 z = z by omega]
theorem rbases_loop {N : Nat} {c q : D} {s : Int} (hm : mayQ c q = true) (hN : 7 <= N) : ∀ (n i : Nat) (l : List D), i <= (qOcc q).length -> (qOcc q).length - i < n -> l.length <= i -> l ++ basesF c q s (List.range' i ((qOcc q).length - i)) = basesL c q s ->
  t9_lp6 Tryz.prog Tryz.f9 N n c q s (i : Int) l = some (dat 3 (.lit (.int .i64 ((rowsN c q s : Nat) : Int))))
 | 0, i, l, _, h, _, _ => by omega
 | n + 1, i, l, hi, h, hle, hl => by
  obtain ⟨h1, ho, h6, _⟩ := mayQ_parts hm
  have h4 := occ_len9 ho
  rw [t9_lp6_step]
  by_cases hlt : i < (qOcc q).length
  ·have hr : (qOcc q).length - i = ((qOcc q).length - (i + 1)) + 1 := by omega
   have hw : IntKind.wrap .i64 ((i : Int) + 1) = ((i + 1 : Nat) : Int) := by rw [l_wrapI (l_in (by omega) (by omega))]; rfl
   have e1 : decide ((i : Int) < ((elemsD (fieldD q 0)).length : Int)) = true := l_lt hlt
   have hbase : baseI c q (i : Int) = rowsC c q (i : Int) := by
    unfold baseI
    rw [hm, l_idx hlt]
    rfl
   rw [hr, List.range'_succ] at hl
   have hb : basesF c q s (i :: List.range' (i + 1) ((qOcc q).length - (i + 1))) = (bif memB s (i : Int) then [litI (rowsC c q (i : Int))] else []) ++ basesF c q s (List.range' (i + 1) ((qOcc q).length - (i + 1))) := rfl
   rw [hb] at hl
   rw [e1, cond_true, hw, bit_mem (show i < 4 by omega)]
   cases hs : memB s (i : Int) with
   | true =>
    rw [hs, cond_true] at hl
    rw [cond_true, dT (show l.length + 1 <= 2147483648 by omega), cond_true, hbase]
    refine rbases_loop hm hN n (i + 1) _ (by omega) (by omega) (by simp; omega) ?_
    rw [<- hl, List.append_assoc]
    rfl
   | false =>
    rw [hs, cond_false, List.nil_append] at hl
    rw [cond_false]
    exact rbases_loop hm hN n (i + 1) _ (by omega) (by omega) (by omega) hl
  ·have e1 : decide ((i : Int) < ((elemsD (fieldD q 0)).length : Int)) = false := l_ge hlt
   rw [show (qOcc q).length - i = 0 by omega] at hl
   have hl : l = basesL c q s := by rw [<- hl]; simp [basesF]
   rw [e1, cond_false, dT (show (qP q).length <= 2147483647 by omega), cond_true]
   have hol : (ownL q s).length <= 6 := by
    unfold ownL
    rw [plc_len]
    exact Nat.le_trans List.countP_le_length h6
   have := rdiv_loop (N := N) (c := c) (q := q) (s := s) (v9 := (i : Int)) (l := l) (m0 := n) h6 N 0 1 (Nat.zero_le _) (by omega) (Nat.le_refl _) (by
    rw [Nat.one_mul, Nat.sub_zero]
    exact Nat.le_trans (Nat.pow_le_pow_right (by omega) hol) (by decide))
   rw [List.drop_zero, Nat.one_mul, dvl_own] at this
   refine (show t9_lp14 Tryz.prog Tryz.f9 N N c q s (i : Int) l n 1 0 = _ from this).trans ?_
   rw [hl]
   rfl
def e9 : FuncId × TypeId × (List AV -> Bool) × (List AV -> Option D) := (9, 3, yes, ent [24, 28, 3] (f3 fun x y z => some (.lit (.int .i64 (rowsI x y (intD z))))))
theorem k9 : FnOK Tryz.prog 9 Tryz.f9 := ⟨Tryz.func9, rfl, by kernel_rfl⟩
theorem c9 : ∀ args d, e9.2.2.2 args = some d -> CallOK Tryz.prog 9 args (mkRes Tryz.prog 3 d) :=
 ent3 k9 fun x y z d h _ _ _ => by
  cases h
  rw [nCat, nQry, n3]
  refine fn_ok hm envB1 k9 ((t9 10 x y (intD z)).trans ?_)
  rw [m3]
  unfold rowsI
  cases hmq : mayQ x y with
  | false => rfl
  | true =>
   have h4 := occ_len9 (mayQ_parts hmq).2.1
   rw [show (!true) = false from rfl, cond_false, cond_true]
   refine rbases_loop hmq (by omega) 10 0 [] (Nat.zero_le _) (by omega) (Nat.zero_le _) ?_
   unfold basesL
   rw [List.range_eq_range', List.nil_append, Nat.sub_zero]
def B2 : Tab := e9 :: B1
theorem envB2 : EnvOK Tryz.prog (envH B2 []) := envOK_cons envB1 c9

end X
end
section
namespace X
open Go.Ev
set_option linter.unusedVariables false
/- roadbook/roadbookref09.Groups -/
def t11_h : Hints := fun _ =>  none
theorem t11 (N : Nat) (x0 : D) (x1 : D) : evFn Tryz.prog (envR B2 [] [] []) t11_h N Tryz.f11 [dat 24 x0, dat 28 x1] =
 bif (!(mayQ x0 x1)) then
  some (dat 3 (.lit (.int .i64 0)))
 else bif decide ((IntKind.wrap .i64 (Int.tdiv (rowsI x0 x1 15) 5)) < 1) then
   some (dat 3 (.lit (.int .i64 1)))
  else some (dat 3 (.lit (.int .i64 (IntKind.wrap .i64 (Int.tdiv (rowsI x0 x1 15) 5))))) := by kernel_rfl

end X
end
section
namespace X
open Go.Ev
set_option linter.unusedVariables false
set_option maxRecDepth 10000
set_option linter.unusedSimpArgs false

def e11 : FuncId × TypeId × (List AV -> Bool) × (List AV -> Option D) := (11, 3, yes, ent [24, 28] (f2 fun x y => some (.lit (.int .i64 (groupsI x y)))))
theorem k11 : FnOK Tryz.prog 11 Tryz.f11 := ⟨Tryz.func11, rfl, by kernel_rfl⟩
theorem c11 : ∀ args d, e11.2.2.2 args = some d -> CallOK Tryz.prog 11 args (mkRes Tryz.prog 3 d) :=
 ent2 k11 fun x y d h _ _ => by
  cases h
  rw [nCat, nQry]
  refine fn_ok hm envB2 k11 ((t11 1 x y).trans ?_)
  rw [m3]
  cases hmq : mayQ x y with
  | false => unfold groupsI; rw [hmq]; rfl
  | true =>
   have e1 : groupsI x y = ((max 1 (rowsN x y 15 / 5) : Nat) : Int) := by unfold groupsI; rw [hmq]; rfl
   have h1 := rowsN_le x y 15
   have h2 : rowsN x y 15 / 5 <= rowsN x y 15 := Nat.div_le_self _ _
   rw [show (!true) = false from rfl, cond_false, e1, rowsI_may hmq, show (5 : Int) = ((5 : Nat) : Int) from rfl, <- Int.ofNat_tdiv, l_wrapI (l_in (by omega) (by omega))]
   by_cases hz : ((rowsN x y 15 / 5 : Nat) : Int) < 1
   ·rw [dT hz, cond_true, show max 1 (rowsN x y 15 / 5) = 1 by omega]
    rfl
   ·rw [dF hz, cond_false, show max 1 (rowsN x y 15 / 5) = rowsN x y 15 / 5 by omega]
    rfl
def B3 : Tab := e11 :: B2
theorem envB3 : EnvOK Tryz.prog (envH B3 []) := envOK_cons envB2 c11

end X
end
section
namespace X
open Go.Ev
set_option linter.unusedVariables false
/- roadbook/roadbooklaw09.CardTells -/
def t3_h : Hints := fun _ =>  none
theorem t3 (N : Nat) (x0 : D) (x1 : D) (x2 : Int) (x3 : Int) (x4 : D) : evFn Tryz.prog (envR B3 [] [] []) t3_h N Tryz.f3 [dat 24 x0, dat 28 x1, dat 3 (.lit (.int .i64 x2)), dat 3 (.lit (.int .i64 x3)), dat 25 x4] =
 bif (((farI x0 x1) != 0) == false) then
  bif decide (((elemsD x4).length : Int) > 100) then
   some (dat 4 (.lit (.bool true)))
  else bif (((timesL 1 (elemsD x4)) == (timesL 1 (elemsD x4))) == true) then
    bif (((rowsI x0 x1 x2) == (rowsI x0 x1 x2)) == true) then
     bif (((groupsI x0 x1) == (groupsI x0 x1)) == true) then
      some (dat 4 (.lit (.bool ((baseI x0 x1 x3) == (baseI x0 x1 x3)))))
     else some (dat 4 (.lit (.bool false)))
    else some (dat 4 (.lit (.bool false)))
   else some (dat 4 (.lit (.bool false)))
 else some (dat 4 (.lit (.bool true))) := by kernel_rfl

end X
end
section
namespace X
open Go.Ev
set_option linter.unusedVariables false
set_option maxRecDepth 10000
set_option linter.unusedSimpArgs false

theorem k3 : FnOK Tryz.prog 3 Tryz.f3 := ⟨Tryz.func3, rfl, by kernel_rfl⟩
theorem lawTells {n0 n1 n2 n3 n4 : Nat} {c q x y z : D} (h0 : Ty Tryz.prog n0 24 c) (h1 : Ty Tryz.prog n1 28 q) (h2 : Ty Tryz.prog n2 3 x) (h3 : Ty Tryz.prog n3 3 y) (h4 : Ty Tryz.prog n4 25 z) : CallOK Tryz.prog 3 [dat 24 c, dat 28 q, dat 3 x, dat 3 y, dat 25 z] (dat 4 (.lit (.bool true))) := by
 obtain ⟨a, rfl, _⟩ := ty3' h2
 obtain ⟨b, rfl, _⟩ := ty3' h3
 refine law_ok envB3 k3 ((t3 1 c q a b z).trans ?_)
 rw [show (timesL 1 (elemsD z) == timesL 1 (elemsD z)) = true from beq_self_eq_true _, show (rowsI c q a == rowsI c q a) = true from beq_self_eq_true _, show (groupsI c q == groupsI c q) = true from beq_self_eq_true _, show (baseI c q b == baseI c q b) = true from beq_self_eq_true _]
 cases (farI c q != 0) <;> cases decide (((elemsD z).length : Int) > 100) <;> rfl

end X
end
end Go.Proofs.YtanjicjomcocmaaGreatDoor
