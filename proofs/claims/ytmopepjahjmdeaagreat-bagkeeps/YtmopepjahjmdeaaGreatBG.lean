/- BagKeeps: what is kept one behind the other is kept by all at once, in any order; of bags that are crossed, too. Proved for every world, every order, every argument that the statement takes. -/
import Derived.Test.YtmopepjahjmdeaaGreatBF
import Derived.Test.YtmopepjahjmdeaaGreatCB
import Derived.Test.YtmopepjahjmdeaaGreatVPm
import Derived.Test.YtmopepjahjmdeaaGreatWC
import Derived.WalkKit
import Derived.ProofKit
import Derived.OpenShut
import Derived.ShutString
import Derived.ChangeOld
import Derived.Below
namespace Go.Proofs.YtmopepjahjmdeaaGreat
open Go.Ev
set_option linter.unusedVariables false

def BC : Tab := e12 :: BA
theorem envBC : EnvOK Tryz.prog (envR BC [] [] []) := envOK_cons envBA c12

end Go.Proofs.YtmopepjahjmdeaaGreat

namespace Go.Proofs.YtmopepjahjmdeaaGreat
open Go.Ev
set_option linter.unusedVariables false
/- roadbook/roadbooklaw03.BagKeeps -/
def t3_h : Hints := fun i => if i = 14 then some ([0, 1, 3, 6, 7, 8, 9, 10, 11, 12, 13, 14, 15, 16, 18, 19, 20, 21, 22, 23, 24, 25, 26, 27, 28, 29, 30, 31, 32, 33, 34, 35, 36, 37, 38, 39, 40, 41, 42, 43, 44, 45, 46, 47, 48, 49, 50, 51, 52, 53, 54, 55, 56, 57, 58, 59, 60, 61, 62, 63, 64, 65, 66, 67, 68, 69, 70, 71, 72, 73, 74, 75, 76, 77, 78, 79, 80, 81, 82, 83, 84, 85, 86, 87, 88, 89, 90, 91, 92, 93, 94, 95, 96, 97, 98, 99, 100, 101, 102, 103, 104, 105, 106, 107, 108, 109, 110, 111, 112, 113, 114, 115, 116, 117, 118, 119, 120, 121, 122, 123, 124, 125, 126, 127, 128, 129, 130, 131, 132, 133, 134, 135, 136, 137], [4, 5], []) else if i = 18 then some ([0, 1, 3, 6, 7, 8, 9, 10, 11, 12, 13, 14, 15, 16, 20, 21, 22, 23, 24, 25, 26, 27, 28, 29, 30, 31, 32, 33, 34, 35, 36, 37, 38, 39, 40, 41, 42, 43, 44, 45, 46, 47, 48, 49, 50, 51, 52, 53, 54, 55, 56, 57, 58, 59, 60, 61, 62, 63, 64, 65, 66, 67, 68, 69, 70, 71, 72, 73, 74, 75, 76, 77, 78, 79, 80, 81, 82, 83, 84, 85, 86, 87, 88, 89, 90, 91, 92, 93, 94, 95, 96, 97, 98, 99, 100, 101, 102, 103, 104, 105, 106, 107, 108, 109, 110, 111, 112, 113, 114, 115, 116, 117, 118, 119, 120, 121, 122, 123, 124, 125, 126, 127, 128, 129, 130, 131, 132, 133, 134, 135, 136, 137], [4, 5], []) else none
def t3_lp14 (P : Program) (fn : Func) (N n : Nat) (x0 : D) (x1 : D) (x2 : D) (x3 : D) (v17 : Int) : Option AV := evLoop (preL t3_h (sub [1, 1, 1, 1, 1, 1, 1, 1, 1, 1, 1, 0, 1, 0, 0] (bodyOf fn))) (evCode P (envR BC [] [] []) t3_h N (sub [1, 1, 1, 1, 1, 1, 1, 1, 1, 1, 1, 0, 1, 0, 0] (bodyOf fn))) n ⟨[dead, dead, dat 26 x2, dead, bxp 4 25, bxp 5 25, dead, dead, dead, dead, dead, dead, dead, dead, dead, dead, dead, dat 3 (.lit (.int .i64 v17)), dead, dead, dead, dead, dead, dead, dead, dead, dead, dead, dead, dead, dead, dead, dead, dead, dead, dead, dead, dead, dead, dead, dead, dead, dead, dead, dead, dead, dead, dead, dead, dead, dead, dead, dead, dead, dead, dead, dead, dead, dead, dead, dead, dead, dead, dead, dead, dead, dead, dead, dead, dead, dead, dead, dead, dead, dead, dead, dead, dead, dead, dead, dead, dead, dead, dead, dead, dead, dead, dead, dead, dead, dead, dead, dead, dead, dead, dead, dead, dead, dead, dead, dead, dead, dead, dead, dead, dead, dead, dead, dead, dead, dead, dead, dead, dead, dead, dead, dead, dead, dead, dead, dead, dead, dead, dead, dead, dead, dead, dead, dead, dead, dead, dead, dead, dead, dead, dead, dead, dead], lookB [(4, some ⟨25, x0, 0, none⟩), (5, some ⟨25, x1, 0, none⟩)]⟩ (blockK 0 (seqC P (envR BC [] [] []) t3_h N (sub [1, 1, 1, 1, 1, 1, 1, 1, 1, 1, 1, 1] (bodyOf fn)) (finK P fn) ))
def t3_lp18 (P : Program) (fn : Func) (N n : Nat) (x0 : D) (x1 : D) (x2 : D) (x3 : D) (v17 : Int) (m0 : Nat) (v19 : Int) : Option AV := evLoop (preL t3_h (sub [1, 1, 1, 1, 1, 1, 1, 1, 1, 1, 1, 0, 1, 0, 0, 1, 0, 0, 1, 1, 0, 0] (bodyOf fn))) (evCode P (envR BC [] [] []) t3_h N (sub [1, 1, 1, 1, 1, 1, 1, 1, 1, 1, 1, 0, 1, 0, 0, 1, 0, 0, 1, 1, 0, 0] (bodyOf fn))) n ⟨[dead, dead, dat 26 x2, dead, bxp 4 25, bxp 5 25, dead, dead, dead, dead, dead, dead, dead, dead, dead, dead, dead, dat 3 (.lit (.int .i64 v17)), dat 22 (.slice (colsE ((elemsD x2).getD (v17).toNat .nil)) []), dat 3 (.lit (.int .i64 v19)), dead, dead, dead, dead, dead, dead, dead, dead, dead, dead, dead, dead, dead, dead, dead, dead, dead, dead, dead, dead, dead, dead, dead, dead, dead, dead, dead, dead, dead, dead, dead, dead, dead, dead, dead, dead, dead, dead, dead, dead, dead, dead, dead, dead, dead, dead, dead, dead, dead, dead, dead, dead, dead, dead, dead, dead, dead, dead, dead, dead, dead, dead, dead, dead, dead, dead, dead, dead, dead, dead, dead, dead, dead, dead, dead, dead, dead, dead, dead, dead, dead, dead, dead, dead, dead, dead, dead, dead, dead, dead, dead, dead, dead, dead, dead, dead, dead, dead, dead, dead, dead, dead, dead, dead, dead, dead, dead, dead, dead, dead, dead, dead, dead, dead, dead, dead, dead, dead], lookB [(4, some ⟨25, x0, 0, none⟩), (5, some ⟨25, x1, 0, none⟩)]⟩ (blockK 2 (blockK 1 (seqC P (envR BC [] [] []) t3_h N (sub [1, 1, 1, 1, 1, 1, 1, 1, 1, 1, 1, 0, 1, 0, 0, 1, 1] (bodyOf fn)) (seqK (fun s => evLoop (preL t3_h (sub [1, 1, 1, 1, 1, 1, 1, 1, 1, 1, 1, 0, 1, 0, 0] (bodyOf fn))) (evCode P (envR BC [] [] []) t3_h N (sub [1, 1, 1, 1, 1, 1, 1, 1, 1, 1, 1, 0, 1, 0, 0] (bodyOf fn))) m0 ((preL t3_h (sub [1, 1, 1, 1, 1, 1, 1, 1, 1, 1, 1, 0, 1, 0, 0] (bodyOf fn))) s) (blockK 0 (seqC P (envR BC [] [] []) t3_h N (sub [1, 1, 1, 1, 1, 1, 1, 1, 1, 1, 1, 1] (bodyOf fn)) (finK P fn) ))) (blockK 0 (seqC P (envR BC [] [] []) t3_h N (sub [1, 1, 1, 1, 1, 1, 1, 1, 1, 1, 1, 1] (bodyOf fn)) (finK P fn) ))) )))
theorem t3_lp18_step  (N n : Nat) (x0 : D) (x1 : D) (x2 : D) (x3 : D) (v17 : Int) (m0 : Nat) (v19 : Int) : t3_lp18 Tryz.prog Tryz.f3 N (n + 1) x0 x1 x2 x3 v17 m0 v19 =
  bif decide (v19 < ((colsE ((elemsD x2).getD (v17).toNat .nil)).length : Int)) then
    bif (decide (0 ≤ v19) && decide (v19 < ((colsE ((elemsD x2).getD (v17).toNat .nil)).length : Int))) then
      bif decide ((placeI (elemsD (fieldD x0 0)) (intD ((colsE ((elemsD x2).getD (v17).toNat .nil)).getD (v19).toNat .nil))) < 0) then
        some (dat 4 (.lit (.bool true)))
      else t3_lp18 Tryz.prog Tryz.f3 N n x0 x1 x2 x3 v17 m0 (IntKind.wrap .i64 (v19 + 1))
    else none
  else t3_lp14 Tryz.prog Tryz.f3 N m0 x0 x1 x2 x3 (IntKind.wrap .i64 (v17 + 1)) := by kernel_rfl
theorem t3_lp14_step  (N n : Nat) (x0 : D) (x1 : D) (x2 : D) (x3 : D) (v17 : Int) : t3_lp14 Tryz.prog Tryz.f3 N (n + 1) x0 x1 x2 x3 v17 =
  bif decide (v17 < ((elemsD x2).length : Int)) then
    bif (decide (0 ≤ v17) && decide (v17 < ((elemsD x2).length : Int))) then
      t3_lp18 Tryz.prog Tryz.f3 N N x0 x1 x2 x3 v17 n 0
    else none
  else bif sortOK x0 then
      bif ((!(crossOK x0 x1)) == false) then
        bif ((crossOK (keepBag x0 (elemsD x2)) x1) == true) then
          bif sortOK (crossBag x0 x1) then
            some (dat 4 (.lit (.bool (likeB (keepBag (crossBag x0 x1) (elemsD x2)) (crossBag (keepBag x0 (elemsD x2)) x1)))))
          else none
        else some (dat 4 (.lit (.bool false)))
      else some (dat 4 (.lit (.bool true)))
    else none := by kernel_rfl
theorem t3 (N : Nat) (x0 : D) (x1 : D) (x2 : D) (x3 : D) : evFn Tryz.prog (envR BC [] [] []) t3_h N Tryz.f3 [dat 25 x0, dat 25 x1, dat 26 x2, dat 26 x3] =
  bif ((!(fewBagB x0 30)) == false) then
    bif ((!(fewBagB x1 30)) == false) then
      bif ((!(lightB (elemsD x2))) == false) then
        bif (!(lightB (elemsD x3))) then
          some (dat 4 (.lit (.bool true)))
        else bif decide ((elemsD x2).length ≤ 2147483648) then
            bif decide ((elemsD x2).length + (elemsD x3).length ≤ 2147483648) then
              bif sortOK x0 then
                bif sortOK (keepBag x0 (elemsD x2)) then
                  bif sortOK x0 then
                    bif sortOK (keepBag x0 (elemsD x3)) then
                      bif sortOK x0 then
                        bif ((!(likeB (keepBag (keepBag x0 (elemsD x2)) (elemsD x3)) (keepBag x0 ((elemsD x2) ++ (elemsD x3))))) == false) then
                          bif ((!(likeB (keepBag (keepBag x0 (elemsD x2)) (elemsD x3)) (keepBag (keepBag x0 (elemsD x3)) (elemsD x2)))) == false) then
                            bif decide (((elemsD (fieldD (keepBag (keepBag x0 (elemsD x2)) (elemsD x3)) 1)).length : Int) > ((elemsD (fieldD x0 1)).length : Int)) then
                              some (dat 4 (.lit (.bool false)))
                            else t3_lp14 Tryz.prog Tryz.f3 N N x0 x1 x2 x3 0
                          else some (dat 4 (.lit (.bool false)))
                        else some (dat 4 (.lit (.bool false)))
                      else none
                    else none
                  else none
                else none
              else none
            else none
          else none
      else some (dat 4 (.lit (.bool true)))
    else some (dat 4 (.lit (.bool true)))
  else some (dat 4 (.lit (.bool true))) := by kernel_rfl

end Go.Proofs.YtmopepjahjmdeaaGreat

namespace Go.Proofs.YtmopepjahjmdeaaGreat
open Go.Ev
set_option linter.unusedVariables false
set_option maxRecDepth 10000
set_option linter.unusedSimpArgs false

/-- An expression all of whose columns are a bag's keeps a row just if it keeps it with another one behind it. -/
theorem keeps_app {cs cs' x y : List D} {e : D} (hl : x.length = cs.length) (h2 : ∀ c ∈ colsE e, 0 ≤ placeI cs (intD c)) : keepsE e (cs ++ cs') (x ++ y) = keepsE e cs x := by
  unfold keepsE evalE
  cases hm : mayE e with
  | false => rw [cond_false, cond_false]
  | true =>
    rw [cond_true, cond_true]
    have key : evalK (cs ++ cs') (x ++ y) 7 e = evalK cs x 7 e := by
      refine X.eval_same 7 e fun z hz => ?_
      have hz2 : litI z ∈ colsE e := by
        rw [X.colsE_eq hm]
        exact List.mem_map.2 ⟨z, X.mem_cset.2 hz, rfl⟩
      exact at_app (place_has (h2 _ hz2)) hl
    rw [key]
theorem keep_cross {cs rs cs' rs' l : List D} (h : crossOK (bagD cs rs) (bagD cs' rs') = true) (hc : ∀ e ∈ l, ∀ c ∈ colsE e, 0 ≤ placeI cs (intD c)) :
    crossOK (keepBag (bagD cs rs) l) (bagD cs' rs') = true ∧ keepBag (crossBag (bagD cs rs) (bagD cs' rs')) l = crossBag (keepBag (bagD cs rs) l) (bagD cs' rs') := by
  obtain ⟨h1, h2, h3, h4⟩ := cross_ok h
  have m1 := may_bag h1
  have hk : crossOK (keepBag (bagD cs rs) l) (bagD cs' rs') = true :=
    cross_mk (keep_may h1) h2 h3 (Nat.le_trans (Nat.mul_le_mul_right _ (keep_len (bagD cs rs) l)) h4)
  refine ⟨hk, ?_⟩
  rw [cross_eq h, cross_eq hk]
  show bagD (cs ++ cs') ((crossRows rs rs').filter fun r => allKeepB l (cs ++ cs') (elemsD r)) = bagD (cs ++ cs') (crossRows (rs.filter fun r => allKeepB l cs (elemsD r)) rs')
  congr 1
  refine cross_filter fun x hx y hy => ?_
  show allKeepB l (cs ++ cs') (elemsD x ++ elemsD y) = allKeepB l cs (elemsD x)
  unfold allKeepB
  rw [Bool.eq_iff_iff, List.all_eq_true, List.all_eq_true]
  have key : ∀ e ∈ l, keepsE e (cs ++ cs') (elemsD x ++ elemsD y) = keepsE e cs (elemsD x) := fun e he => keeps_app (m1.l x hx) (hc e he)
  exact ⟨fun hh e he => by rw [← key e he]; exact hh e he, fun hh e he => by rw [key e he]; exact hh e he⟩

theorem colsE_len (e : D) : (colsE e).length ≤ 30 := by
  cases h : mayE e with
  | false => rw [X.colsE_not h]; simp
  | true =>
    rw [X.colsE_eq h, List.length_map]
    refine Nat.le_trans (X.cset_len _) ?_
    unfold X.colsI
    rw [List.length_map]
    exact X.mayE_cols h

section
variable {cs rs cs' rs' : List D} {x2 x3 : D}
theorem keeps_in {N m0 i : Nat} (hi : i < 1000) (next : (∀ c ∈ colsE ((elemsD x2).getD i .nil), 0 ≤ placeI cs (intD c)) → t3_lp14 Tryz.prog Tryz.f3 N m0 (bagD cs rs) (bagD cs' rs') x2 x3 ((i + 1 : Nat) : Int) = some (dat 4 (.lit (.bool true)))) :
    ∀ (n k : Nat), k ≤ (colsE ((elemsD x2).getD i .nil)).length → (colsE ((elemsD x2).getD i .nil)).length - k < n → (∀ c ∈ (colsE ((elemsD x2).getD i .nil)).take k, 0 ≤ placeI cs (intD c)) →
      t3_lp18 Tryz.prog Tryz.f3 N n (bagD cs rs) (bagD cs' rs') x2 x3 (i : Int) m0 (k : Int) = some (dat 4 (.lit (.bool true)))
  | 0, k, _, h, _ => by omega
  | n + 1, k, hk, h, hd => by
    rw [t3_lp18_step, Int.toNat_natCast, bagC]
    have hlen := colsE_len ((elemsD x2).getD i .nil)
    by_cases hlt : k < (colsE ((elemsD x2).getD i .nil)).length
    · have w1 : IntKind.wrap .i64 ((k : Int) + 1) = ((k + 1 : Nat) : Int) := by rw [l_wrapI (l_in (by omega) (by omega))]; omega
      rw [l_idx hlt, l_lt hlt, cond_true, cond_true, Int.toNat_natCast, l_get hlt, w1]
      by_cases hp : placeI cs (intD (colsE ((elemsD x2).getD i .nil))[k]) < 0
      · rw [decide_eq_true hp]
        rfl
      · rw [decide_eq_false hp, cond_false]
        refine keeps_in hi next n (k + 1) (by omega) (by omega) fun c hc => ?_
        rw [List.take_succ_eq_append_getElem hlt, List.mem_append, List.mem_singleton] at hc
        rcases hc with hc | rfl
        · exact hd c hc
        · omega
    · have w1 : IntKind.wrap .i64 ((i : Int) + 1) = ((i + 1 : Nat) : Int) := by rw [l_wrapI (l_in (by omega) (by omega))]; omega
      rw [l_ge hlt, cond_false, w1]
      refine next fun c hc => hd c ?_
      rw [List.take_of_length_le (by omega)]
      exact hc
theorem keeps_out {N : Nat} (hN : 30 < N) (h4 : (elemsD x2).length ≤ 4) (hs : sortOK (bagD cs rs) = true) :
    ∀ (n i : Nat), i ≤ (elemsD x2).length → (elemsD x2).length - i < n → (∀ e ∈ (elemsD x2).take i, ∀ c ∈ colsE e, 0 ≤ placeI cs (intD c)) →
      t3_lp14 Tryz.prog Tryz.f3 N n (bagD cs rs) (bagD cs' rs') x2 x3 (i : Int) = some (dat 4 (.lit (.bool true)))
  | 0, i, _, h, _ => by omega
  | n + 1, i, hi, h, hd => by
    rw [t3_lp14_step]
    by_cases hlt : i < (elemsD x2).length
    · rw [l_idx hlt, l_lt hlt, cond_true, cond_true]
      refine keeps_in (N := N) (m0 := n) (i := i) (by omega) (fun hc => ?_) N 0 (Nat.zero_le _) (by have := colsE_len ((elemsD x2).getD i .nil); omega) (by simp)
      refine keeps_out hN h4 hs n (i + 1) (by omega) (by omega) fun e he => ?_
      rw [List.take_succ_eq_append_getElem hlt, List.mem_append, List.mem_singleton] at he
      rcases he with he | rfl
      · exact hd e he
      · rw [l_get hlt] at hc
        exact hc
    · rw [List.take_of_length_le (by omega)] at hd
      rw [l_ge hlt, cond_false, hs, cond_true]
      cases hc : crossOK (bagD cs rs) (bagD cs' rs') with
      | false => rfl
      | true =>
        obtain ⟨k1, k2⟩ := keep_cross hc hd
        rw [k1, k2, cross_sort hc, like_refl]
        rfl
end

theorem k3 : FnOK Tryz.prog 3 Tryz.f3 := ⟨Tryz.func3, rfl, by kernel_rfl⟩
theorem law3 {n n1 : Nat} {x0 x1 : D} (t0 : Ty Tryz.prog n 25 x0) (t1 : Ty Tryz.prog n1 25 x1) (x2 x3 : D) : CallOK Tryz.prog 3 [dat 25 x0, dat 25 x1, dat 26 x2, dat 26 x3] (dat 4 (.lit (.bool true))) := by
  obtain ⟨cs, rs, rfl, _, _, _, _⟩ := tyB t0
  obtain ⟨cs', rs', rfl, _, _, _, _⟩ := tyB t1
  have e0 : (dat 4 (.lit (.bool true)) : AV) = mkRes Tryz.prog 4 (.lit (.bool true)) := (m4 (.lit (.bool true))).symm
  rw [e0]
  refine fn_ok hm envBC k3 ((t3 31 (bagD cs rs) (bagD cs' rs') x2 x3).trans ?_)
  rw [← e0]
  cases q1 : fewBagB (bagD cs rs) 30 with
  | false => rfl
  | true =>
    cases q2 : fewBagB (bagD cs' rs') 30 with
    | false => rfl
    | true =>
      cases q3 : lightB (elemsD x2) with
      | false => rfl
      | true =>
        cases q4 : lightB (elemsD x3) with
        | false => rfl
        | true =>
          have l2 : (elemsD x2).length ≤ 4 := by
            simp only [lightB, Bool.and_eq_true, decide_eq_true_eq] at q3
            exact q3.1
          have l3 : (elemsD x3).length ≤ 4 := by
            simp only [lightB, Bool.and_eq_true, decide_eq_true_eq] at q4
            exact q4.1
          have hs := few_sort (by omega) q1
          have hlen : ((elemsD (fieldD (keepBag (bagD cs rs) (elemsD x2 ++ elemsD x3)) 1)).length : Int) ≤ ((elemsD (fieldD (bagD cs rs) 1)).length : Int) := by
            have := keep_len (bagD cs rs) (elemsD x2 ++ elemsD x3)
            have this : (elemsD (fieldD (keepBag (bagD cs rs) (elemsD x2 ++ elemsD x3)) 1)).length ≤ (elemsD (fieldD (bagD cs rs) 1)).length := this
            omega
          have key := keeps_out (N := 31) (x2 := x2) (x3 := x3) (cs' := cs') (rs' := rs') (by omega) l2 hs 31 0 (Nat.zero_le _) (by omega) (by simp)
          rw [← keep_swap (bagD cs rs) (elemsD x2) (elemsD x3), like_refl (keepBag (keepBag (bagD cs rs) (elemsD x2)) (elemsD x3)), ← keep_keep, like_refl, hs, keep_sort _ hs, keep_sort _ hs,
            decide_eq_true (show (elemsD x2).length ≤ 2147483648 by omega), decide_eq_true (show (elemsD x2).length + (elemsD x3).length ≤ 2147483648 by omega), keep_keep,
            decide_eq_false (show ¬ ((elemsD (fieldD (keepBag (bagD cs rs) (elemsD x2 ++ elemsD x3)) 1)).length : Int) > ((elemsD (fieldD (bagD cs rs) 1)).length : Int) by omega)]
          simp only [Bool.not_true, beq_self_eq_true, cond_true, cond_false]
          exact key

end Go.Proofs.YtmopepjahjmdeaaGreat

namespace Go.Proofs.YtmopepjahjmdeaaGreat
open Go.Ev
open Go.ChangeShapes Go.WideShapes Go.ChangeAt Go.RowKit
set_option linter.unusedVariables false

namespace bagKeepsLaw

theorem own : ownKnob Tryz.prog.godebug = none := by kernel_rfl
theorem laidOut : laidOutB Tryz.prog = true := by kernel_rfl
theorem types : okTypes Tryz.prog [3, 22, 23, 25, 26, 34, 36, 46] = true := by kernel_rfl

set_option maxRecDepth 100000 in
theorem lifted (os : Os) (started : os.Started) (H : Type) (enc : TypeId × Value → H) :
    ReturnsInHanded {} Tryz.checked os 3 .any (Rows.bagKeepsSpec.pre6 enc Tryz.prog Tryz.f3 Rows.bagKeepsRow.domain false) (Rows.bagKeepsSpec.post enc Tryz.prog Tryz.f3 false true false false) := by
  refine returnsInHanded_of_change (C := Tryz.checked) own started (by kernel_rfl) Tryz.func3
    (ChangeSpec.witness6 (enc := enc) (C := Tryz.checked) false ⟨#[], #[.agg #[.slice none 0 0, .slice none 0 0], .agg #[.slice none 0 0, .slice none 0 0], .slice none 0 0, .slice none 0 0], []⟩ 8 (by kernel_rfl) (by kernel_rfl) (by kernel_rfl) (by kernel_rfl)) ?_
  intro W base args ds gs before hval0 hW hcnd _
  have hval : ∀ (j : Nat) t v, Tryz.f3.params[j]? = some t → args[j]? = some v → Value.okWide Tryz.prog W .any base t v := hval0
  have hW' := hW
  obtain ⟨p, q, hA0, hV, rfl, hfz, hnd⟩ := hW
  have hA : DataW.TrodAll enc Tryz.prog W 0 (fun _ => true) true Tryz.f3.params.toList args.toList ds p := hA0
  rw [Tryz.params3] at hA hval
  obtain ⟨v0, vs0, d0, ds0, p0, q0, hargs, rfl, rfl, h0, r0⟩ := trodAll_cons hA
  obtain ⟨v1, vs1, d1, ds1, p1, q1, rfl, rfl, rfl, h1, r1⟩ := trodAll_cons r0
  obtain ⟨v2, vs2, d2, ds2, p2, q2, rfl, rfl, rfl, h2, r2⟩ := trodAll_cons r1
  obtain ⟨v3, vs3, d3, ds3, p3, q3, rfl, rfl, rfl, h3, r3⟩ := trodAll_cons r2
  obtain ⟨rfl, rfl, rfl⟩ := trodAll_nil r3
  obtain rfl : args = #[v0, v1, v2, v3] := by cases args; simp_all
  obtain ⟨rfl, rfl⟩ := trodVars_none hV
  have lt0 : ∀ x ∈ p0, x.block < W.heap.size := by obtain ⟨m, hm⟩ := h0; exact DataW.trod_lt m _ _ _ hm
  obtain ⟨n0, x0, ty0, rep0⟩ := arg_rep types (by decide) (hval 0 25 v0 rfl rfl) h0
  have lt1 : ∀ x ∈ p1, x.block < W.heap.size := by obtain ⟨m, hm⟩ := h1; exact DataW.trod_lt m _ _ _ hm
  obtain ⟨n1, x1, ty1, rep1⟩ := arg_rep types (by decide) (hval 1 25 v1 rfl rfl) h1
  have lt2 : ∀ x ∈ p2, x.block < W.heap.size := by obtain ⟨m, hm⟩ := h2; exact DataW.trod_lt m _ _ _ hm
  obtain ⟨n2, x2, ty2, rep2⟩ := arg_rep types (by decide) (hval 2 26 v2 rfl rfl) h2
  have lt3 : ∀ x ∈ p3, x.block < W.heap.size := by obtain ⟨m, hm⟩ := h3; exact DataW.trod_lt m _ _ _ hm
  obtain ⟨n3, x3, ty3, rep3⟩ := arg_rep types (by decide) (hval 3 26 v3 rfl rfl) h3
  clear hA0 hval0
  refine (calls_true Tryz.underlying4 (law3 ty0 ty1 x2 x3) (w := W) (vs := [v0, v1, v2, v3]) ⟨⟨rfl, rep0⟩, ⟨rfl, rep1⟩, ⟨rfl, rep2⟩, ⟨rfl, rep3⟩, trivial⟩).mono fun e W' ⟨he, bel⟩ => ?_
  subst he
  exact ⟨_, rfl, _, _, _, [], _, [], hW', trodAll_mk1 (shut_bool Tryz.underlying4 _), (trodAll_cons_mk (Below.trod laidOut (by kernel_rfl) (of_decide_eq_true (by kernel_rfl)) h0 bel lt0) (trodAll_cons_mk (Below.trod laidOut (by kernel_rfl) (of_decide_eq_true (by kernel_rfl)) h1 bel lt1) (trodAll_cons_mk (Below.trod laidOut (by kernel_rfl) (of_decide_eq_true (by kernel_rfl)) h2 bel lt2) (trodAll_cons_mk (Below.trod laidOut (by kernel_rfl) (of_decide_eq_true (by kernel_rfl)) h3 bel lt3) trodAll_mk0)))), rfl, bel.frame _, fun h => by cases h⟩

theorem over : Rows.bagKeepsRow.holds Tryz.pinned (OpenSpec.ofChange Rows.bagKeepsSpec) :=
  OpenClaim.holds_of_wide 3 Tryz.f3 rfl rfl rfl rfl rfl rfl rfl ⟨rfl, rfl, rfl, rfl, rfl⟩ rfl rfl rfl rfl rfl (by kernel_rfl) Tryz.func3 (by kernel_rfl)
    (of_decide_eq_true (by kernel_rfl)) (by unfold Func.isWrapper; first | (rw [if_pos (by decide +kernel)]; kernel_rfl) | (rw [if_neg (by decide +kernel)]; exact ⟨rfl, rfl⟩))
    (fun os started H enc _ => lifted os started H enc)

end bagKeepsLaw

/-- The statement. -/
theorem bagKeepsProved : Rows.BagKeepsSaid := bagKeepsLaw.over

end Go.Proofs.YtmopepjahjmdeaaGreat
