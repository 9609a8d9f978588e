/- BagPicks: picked by its own columns a bag is as it was, picked twice it is as picked at once, and rows may be kept ahead of picking or behind it. Proved for every world, every order, every argument that the statement takes. -/
import Derived.Test.YtmopepjahjmdeaaGreatBF
import Derived.Test.YtmopepjahjmdeaaGreatWC
import Derived.Test.YtmopepjahjmdeaaGreatV3
import Derived.WalkKit
import Derived.ProofKit
import Derived.OpenShut
import Derived.ShutString
import Derived.ChangeOld
import Derived.Below
namespace Go.Proofs.YtmopepjahjmdeaaGreat
open Go.Ev
set_option linter.unusedVariables false
/- roadbook/roadbooklaw03.BagPicks -/
def t4_h : Hints := fun i => if i = 15 then some ([0, 3, 5, 6, 7, 8, 9, 10, 11, 12, 13, 15, 17, 21, 22, 23, 24, 25, 26, 27, 28, 29, 30, 31, 32, 33, 34, 35, 36, 37, 38, 39, 40, 41, 42, 43, 44, 45, 46, 47, 48, 49, 50, 51, 52, 53, 54, 55, 56, 57, 58, 59, 60, 61, 62, 63, 64, 65, 66, 67, 68, 69, 70, 71, 72, 73, 74, 75, 76, 77, 78, 79, 80, 81, 82, 83, 84, 85, 86, 87, 88, 89, 90, 91, 92, 93, 94, 95, 96, 97, 98, 99, 100, 101, 102, 103, 104, 105, 106, 107, 108, 109, 110, 111, 112, 113, 114, 115, 116, 117, 118, 119, 120, 121, 122, 123, 124, 125, 126, 127, 128, 129, 130, 131, 132, 133, 134, 135, 136, 137, 138, 139, 140, 141, 142, 143, 144, 145, 146, 147, 148], [4, 14, 16, 18], []) else if i = 19 then some ([0, 3, 5, 6, 7, 8, 9, 10, 11, 12, 13, 15, 17, 23, 24, 25, 26, 27, 28, 29, 30, 31, 32, 33, 34, 35, 36, 37, 38, 39, 40, 41, 42, 43, 44, 45, 46, 47, 48, 49, 50, 51, 52, 53, 54, 55, 56, 57, 58, 59, 60, 61, 62, 63, 64, 65, 66, 67, 68, 69, 70, 71, 72, 73, 74, 75, 76, 77, 78, 79, 80, 81, 82, 83, 84, 85, 86, 87, 88, 89, 90, 91, 92, 93, 94, 95, 96, 97, 98, 99, 100, 101, 102, 103, 104, 105, 106, 107, 108, 109, 110, 111, 112, 113, 114, 115, 116, 117, 118, 119, 120, 121, 122, 123, 124, 125, 126, 127, 128, 129, 130, 131, 132, 133, 134, 135, 136, 137, 138, 139, 140, 141, 142, 143, 144, 145, 146, 147, 148], [4, 14, 16, 18], []) else none
def t4_lp15 (P : Program) (fn : Func) (N n : Nat) (x0 : D) (x1 : D) (x2 : D) (x3 : D) (v20 : Int) : Option AV := evLoop (preL t4_h (sub [1, 1, 1, 1, 1, 1, 1, 1, 1, 1, 1, 0, 1, 0, 0] (bodyOf fn))) (evCode P (envR BA [] [] []) t4_h N (sub [1, 1, 1, 1, 1, 1, 1, 1, 1, 1, 1, 0, 1, 0, 0] (bodyOf fn))) n ⟨[dead, dat 26 x1, dat 22 x2, dead, bxp 4 25, dead, dead, dead, dead, dead, dead, dead, dead, dead, bxp 14 25, dead, bxp 16 25, dead, bxp 18 25, dat 4 (.lit (.bool (pickOK x0 (elemsD x3)))), dat 3 (.lit (.int .i64 v20)), dead, dead, dead, dead, dead, dead, dead, dead, dead, dead, dead, dead, dead, dead, dead, dead, dead, dead, dead, dead, dead, dead, dead, dead, dead, dead, dead, dead, dead, dead, dead, dead, dead, dead, dead, dead, dead, dead, dead, dead, dead, dead, dead, dead, dead, dead, dead, dead, dead, dead, dead, dead, dead, dead, dead, dead, dead, dead, dead, dead, dead, dead, dead, dead, dead, dead, dead, dead, dead, dead, dead, dead, dead, dead, dead, dead, dead, dead, dead, dead, dead, dead, dead, dead, dead, dead, dead, dead, dead, dead, dead, dead, dead, dead, dead, dead, dead, dead, dead, dead, dead, dead, dead, dead, dead, dead, dead, dead, dead, dead, dead, dead, dead, dead, dead, dead, dead, dead, dead, dead, dead, dead, dead, dead, dead, dead, dead, dead], lookB [(4, some ⟨25, x0, 0, none⟩), (14, some ⟨25, pickBag x0 (elemsD x2), 0, none⟩), (16, some ⟨25, pickBag (pickBag x0 (elemsD x2)) (elemsD x3), 0, none⟩), (18, some ⟨25, pickBag x0 (elemsD x3), 0, none⟩)]⟩ (blockK 0 (seqC P (envR BA [] [] []) t4_h N (sub [1, 1, 1, 1, 1, 1, 1, 1, 1, 1, 1, 1] (bodyOf fn)) (finK P fn) ))
def t4_lp19 (P : Program) (fn : Func) (N n : Nat) (x0 : D) (x1 : D) (x2 : D) (x3 : D) (v20 : Int) (m0 : Nat) (v22 : Int) : Option AV := evLoop (preL t4_h (sub [1, 1, 1, 1, 1, 1, 1, 1, 1, 1, 1, 0, 1, 0, 0, 1, 0, 0, 1, 1, 0, 0] (bodyOf fn))) (evCode P (envR BA [] [] []) t4_h N (sub [1, 1, 1, 1, 1, 1, 1, 1, 1, 1, 1, 0, 1, 0, 0, 1, 0, 0, 1, 1, 0, 0] (bodyOf fn))) n ⟨[dead, dat 26 x1, dat 22 x2, dead, bxp 4 25, dead, dead, dead, dead, dead, dead, dead, dead, dead, bxp 14 25, dead, bxp 16 25, dead, bxp 18 25, dat 4 (.lit (.bool (pickOK x0 (elemsD x3)))), dat 3 (.lit (.int .i64 v20)), dat 22 (.slice (colsE ((elemsD x1).getD (v20).toNat .nil)) []), dat 3 (.lit (.int .i64 v22)), dead, dead, dead, dead, dead, dead, dead, dead, dead, dead, dead, dead, dead, dead, dead, dead, dead, dead, dead, dead, dead, dead, dead, dead, dead, dead, dead, dead, dead, dead, dead, dead, dead, dead, dead, dead, dead, dead, dead, dead, dead, dead, dead, dead, dead, dead, dead, dead, dead, dead, dead, dead, dead, dead, dead, dead, dead, dead, dead, dead, dead, dead, dead, dead, dead, dead, dead, dead, dead, dead, dead, dead, dead, dead, dead, dead, dead, dead, dead, dead, dead, dead, dead, dead, dead, dead, dead, dead, dead, dead, dead, dead, dead, dead, dead, dead, dead, dead, dead, dead, dead, dead, dead, dead, dead, dead, dead, dead, dead, dead, dead, dead, dead, dead, dead, dead, dead, dead, dead, dead, dead, dead, dead, dead, dead, dead], lookB [(4, some ⟨25, x0, 0, none⟩), (14, some ⟨25, pickBag x0 (elemsD x2), 0, none⟩), (16, some ⟨25, pickBag (pickBag x0 (elemsD x2)) (elemsD x3), 0, none⟩), (18, some ⟨25, pickBag x0 (elemsD x3), 0, none⟩)]⟩ (blockK 2 (blockK 1 (seqC P (envR BA [] [] []) t4_h N (sub [1, 1, 1, 1, 1, 1, 1, 1, 1, 1, 1, 0, 1, 0, 0, 1, 1] (bodyOf fn)) (seqK (fun s => evLoop (preL t4_h (sub [1, 1, 1, 1, 1, 1, 1, 1, 1, 1, 1, 0, 1, 0, 0] (bodyOf fn))) (evCode P (envR BA [] [] []) t4_h N (sub [1, 1, 1, 1, 1, 1, 1, 1, 1, 1, 1, 0, 1, 0, 0] (bodyOf fn))) m0 ((preL t4_h (sub [1, 1, 1, 1, 1, 1, 1, 1, 1, 1, 1, 0, 1, 0, 0] (bodyOf fn))) s) (blockK 0 (seqC P (envR BA [] [] []) t4_h N (sub [1, 1, 1, 1, 1, 1, 1, 1, 1, 1, 1, 1] (bodyOf fn)) (finK P fn) ))) (blockK 0 (seqC P (envR BA [] [] []) t4_h N (sub [1, 1, 1, 1, 1, 1, 1, 1, 1, 1, 1, 1] (bodyOf fn)) (finK P fn) ))) )))
theorem t4_lp19_step  (N n : Nat) (x0 : D) (x1 : D) (x2 : D) (x3 : D) (v20 : Int) (m0 : Nat) (v22 : Int) : t4_lp19 Tryz.prog Tryz.f4 N (n + 1) x0 x1 x2 x3 v20 m0 v22 =
  bif decide (v22 < ((colsE ((elemsD x1).getD (v20).toNat .nil)).length : Int)) then
    bif (decide (0 ≤ v22) && decide (v22 < ((colsE ((elemsD x1).getD (v20).toNat .nil)).length : Int))) then
      bif decide ((placeI (elemsD x2) (intD ((colsE ((elemsD x1).getD (v20).toNat .nil)).getD (v22).toNat .nil))) < 0) then
        bif ((pickOK x0 (elemsD x3)) == true) then
          some (dat 4 (.lit (.bool (likeB (pickBag (pickBag x0 (elemsD x2)) (elemsD x3)) (pickBag x0 (elemsD x3))))))
        else some (dat 4 (.lit (.bool false)))
      else t4_lp19 Tryz.prog Tryz.f4 N n x0 x1 x2 x3 v20 m0 (IntKind.wrap .i64 (v22 + 1))
    else none
  else t4_lp15 Tryz.prog Tryz.f4 N m0 x0 x1 x2 x3 (IntKind.wrap .i64 (v20 + 1)) := by kernel_rfl
theorem t4_lp15_step  (N n : Nat) (x0 : D) (x1 : D) (x2 : D) (x3 : D) (v20 : Int) : t4_lp15 Tryz.prog Tryz.f4 N (n + 1) x0 x1 x2 x3 v20 =
  bif decide (v20 < ((elemsD x1).length : Int)) then
    bif (decide (0 ≤ v20) && decide (v20 < ((elemsD x1).length : Int))) then
      t4_lp19 Tryz.prog Tryz.f4 N N x0 x1 x2 x3 v20 n 0
    else none
  else bif sortOK x0 then
      bif ((pickOK x0 (elemsD x3)) == true) then
        bif ((likeB (pickBag (pickBag x0 (elemsD x2)) (elemsD x3)) (pickBag x0 (elemsD x3))) == true) then
          bif ((pickOK (keepBag x0 (elemsD x1)) (elemsD x2)) == true) then
            bif sortOK (pickBag x0 (elemsD x2)) then
              some (dat 4 (.lit (.bool (likeB (pickBag (keepBag x0 (elemsD x1)) (elemsD x2)) (keepBag (pickBag x0 (elemsD x2)) (elemsD x1))))))
            else none
          else some (dat 4 (.lit (.bool false)))
        else some (dat 4 (.lit (.bool false)))
      else some (dat 4 (.lit (.bool false)))
    else none := by kernel_rfl
theorem t4 (N : Nat) (x0 : D) (x1 : D) (x2 : D) (x3 : D) : evFn Tryz.prog (envR BA [] [] []) t4_h N Tryz.f4 [dat 25 x0, dat 26 x1, dat 22 x2, dat 22 x3] =
  bif ((!(fewBagB x0 30)) == false) then
    bif ((!(lightB (elemsD x1))) == false) then
      bif ((decide (((elemsD x2).length : Int) > 20)) == false) then
        bif decide (((elemsD x3).length : Int) > 20) then
          some (dat 4 (.lit (.bool true)))
        else bif ((!((pickOK x0 (elemsD (fieldD x0 0))) == (mayBagB x0))) == false) then
            bif ((pickOK x0 (elemsD (fieldD x0 0))) == true) then
              bif (!(likeB (pickBag x0 (elemsD (fieldD x0 0))) x0)) then
                some (dat 4 (.lit (.bool false)))
              else bif ((!(pickOK x0 (elemsD x2))) == false) then
                  bif (!(pickOK (pickBag x0 (elemsD x2)) (elemsD x3))) then
                    some (dat 4 (.lit (.bool true)))
                  else t4_lp15 Tryz.prog Tryz.f4 N N x0 x1 x2 x3 0
                else some (dat 4 (.lit (.bool true)))
            else bif ((!(pickOK x0 (elemsD x2))) == false) then
                bif (!(pickOK (pickBag x0 (elemsD x2)) (elemsD x3))) then
                  some (dat 4 (.lit (.bool true)))
                else t4_lp15 Tryz.prog Tryz.f4 N N x0 x1 x2 x3 0
              else some (dat 4 (.lit (.bool true)))
          else some (dat 4 (.lit (.bool false)))
      else some (dat 4 (.lit (.bool true)))
    else some (dat 4 (.lit (.bool true)))
  else some (dat 4 (.lit (.bool true))) := by kernel_rfl

end Go.Proofs.YtmopepjahjmdeaaGreat

namespace Go.Proofs.YtmopepjahjmdeaaGreat
open Go.Ev
set_option linter.unusedVariables false
set_option maxRecDepth 10000
set_option linter.unusedSimpArgs false

/-- An expression all of whose columns are picked keeps a row just if it keeps what is picked of it. -/
theorem keeps_pick {cs cols row : List D} {e : D} (hl : row.length = cs.length) (h1 : hasAllB cs cols = true) (h2 : ∀ c ∈ colsE e, 0 ≤ placeI cols (intD c)) :
    keepsE e cols (pickR cs cols row) = keepsE e cs row := by
  unfold keepsE evalE
  cases hm : mayE e with
  | false => rw [cond_false, cond_false]
  | true =>
    rw [cond_true, cond_true]
    have key : evalK cols (pickR cs cols row) 7 e = evalK cs row 7 e := by
     refine X.eval_same 7 e fun z hz => ?_
     have hz2 : litI z ∈ colsE e := by
       rw [X.colsE_eq hm]
       exact List.mem_map.2 ⟨z, X.mem_cset.2 hz, rfl⟩
     have hb : hasB cols z = true := place_has (h2 _ hz2)
     obtain ⟨c, hc, e2⟩ := hasB_ex hb
     exact at_pick (by rw [← e2]; exact hasAll_mem h1 hc) hb hl
    rw [key]

section
variable {cs rs : List D} {x1 x2 x3 : D}

theorem picks_in {N m0 i : Nat} (hg : pickOK (bagD cs rs) (elemsD x3) = true)
    (hl : likeB (pickBag (pickBag (bagD cs rs) (elemsD x2)) (elemsD x3)) (pickBag (bagD cs rs) (elemsD x3)) = true) (hi : i < 1000) (hlen : (colsE ((elemsD x1).getD i .nil)).length ≤ 30)
    (next : (∀ c ∈ colsE ((elemsD x1).getD i .nil), 0 ≤ placeI (elemsD x2) (intD c)) → t4_lp15 Tryz.prog Tryz.f4 N m0 (bagD cs rs) x1 x2 x3 ((i + 1 : Nat) : Int) = some (dat 4 (.lit (.bool true)))) :
    ∀ (n k : Nat), k ≤ (colsE ((elemsD x1).getD i .nil)).length → (colsE ((elemsD x1).getD i .nil)).length - k < n → (∀ c ∈ (colsE ((elemsD x1).getD i .nil)).take k, 0 ≤ placeI (elemsD x2) (intD c)) →
      t4_lp19 Tryz.prog Tryz.f4 N n (bagD cs rs) x1 x2 x3 (i : Int) m0 (k : Int) = some (dat 4 (.lit (.bool true)))
  | 0, k, _, h, _ => by omega
  | n + 1, k, hk, h, hd => by
    rw [t4_lp19_step, Int.toNat_natCast]
    by_cases hlt : k < (colsE ((elemsD x1).getD i .nil)).length
    · have w1 : IntKind.wrap .i64 ((k : Int) + 1) = ((k + 1 : Nat) : Int) := by rw [l_wrapI (l_in (by omega) (by omega))]; omega
      rw [l_idx hlt, l_lt hlt, cond_true, cond_true, Int.toNat_natCast, l_get hlt, w1, hg, hl]
      by_cases hp : placeI (elemsD x2) (intD (colsE ((elemsD x1).getD i .nil))[k]) < 0
      · have : decide (placeI (elemsD x2) (intD (colsE ((elemsD x1).getD i .nil))[k]) < 0) = true := by rw [decide_eq_true_eq]; exact hp
        rw [this]
        rfl
      · have : decide (placeI (elemsD x2) (intD (colsE ((elemsD x1).getD i .nil))[k]) < 0) = false := by rw [decide_eq_false_iff_not]; exact hp
        rw [this, cond_false]
        refine picks_in hg hl hi hlen next n (k + 1) (by omega) (by omega) fun c hc => ?_
        rw [List.take_succ_eq_append_getElem hlt, List.mem_append, List.mem_singleton] at hc
        rcases hc with hc | rfl
        · exact hd c hc
        · omega
    · have w1 : IntKind.wrap .i64 ((i : Int) + 1) = ((i + 1 : Nat) : Int) := by rw [l_wrapI (l_in (by omega) (by omega))]; omega
      rw [l_ge hlt, cond_false, w1]
      refine next fun c hc => hd c ?_
      rw [List.take_of_length_le (by omega)]
      exact hc

theorem cols_len (e : D) : (colsE e).length ≤ 30 := by
  cases h : mayE e with
  | false => rw [X.colsE_not h]; simp
  | true =>
    rw [X.colsE_eq h, List.length_map]
    refine Nat.le_trans (X.cset_len _) ?_
    unfold X.colsI
    rw [List.length_map]
    exact X.mayE_cols h

theorem picks_out {N : Nat} (hN : 30 < N) (h4 : (elemsD x1).length ≤ 4) (hs : sortOK (bagD cs rs) = true) (hp : pickOK (bagD cs rs) (elemsD x2) = true) (hg : pickOK (bagD cs rs) (elemsD x3) = true)
    (hl : likeB (pickBag (pickBag (bagD cs rs) (elemsD x2)) (elemsD x3)) (pickBag (bagD cs rs) (elemsD x3)) = true) :
    ∀ (n i : Nat), i ≤ (elemsD x1).length → (elemsD x1).length - i < n → (∀ e ∈ (elemsD x1).take i, ∀ c ∈ colsE e, 0 ≤ placeI (elemsD x2) (intD c)) →
      t4_lp15 Tryz.prog Tryz.f4 N n (bagD cs rs) x1 x2 x3 (i : Int) = some (dat 4 (.lit (.bool true)))
  | 0, i, _, h, _ => by omega
  | n + 1, i, hi, h, hd => by
    rw [t4_lp15_step]
    by_cases hlt : i < (elemsD x1).length
    · rw [l_idx hlt, l_lt hlt, cond_true, cond_true]
      refine picks_in (N := N) (m0 := n) (i := i) hg hl (by omega) (cols_len _) (fun hc => ?_) N 0 (Nat.zero_le _) (by have := cols_len ((elemsD x1).getD i .nil); omega) (by simp)
      refine picks_out hN h4 hs hp hg hl n (i + 1) (by omega) (by omega) fun e he => ?_
      rw [List.take_succ_eq_append_getElem hlt, List.mem_append, List.mem_singleton] at he
      rcases he with he | rfl
      · exact hd e he
      · rw [l_get hlt] at hc
        exact hc
    · rw [List.take_of_length_le (by omega)] at hd
      obtain ⟨a1, a2, a3⟩ := pickOK_iff.1 hp
      have hm := may_bag a1
      obtain ⟨k1, k2⟩ := keep_pick (es := elemsD x1) hp fun r hr => by
        unfold allKeepB
        rw [Bool.eq_iff_iff, List.all_eq_true, List.all_eq_true]
        have key : ∀ e ∈ elemsD x1, keepsE e (elemsD x2) (pickR cs (elemsD x2) (elemsD r)) = keepsE e cs (elemsD r) := fun e he => keeps_pick (hm.l r hr) a3 (hd e he)
        exact ⟨fun hh e he => by rw [← key e he]; exact hh e he, fun hh e he => by rw [key e he]; exact hh e he⟩
      rw [l_ge hlt, cond_false, hs, hg, hl, k1, k2, sort_pick hp, like_refl]
      rfl
end

theorem k4 : FnOK Tryz.prog 4 Tryz.f4 := ⟨Tryz.func4, rfl, by kernel_rfl⟩
theorem law4 {n : Nat} {x0 : D} (t0 : Ty Tryz.prog n 25 x0) (x1 x2 x3 : D) : CallOK Tryz.prog 4 [dat 25 x0, dat 26 x1, dat 22 x2, dat 22 x3] (dat 4 (.lit (.bool true))) := by
  obtain ⟨cs, rs, rfl, h1, h2, h3, h4⟩ := tyB t0
  have e0 : (dat 4 (.lit (.bool true)) : AV) = mkRes Tryz.prog 4 (.lit (.bool true)) := (m4 (.lit (.bool true))).symm
  rw [e0]
  refine fn_ok hm envBA k4 ((t4 31 (bagD cs rs) x1 x2 x3).trans ?_)
  rw [← e0]
  cases q1 : fewBagB (bagD cs rs) 30 with
  | false => rfl
  | true =>
    cases q2 : lightB (elemsD x1) with
    | false => rfl
    | true =>
      by_cases q3 : (elemsD x2).length ≤ 20
      · by_cases q4 : (elemsD x3).length ≤ 20
        · have g3 : decide (((elemsD x2).length : Int) > 20) = false := by rw [decide_eq_false_iff_not]; omega
          have g4 : decide (((elemsD x3).length : Int) > 20) = false := by rw [decide_eq_false_iff_not]; omega
          have hs : sortOK (bagD cs rs) = true := by
            simp only [fewBagB, Bool.and_eq_true, decide_eq_true_eq, List.all_eq_true] at q1
            simp only [sortOK, Bool.and_eq_true, decide_eq_true_eq, List.all_eq_true]
            refine ⟨⟨by omega, by omega⟩, fun r hr => ?_⟩
            have := q1.2 r hr
            omega
          have hl4 : (elemsD x1).length ≤ 4 := by
            simp only [lightB, Bool.and_eq_true, decide_eq_true_eq] at q2
            exact q2.1
          have o1 : pickOK (bagD cs rs) (elemsD (fieldD (bagD cs rs) 0)) = mayBagB (bagD cs rs) := pick_own_ok (bagD cs rs)
          have rest : (bif ((!(pickOK (bagD cs rs) (elemsD x2))) == false) then
              bif (!(pickOK (pickBag (bagD cs rs) (elemsD x2)) (elemsD x3))) then
                some (dat 4 (.lit (.bool true)))
              else t4_lp15 Tryz.prog Tryz.f4 31 31 (bagD cs rs) x1 x2 x3 0
            else some (dat 4 (.lit (.bool true)))) = some (dat 4 (.lit (.bool true))) := by
            cases p1 : pickOK (bagD cs rs) (elemsD x2) with
            | false => rfl
            | true =>
              cases p2 : pickOK (pickBag (bagD cs rs) (elemsD x2)) (elemsD x3) with
              | false => rfl
              | true =>
                obtain ⟨p3, p4⟩ := pick_twice p1 p2
                have key := picks_out (N := 31) (x1 := x1) (by omega) hl4 hs p1 p3 (by rw [p4]; exact like_refl _) 31 0 (Nat.zero_le _) (by omega) (by simp)
                rw [Bool.not_true, cond_false, beq_self_eq_true, cond_true]
                exact key
          rw [o1, g3, g4, rest]
          cases q5 : mayBagB (bagD cs rs) with
          | false => rfl
          | true =>
            have : likeB (pickBag (bagD cs rs) (elemsD (fieldD (bagD cs rs) 0))) (bagD cs rs) = true := pick_own q5
            rw [this]
            rfl
        · have g3 : decide (((elemsD x2).length : Int) > 20) = false := by rw [decide_eq_false_iff_not]; omega
          have g4 : decide (((elemsD x3).length : Int) > 20) = true := by rw [decide_eq_true_eq]; omega
          rw [g3, g4]
          rfl
      · have g3 : decide (((elemsD x2).length : Int) > 20) = true := by rw [decide_eq_true_eq]; omega
        rw [g3]
        rfl

end Go.Proofs.YtmopepjahjmdeaaGreat

namespace Go.Proofs.YtmopepjahjmdeaaGreat
open Go.Ev
open Go.ChangeShapes Go.WideShapes Go.ChangeAt Go.RowKit
set_option linter.unusedVariables false

namespace bagPicksLaw

theorem own : ownKnob Tryz.prog.godebug = none := by kernel_rfl
theorem laidOut : laidOutB Tryz.prog = true := by kernel_rfl
theorem types : okTypes Tryz.prog [3, 22, 23, 25, 26, 34, 36, 46] = true := by kernel_rfl

set_option maxRecDepth 100000 in
theorem lifted (os : Os) (started : os.Started) (H : Type) (enc : TypeId × Value → H) :
    ReturnsInHanded {} Tryz.checked os 4 .any (Rows.bagPicksSpec.pre6 enc Tryz.prog Tryz.f4 Rows.bagPicksRow.domain false) (Rows.bagPicksSpec.post enc Tryz.prog Tryz.f4 false true false false) := by
  refine returnsInHanded_of_change (C := Tryz.checked) own started (by kernel_rfl) Tryz.func4
    (ChangeSpec.witness6 (enc := enc) (C := Tryz.checked) false ⟨#[], #[.agg #[.slice none 0 0, .slice none 0 0], .slice none 0 0, .slice none 0 0, .slice none 0 0], []⟩ 8 (by kernel_rfl) (by kernel_rfl) (by kernel_rfl) (by kernel_rfl)) ?_
  intro W base args ds gs before hval0 hW hcnd _
  have hval : ∀ (j : Nat) t v, Tryz.f4.params[j]? = some t → args[j]? = some v → Value.okWide Tryz.prog W .any base t v := hval0
  have hW' := hW
  obtain ⟨p, q, hA0, hV, rfl, hfz, hnd⟩ := hW
  have hA : DataW.TrodAll enc Tryz.prog W 0 (fun _ => true) true Tryz.f4.params.toList args.toList ds p := hA0
  rw [Tryz.params4] at hA hval
  obtain ⟨v0, vs0, d0, ds0, p0, q0, hargs, rfl, rfl, h0, r0⟩ := trodAll_cons hA
  obtain ⟨v1, vs1, d1, ds1, p1, q1, rfl, rfl, rfl, h1, r1⟩ := trodAll_cons r0
  obtain ⟨v2, vs2, d2, ds2, p2, q2, rfl, rfl, rfl, h2, r2⟩ := trodAll_cons r1
  obtain ⟨v3, vs3, d3, ds3, p3, q3, rfl, rfl, rfl, h3, r3⟩ := trodAll_cons r2
  obtain ⟨rfl, rfl, rfl⟩ := trodAll_nil r3
  obtain rfl : args = #[v0, v1, v2, v3] := by cases args; simp_all
  obtain ⟨rfl, rfl⟩ := trodVars_none hV
  have lt0 : ∀ x ∈ p0, x.block < W.heap.size := by obtain ⟨m, hm⟩ := h0; exact DataW.trod_lt m _ _ _ hm
  obtain ⟨n0, x0, ty0, rep0⟩ := arg_rep types (by decide) (hval 0 25 v0 rfl rfl) h0
  have lt1 : ∀ x ∈ p1, x.block < W.heap.size := by obtain ⟨m, hm⟩ := h1; exact DataW.trod_lt m _ _ _ hm
  obtain ⟨n1, x1, ty1, rep1⟩ := arg_rep types (by decide) (hval 1 26 v1 rfl rfl) h1
  have lt2 : ∀ x ∈ p2, x.block < W.heap.size := by obtain ⟨m, hm⟩ := h2; exact DataW.trod_lt m _ _ _ hm
  obtain ⟨n2, x2, ty2, rep2⟩ := arg_rep types (by decide) (hval 2 22 v2 rfl rfl) h2
  have lt3 : ∀ x ∈ p3, x.block < W.heap.size := by obtain ⟨m, hm⟩ := h3; exact DataW.trod_lt m _ _ _ hm
  obtain ⟨n3, x3, ty3, rep3⟩ := arg_rep types (by decide) (hval 3 22 v3 rfl rfl) h3
  clear hA0 hval0
  refine (calls_true Tryz.underlying4 (law4 ty0 x1 x2 x3) (w := W) (vs := [v0, v1, v2, v3]) ⟨⟨rfl, rep0⟩, ⟨rfl, rep1⟩, ⟨rfl, rep2⟩, ⟨rfl, rep3⟩, trivial⟩).mono fun e W' ⟨he, bel⟩ => ?_
  subst he
  exact ⟨_, rfl, _, _, _, [], _, [], hW', trodAll_mk1 (shut_bool Tryz.underlying4 _), (trodAll_cons_mk (Below.trod laidOut (by kernel_rfl) (of_decide_eq_true (by kernel_rfl)) h0 bel lt0) (trodAll_cons_mk (Below.trod laidOut (by kernel_rfl) (of_decide_eq_true (by kernel_rfl)) h1 bel lt1) (trodAll_cons_mk (Below.trod laidOut (by kernel_rfl) (of_decide_eq_true (by kernel_rfl)) h2 bel lt2) (trodAll_cons_mk (Below.trod laidOut (by kernel_rfl) (of_decide_eq_true (by kernel_rfl)) h3 bel lt3) trodAll_mk0)))), rfl, bel.frame _, fun h => by cases h⟩

theorem over : Rows.bagPicksRow.holds Tryz.pinned (OpenSpec.ofChange Rows.bagPicksSpec) :=
  OpenClaim.holds_of_wide 4 Tryz.f4 rfl rfl rfl rfl rfl rfl rfl ⟨rfl, rfl, rfl, rfl, rfl⟩ rfl rfl rfl rfl rfl (by kernel_rfl) Tryz.func4 (by kernel_rfl)
    (of_decide_eq_true (by kernel_rfl)) (by unfold Func.isWrapper; first | (rw [if_pos (by decide +kernel)]; kernel_rfl) | (rw [if_neg (by decide +kernel)]; exact ⟨rfl, rfl⟩))
    (fun os started H enc _ => lifted os started H enc)

end bagPicksLaw

/-- The statement. -/
theorem bagPicksProved : Rows.BagPicksSaid := bagPicksLaw.over

end Go.Proofs.YtmopepjahjmdeaaGreat
