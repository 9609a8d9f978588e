/- What the evaluator comes to, function by function: by the kernel. Nothing here is trusted. -/
import Derived.Test.YtbidfbpaeemhhaaDoorBB
import Derived.Test.YtbidfbpaeemhhaaDoorV3
namespace Go.Proofs.YtbidfbpaeemhhaaDoor
open Go.Ev
set_option linter.unusedVariables false
/- roadbook/bag.picked -/
def t36_h : Hints := fun i => if i = 3 then some ([1, 2, 3, 4, 6, 7, 8, 9, 10, 14, 15, 16, 17, 18, 19, 20, 21, 22, 23, 24, 25, 26], [10], []) else none
def t36_lp3 (P : Program) (fn : Func) (N n : Nat) (x0 : D) (x1 : D) (v13 : Int) (b10 : List D) : Option AV := evLoop (preL t36_h (sub [1, 1, 0, 1, 0, 0] (bodyOf fn))) (evCode P (envR B3 [] [] []) t36_h N (sub [1, 1, 0, 1, 0, 0] (bodyOf fn))) n ⟨[dat 34 x0, dead, dead, dead, dead, bxp 10 34, dead, dead, dead, dead, dead, dat 22 x1, dat 3 (.lit (.int .i64 ((elemsD x1).length : Int))), dat 3 (.lit (.int .i64 v13)), dead, dead, dead, dead, dead, dead, dead, dead, dead, dead, dead, dead, dead], lookB [(10, some ⟨34, .slice b10 [], 2, none⟩)]⟩ (blockK 0 (seqC P (envR B3 [] [] []) t36_h N (sub [1, 1, 1] (bodyOf fn)) (finK P fn) ))
theorem t36_lp3_step  (N n : Nat) (x0 : D) (x1 : D) (v13 : Int) (b10 : List D) : t36_lp3 Tryd.prog Tryd.f36 N (n + 1) x0 x1 v13 b10 =
  bif decide (v13 < ((elemsD x1).length : Int)) then
    bif (decide (0 ≤ v13) && decide (v13 < ((elemsD x1).length : Int))) then
      bif (decide (0 ≤ (intD ((elemsD x1).getD (v13).toNat .nil))) && decide ((intD ((elemsD x1).getD (v13).toNat .nil)) < ((elemsD x0).length : Int))) then
        bif (decide (0 ≤ v13) && decide (v13 < (b10.length : Int))) then
          t36_lp3 Tryd.prog Tryd.f36 N n x0 x1 (IntKind.wrap .i64 (v13 + 1)) (b10.set (v13).toNat ((elemsD x0).getD (intD ((elemsD x1).getD (v13).toNat .nil)).toNat .nil))
        else none
      else none
    else none
  else some (dat 34 (.slice b10 [])) := by kernel_rfl
theorem t36 (N : Nat) (x0 : D) (x1 : D) : evFn Tryd.prog (envR B3 [] [] []) t36_h N Tryd.f36 [dat 34 x0, dat 22 x1] =
  bif (decide (0 ≤ ((elemsD x1).length : Int)) && decide (((elemsD x1).length : Int) ≤ 2147483648)) then
    t36_lp3 Tryd.prog Tryd.f36 N N x0 x1 0 (List.replicate (((elemsD x1).length : Int)).toNat (.agg [.lit (.int .i64 0), .lit (.int .i64 0)] : D))
  else none := by kernel_rfl

end Go.Proofs.YtbidfbpaeemhhaaDoor

namespace Go.Proofs.YtbidfbpaeemhhaaDoor
open Go.Ev
set_option linter.unusedVariables false
set_option maxRecDepth 10000
set_option linter.unusedSimpArgs false

def e36 : FuncId × TypeId × (List AV → Bool) × (List AV → Option D) := (36, 34, preD (q2 fun x y => pickedOK (elemsD x) (elemsD y)), ent [34, 22] (f2 fun x y => some (.slice (pickedL (elemsD x) (elemsD y)) [])))
theorem picked_loop {N : Nat} {x0 x1 : D} (hb : (elemsD x1).length ≤ 2147483648) (hin : ∀ q ∈ elemsD x1, 0 ≤ intD q ∧ intD q < ((elemsD x0).length : Int)) : ∀ (n i : Nat) (tl : List D), i ≤ (elemsD x1).length → (elemsD x1).length - i < n → tl.length = (elemsD x1).length - i →
    t36_lp3 Tryd.prog Tryd.f36 N n x0 x1 (i : Int) (((elemsD x1).take i).map (fun q => (elemsD x0).getD (intD q).toNat .nil) ++ tl) = some (dat 34 (.slice (pickedL (elemsD x0) (elemsD x1)) []))
  | 0, i, tl, _, h, _ => by omega
  | n + 1, i, tl, hi, h, ht => by
    rw [t36_lp3_step]
    by_cases hlt : i < (elemsD x1).length
    · have hl2 : (((elemsD x1).take i).map (fun q => (elemsD x0).getD (intD q).toNat .nil) ++ tl).length = (elemsD x1).length := by simp; omega
      have hc : (decide (0 ≤ intD (elemsD x1)[i]) && decide (intD (elemsD x1)[i] < ((elemsD x0).length : Int))) = true := by
        simp only [Bool.and_eq_true, decide_eq_true_eq]; exact hin _ (List.getElem_mem hlt)
      have w1 : IntKind.wrap .i64 ((i : Int) + 1) = ((i + 1 : Nat) : Int) := by rw [l_wrapI (l_in (by omega) (by omega))]; omega
      rw [hl2, l_idx hlt, l_lt hlt, cond_true, cond_true, Int.toNat_natCast, l_get hlt, hc, cond_true, cond_true, w1, l_set (fun q => (elemsD x0).getD (intD q).toNat .nil) hlt ht]
      exact picked_loop hb hin n (i + 1) (tl.drop 1) (by omega) (by omega) (by simp; omega)
    · have hi2 : i = (elemsD x1).length := by omega
      have htl : tl = [] := List.length_eq_zero_iff.1 (by omega)
      rw [l_ge hlt, cond_false, htl, hi2, List.take_length, List.append_nil]
      rfl
theorem k36 : FnOK Tryd.prog 36 Tryd.f36 := ⟨Tryd.func36, rfl, by kernel_rfl⟩
theorem c36 : ∀ args d, e36.2.2.1 args = true → e36.2.2.2 args = some d → CallOK Tryd.prog 36 args (mkRes Tryd.prog 34 d) :=
  ent2p k36 fun x y d hq h _ _ => by
    cases h
    rw [n28, nI]
    simp only [pickedOK, Bool.and_eq_true, decide_eq_true_eq, List.all_eq_true] at hq
    refine fn_ok hm envB3 k36 ((t36 ((elemsD y).length + 1) x y).trans ?_)
    rw [m28]
    have c1 : (decide (0 ≤ ((elemsD y).length : Int)) && decide (((elemsD y).length : Int) ≤ 2147483648)) = true := by
      have := hq.1
      simp only [Bool.and_eq_true, decide_eq_true_eq]; omega
    rw [c1, cond_true, Int.toNat_natCast]
    exact picked_loop (N := (elemsD y).length + 1) hq.1 hq.2 ((elemsD y).length + 1) 0 _ (Nat.zero_le _) (by omega) (by simp)
def P1 : Tab := e36 :: B3
theorem envP1 : EnvOK Tryd.prog (envR P1 [] [] []) := envOK_cons' envB3 c36
end Go.Proofs.YtbidfbpaeemhhaaDoor

namespace Go.Proofs.YtbidfbpaeemhhaaDoor
open Go.Ev
set_option linter.unusedVariables false
/- roadbook/bag.Pick -/
def t13_h : Hints := fun i => if i = 5 then some ([0, 3, 5, 7, 8, 9, 10, 11, 12, 13, 14, 15, 16, 17, 18, 19, 20, 21, 22, 23, 24, 25, 26, 27, 28, 29, 30, 34, 35, 36, 37, 38, 39, 40, 41, 42, 43, 44, 45, 46, 47, 48, 49, 50, 51, 52, 53, 54, 55, 56, 57, 58, 59, 60, 61, 62, 63, 64, 65, 66, 67, 68], [2, 4, 30], []) else if i = 11 then some ([0, 2, 3, 5, 7, 8, 10, 11, 12, 13, 14, 15, 16, 17, 18, 19, 20, 21, 22, 23, 24, 25, 26, 27, 28, 29, 30, 31, 32, 33, 34, 35, 36, 37, 38, 39, 40, 41, 42, 43, 44, 45, 46, 47, 48, 49, 50, 54, 55, 56, 57, 58, 59, 60, 61, 62, 63, 64, 65, 66, 67, 68], [4, 49], [6]) else none
def t13_lp5 (P : Program) (fn : Func) (N n : Nat) (x0 : D) (x1 : D) (v33 : Int) (b30 : List D) : Option AV := evLoop (preL t13_h (sub [1, 1, 1, 0, 1, 0, 0] (bodyOf fn))) (evCode P (envR P1 [] [] []) t13_h N (sub [1, 1, 1, 0, 1, 0, 0] (bodyOf fn))) n ⟨[dead, dat 22 x1, bxp 2 25, dead, bxp 4 25, dead, bxp 30 22, dead, dead, dead, dead, dead, dead, dead, dead, dead, dead, dead, dead, dead, dead, dead, dead, dead, dead, dead, dead, dead, dead, dead, dead, dat 22 x1, dat 3 (.lit (.int .i64 ((elemsD x1).length : Int))), dat 3 (.lit (.int .i64 v33)), dead, dead, dead, dead, dead, dead, dead, dead, dead, dead, dead, dead, dead, dead, dead, dead, dead, dead, dead, dead, dead, dead, dead, dead, dead, dead, dead, dead, dead, dead, dead, dead, dead, dead, dead], lookB [(2, some ⟨25, x0, 0, none⟩), (4, some ⟨25, .agg [.slice [] [], .slice [] []], 0, none⟩), (30, some ⟨22, .slice b30 [], 2, none⟩)]⟩ (blockK 0 (seqC P (envR P1 [] [] []) t13_h N (sub [1, 1, 1, 1] (bodyOf fn)) (finK P fn) ))
def t13_lp11 (P : Program) (fn : Func) (N n : Nat) (x0 : D) (x1 : D) (v33 : Int) (b30 : List D) (m0 : Nat) (v53 : Int) (b49 : List D) : Option AV := evLoop (preL t13_h (sub [1, 1, 1, 1, 1, 0, 1, 0, 0] (bodyOf fn))) (evCode P (envR P1 [] [] []) t13_h N (sub [1, 1, 1, 1, 1, 0, 1, 0, 0] (bodyOf fn))) n ⟨[dead, dat 22 x1, dead, dead, bxp 4 25, dead, dat 22 (.slice b30 []), dead, dead, bxp 49 23, dead, dead, dead, dead, dead, dead, dead, dead, dead, dead, dead, dead, dead, dead, dead, dead, dead, dead, dead, dead, dead, dead, dead, dead, dead, dead, dead, dead, dead, dead, dead, dead, dead, dead, dead, dead, dead, dead, dead, dead, dead, dat 23 (fieldD x0 1), dat 3 (.lit (.int .i64 ((elemsD (fieldD x0 1)).length : Int))), dat 3 (.lit (.int .i64 v53)), dead, dead, dead, dead, dead, dead, dead, dead, dead, dead, dead, dead, dead, dead, dead], lookB [(4, some ⟨25, .agg [.slice [] [], .slice [] []], 0, none⟩), (49, some ⟨23, .slice b49 [], 2, none⟩)]⟩ (blockK 2 (seqC P (envR P1 [] [] []) t13_h N (sub [1, 1, 1, 1, 1, 1] (bodyOf fn)) (finK P fn) ))
theorem t13_lp11_step  (N n : Nat) (x0 : D) (x1 : D) (v33 : Int) (b30 : List D) (m0 : Nat) (v53 : Int) (b49 : List D) : t13_lp11 Tryd.prog Tryd.f13 N (n + 1) x0 x1 v33 b30 m0 v53 b49 =
  bif decide (v53 < ((elemsD (fieldD x0 1)).length : Int)) then
    bif (decide (0 ≤ v53) && decide (v53 < ((elemsD (fieldD x0 1)).length : Int))) then
      bif pickedOK (elemsD ((elemsD (fieldD x0 1)).getD (v53).toNat .nil)) b30 then
        bif (decide (0 ≤ v53) && decide (v53 < (b49.length : Int))) then
          t13_lp11 Tryd.prog Tryd.f13 N n x0 x1 v33 b30 m0 (IntKind.wrap .i64 (v53 + 1)) (b49.set (v53).toNat (.slice (pickedL (elemsD ((elemsD (fieldD x0 1)).getD (v53).toNat .nil)) b30) []))
        else none
      else none
    else none
  else bif decide ((elemsD x1).length ≤ 2147483648) then
      some (tupA [25, 4] (.agg [.agg [x1, .slice b49 []], .lit (.bool true)]))
    else none := by kernel_rfl
theorem t13_lp5_step  (N n : Nat) (x0 : D) (x1 : D) (v33 : Int) (b30 : List D) : t13_lp5 Tryd.prog Tryd.f13 N (n + 1) x0 x1 v33 b30 =
  bif decide (v33 < ((elemsD x1).length : Int)) then
    bif (decide (0 ≤ v33) && decide (v33 < ((elemsD x1).length : Int))) then
      bif (decide (0 ≤ v33) && decide (v33 < (b30.length : Int))) then
        t13_lp5 Tryd.prog Tryd.f13 N n x0 x1 (IntKind.wrap .i64 (v33 + 1)) (b30.set (v33).toNat (.lit (.int .i64 (Lib.idxOf ((elemsD (fieldD x0 0)).map intD) (intD ((elemsD x1).getD (v33).toNat .nil))))))
      else none
    else none
  else bif (decide (0 ≤ ((elemsD (fieldD x0 1)).length : Int)) && decide (((elemsD (fieldD x0 1)).length : Int) ≤ 2147483648)) then
      t13_lp11 Tryd.prog Tryd.f13 N N x0 x1 v33 b30 n 0 (List.replicate (((elemsD (fieldD x0 1)).length : Int)).toNat (.slice [] [] : D))
    else none := by kernel_rfl
theorem t13 (N : Nat) (x0 : D) (x1 : D) : evFn Tryd.prog (envR P1 [] [] []) t13_h N Tryd.f13 [dat 25 x0, dat 22 x1] =
  bif ((!(mayBagB x0)) == false) then
    bif ((!(colsMayB (elemsD x1))) == false) then
      bif (!(hasAllB (elemsD (fieldD x0 0)) (elemsD x1))) then
        some (tupA [25, 4] (.agg [.agg [.slice [] [], .slice [] []], .lit (.bool false)]))
      else bif (decide (0 ≤ ((elemsD x1).length : Int)) && decide (((elemsD x1).length : Int) ≤ 2147483648)) then
          t13_lp5 Tryd.prog Tryd.f13 N N x0 x1 0 (List.replicate (((elemsD x1).length : Int)).toNat (.lit (.int .i64 0) : D))
        else none
    else some (tupA [25, 4] (.agg [.agg [.slice [] [], .slice [] []], .lit (.bool false)]))
  else some (tupA [25, 4] (.agg [.agg [.slice [] [], .slice [] []], .lit (.bool false)])) := by kernel_rfl

end Go.Proofs.YtbidfbpaeemhhaaDoor

namespace Go.Proofs.YtbidfbpaeemhhaaDoor
open Go.Ev
set_option linter.unusedVariables false
set_option maxRecDepth 10000
set_option linter.unusedSimpArgs false

def e13 : FuncId × TypeId × (List AV → Bool) × (List AV → Option D) := (13, 30, yes, ent [25, 22] (f2 fun x y => some (.agg [pickBag x (elemsD y), .lit (.bool (pickOK x (elemsD y)))])))
theorem pick_out {N : Nat} {cs rs ps : List D} {x1 : D} {v33 : Int} {m0 : Nat} (hc : (elemsD x1).length ≤ 2147483648) (hb : rs.length ≤ 2147483648) (hr : ∀ r ∈ rs, pickedOK (elemsD r) ps = true) : ∀ (n i : Nat) (tl : List D), i ≤ rs.length → rs.length - i < n → tl.length = rs.length - i →
    t13_lp11 Tryd.prog Tryd.f13 N n (bagD cs rs) x1 v33 ps m0 (i : Int) ((rs.take i).map (fun r => (DataW.slice (pickedL (elemsD r) ps) [] : D)) ++ tl) =
      some (tupA [25, 4] (.agg [.agg [x1, .slice (rs.map fun r => .slice (pickedL (elemsD r) ps) []) []], .lit (.bool true)]))
  | 0, i, tl, _, h, _ => by omega
  | n + 1, i, tl, hi, h, ht => by
    rw [t13_lp11_step, show elemsD (fieldD (bagD cs rs) 1) = rs from rfl]
    by_cases hlt : i < rs.length
    · have hl2 : ((rs.take i).map (fun r => (DataW.slice (pickedL (elemsD r) ps) [] : D)) ++ tl).length = rs.length := by simp; omega
      have w1 : IntKind.wrap .i64 ((i : Int) + 1) = ((i + 1 : Nat) : Int) := by rw [l_wrapI (l_in (by omega) (by omega))]; omega
      rw [hl2, l_idx hlt, l_lt hlt, cond_true, cond_true, Int.toNat_natCast, l_get hlt, hr _ (List.getElem_mem hlt), cond_true, cond_true, w1, l_set (fun r => (DataW.slice (pickedL (elemsD r) ps) [] : D)) hlt ht]
      exact pick_out hc hb hr n (i + 1) (tl.drop 1) (by omega) (by omega) (by simp; omega)
    · have hi2 : i = rs.length := by omega
      have htl : tl = [] := List.length_eq_zero_iff.1 (by omega)
      have g1 : decide ((elemsD x1).length ≤ 2147483648) = true := by rw [decide_eq_true_eq]; exact hc
      rw [l_ge hlt, cond_false, g1, cond_true, htl, hi2, List.take_length, List.append_nil]
theorem pick_in {N : Nat} {cs rs : List D} {x1 : D} (hN : rs.length < N) (hc : (elemsD x1).length ≤ 2147483648) (hb : rs.length ≤ 2147483648) (hr : ∀ r ∈ rs, pickedOK (elemsD r) (pickPs (bagD cs rs) (elemsD x1)) = true) : ∀ (n i : Nat) (tl : List D), i ≤ (elemsD x1).length → (elemsD x1).length - i < n → tl.length = (elemsD x1).length - i →
    t13_lp5 Tryd.prog Tryd.f13 N n (bagD cs rs) x1 (i : Int) (((elemsD x1).take i).map (fun c => litI (placeI cs (intD c))) ++ tl) =
      some (tupA [25, 4] (.agg [.agg [x1, .slice (rs.map fun r => .slice (pickedL (elemsD r) (pickPs (bagD cs rs) (elemsD x1))) []) []], .lit (.bool true)]))
  | 0, i, tl, _, h, _ => by omega
  | n + 1, i, tl, hi, h, ht => by
    rw [t13_lp5_step, show elemsD (fieldD (bagD cs rs) 1) = rs from rfl, show elemsD (fieldD (bagD cs rs) 0) = cs from rfl]
    by_cases hlt : i < (elemsD x1).length
    · have hl2 : (((elemsD x1).take i).map (fun c => litI (placeI cs (intD c))) ++ tl).length = (elemsD x1).length := by simp; omega
      have w1 : IntKind.wrap .i64 ((i : Int) + 1) = ((i + 1 : Nat) : Int) := by rw [l_wrapI (l_in (by omega) (by omega))]; omega
      have e1 : (DataW.lit (.int .i64 (Lib.idxOf (cs.map intD) (intD (elemsD x1)[i]))) : D) = (fun c => litI (placeI cs (intD c))) (elemsD x1)[i] := rfl
      rw [hl2, l_idx hlt, l_lt hlt, cond_true, cond_true, cond_true, Int.toNat_natCast, l_get hlt, w1, e1, l_set (fun c => litI (placeI cs (intD c))) hlt ht]
      exact pick_in hN hc hb hr n (i + 1) (tl.drop 1) (by omega) (by omega) (by simp; omega)
    · have hi2 : i = (elemsD x1).length := by omega
      have htl : tl = [] := List.length_eq_zero_iff.1 (by omega)
      have g2 : (decide (0 ≤ (rs.length : Int)) && decide ((rs.length : Int) ≤ 2147483648)) = true := by simp only [Bool.and_eq_true, decide_eq_true_eq]; omega
      rw [l_ge hlt, cond_false, g2, cond_true, htl, hi2, List.take_length, List.append_nil, Int.toNat_natCast]
      exact pick_out (N := N) (cs := cs) (rs := rs) (ps := pickPs (bagD cs rs) (elemsD x1)) (x1 := x1) hc hb hr N 0 _ (Nat.zero_le _) (by omega) (by simp)
theorem k13 : FnOK Tryd.prog 13 Tryd.f13 := ⟨Tryd.func13, rfl, by kernel_rfl⟩
theorem c13 : ∀ args d, e13.2.2.2 args = some d → CallOK Tryd.prog 13 args (mkRes Tryd.prog 30 d) :=
  ent2 k13 fun x y d h ⟨_, hx⟩ ⟨_, hy⟩ => by
    cases h
    rw [nB, nI]
    obtain ⟨cs, rs, rfl, h1, h2, h3, h4⟩ := tyB hx
    obtain ⟨ys, rfl, _, _⟩ := tyI hy
    refine fn_ok hm envP1 k13 ((t13 (rs.length + ys.length + 1) (bagD cs rs) (.slice ys [])).trans ?_)
    rw [mTBB]
    have hys : elemsD (DataW.slice ys [] : D) = ys := rfl
    rw [show elemsD (fieldD (bagD cs rs) 0) = cs from rfl, hys]
    cases q1 : mayBagB (bagD cs rs) with
    | false =>
      have : pickOK (bagD cs rs) ys = false := by unfold pickOK; rw [q1]; rfl
      rw [pickBag, this]; rfl
    | true =>
      cases q2 : colsMayB ys with
      | false =>
        have : pickOK (bagD cs rs) ys = false := by unfold pickOK; rw [q1, q2]; rfl
        rw [pickBag, this]; rfl
      | true =>
        cases q3 : hasAllB cs ys with
        | false =>
          have : pickOK (bagD cs rs) ys = false := by unfold pickOK; rw [q1, q2, show bCols (bagD cs rs) = cs from rfl, q3]; rfl
          rw [pickBag, this]; rfl
        | true =>
          have hok : pickOK (bagD cs rs) ys = true := by unfold pickOK; rw [q1, q2, show bCols (bagD cs rs) = cs from rfl, q3]; rfl
          have hmb := may_bag q1
          have h16 := cols_few q2
          have hn := hmb.n
          have g1 : (decide (0 ≤ (ys.length : Int)) && decide ((ys.length : Int) ≤ 2147483648)) = true := by simp only [Bool.and_eq_true, decide_eq_true_eq]; omega
          have hr : ∀ r ∈ rs, pickedOK (elemsD r) (pickPs (bagD cs rs) ys) = true := by
            intro r hr
            simp only [pickedOK, Bool.and_eq_true, decide_eq_true_eq, List.all_eq_true, pickPs, List.length_map, List.mem_map]
            refine ⟨by omega, ?_⟩
            rintro q ⟨c, hc, rfl⟩
            simp only [hasAllB, List.all_eq_true] at q3
            obtain ⟨a, b⟩ := place_in (q3 _ (List.mem_map_of_mem hc))
            have hl := hmb.l r hr
            show 0 ≤ placeI cs (intD c) ∧ placeI cs (intD c) < ((elemsD r).length : Int)
            omega
          rw [g1, pickBag, hok]
          have key := pick_in (N := rs.length + ys.length + 1) (cs := cs) (rs := rs) (x1 := .slice ys []) (by omega) (by rw [hys]; omega) (by omega) hr (rs.length + ys.length + 1) 0 (List.replicate ys.length (.lit (.int .i64 0))) (Nat.zero_le _) (by rw [hys]; omega) (by rw [hys]; simp)
          have e1 : ((ys.length : Int)).toNat = ys.length := Int.toNat_natCast _
          rw [e1]
          exact key
end Go.Proofs.YtbidfbpaeemhhaaDoor
