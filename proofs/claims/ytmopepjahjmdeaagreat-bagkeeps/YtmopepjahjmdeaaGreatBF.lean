/- Layers 2 and 3 together; what Keep and Pick answer. Nothing here is trusted. -/
import Derived.Test.YtmopepjahjmdeaaGreatBE
import Derived.Test.YtmopepjahjmdeaaGreatWC
import Derived.Test.YtmopepjahjmdeaaGreatV3
namespace Go.Proofs.YtmopepjahjmdeaaGreat
open Go.Ev
set_option linter.unusedVariables false

def B8 : Tab := X.e49 :: X.e10 :: X.e19 :: B7
theorem envB7' : EnvOK Tryz.prog (envR B7 [] [] []) :=
  ⟨envB7.p, (envB1).h, (envB1).r, (envB1).f⟩
theorem envB8 : EnvOK Tryz.prog (envR B8 [] [] []) := envOK_cons (envOK_cons (envOK_cons' envB7' X.c19) X.c10) X.c49
def e11 : FuncId × TypeId × (List AV → Bool) × (List AV → Option D) := (11, 3, yes, ent [22, 3] (f2 fun x y => some (.lit (.int .i64 (placeI (elemsD x) (intD y))))))
def e7 : FuncId × TypeId × (List AV → Bool) × (List AV → Option D) := (7, 4, yes, ent [26] (f1 fun x => some (.lit (.bool (lightB (elemsD x))))))
def e20 : FuncId × TypeId × (List AV → Bool) × (List AV → Option D) := (20, 4, yes, ent [26, 22, 46] (f3 fun x y z => some (.lit (.bool (allKeepB (elemsD x) (elemsD y) (elemsD z))))))
def e36 : FuncId × TypeId × (List AV → Bool) × (List AV → Option D) := (36, 46, preD (q2 fun x y => pickedOK (elemsD x) (elemsD y)), ent [46, 22] (f2 fun x y => some (.slice (pickedL (elemsD x) (elemsD y)) [])))
def B9 : Tab := e11 :: e7 :: e20 :: e36 :: B8
def e8 : FuncId × TypeId × (List AV → Bool) × (List AV → Option D) := (8, 25, preD (q2 fun x _ => sortOK x), ent [25, 26] (f2 fun x y => some (keepBag x (elemsD y))))
def e13 : FuncId × TypeId × (List AV → Bool) × (List AV → Option D) := (13, 38, yes, ent [25, 22] (f2 fun x y => some (.agg [pickBag x (elemsD y), .lit (.bool (pickOK x (elemsD y)))])))
def BA : Tab := e8 :: e13 :: B9

end Go.Proofs.YtmopepjahjmdeaaGreat

namespace Go.Proofs.YtmopepjahjmdeaaGreat
open Go.Ev
set_option linter.unusedVariables false
/- roadbook/roadbookref03.Place -/
def t11_h : Hints := fun i => if i = 2 then some ([2, 3, 4, 6, 7, 8, 9, 10, 11, 12, 13, 14, 15, 16, 17, 18], [], []) else none
def t11_lp2 (P : Program) (fn : Func) (N n : Nat) (x0 : D) (x1 : Int) (v5 : Int) : Option AV := evLoop (preL t11_h (sub [1, 0, 1, 0, 0] (bodyOf fn))) (evCode P (envR B8 [] [] []) t11_h N (sub [1, 0, 1, 0, 0] (bodyOf fn))) n ⟨[dat 22 x0, dat 3 (.lit (.int .i64 x1)), dead, dead, dead, dat 3 (.lit (.int .i64 v5)), dead, dead, dead, dead, dead, dead, dead, dead, dead, dead, dead, dead, dead], lookB []⟩ (blockK 0 (seqC P (envR B8 [] [] []) t11_h N (sub [1, 1] (bodyOf fn)) (finK P fn) ))
theorem t11_lp2_step  (N n : Nat) (x0 : D) (x1 : Int) (v5 : Int) : t11_lp2 Tryz.prog Tryz.f11 N (n + 1) x0 x1 v5 =
  bif decide (v5 < ((elemsD x0).length : Int)) then
    bif (decide (0 ≤ v5) && decide (v5 < ((elemsD x0).length : Int))) then
      bif ((intD ((elemsD x0).getD (v5).toNat .nil)) == x1) then
        some (dat 3 (.lit (.int .i64 v5)))
      else t11_lp2 Tryz.prog Tryz.f11 N n x0 x1 (IntKind.wrap .i64 (v5 + 1))
    else none
  else some (dat 3 (.lit (.int .i64 (-1)))) := by kernel_rfl
theorem t11 (N : Nat) (x0 : D) (x1 : Int) : evFn Tryz.prog (envR B8 [] [] []) t11_h N Tryz.f11 [dat 22 x0, dat 3 (.lit (.int .i64 x1))] =
  t11_lp2 Tryz.prog Tryz.f11 N N x0 x1 0 := by kernel_rfl

/- roadbook/roadbooklaw03.light -/
def t7_h : Hints := fun i => if i = 3 then some ([1, 2, 5, 6, 7, 8, 9, 10, 11, 12, 13, 14, 15, 16, 17, 18, 19, 20, 21, 22], [], []) else none
def t7_lp3 (P : Program) (fn : Func) (N n : Nat) (x0 : D) (v3 : Bool) (v4 : Int) : Option AV := evLoop (preL t7_h (sub [1, 1, 0, 1, 0, 0] (bodyOf fn))) (evCode P (envR B8 [] [] []) t7_h N (sub [1, 1, 0, 1, 0, 0] (bodyOf fn))) n ⟨[dat 26 x0, dead, dead, dat 4 (.lit (.bool v3)), dat 3 (.lit (.int .i64 v4)), dead, dead, dead, dead, dead, dead, dead, dead, dead, dead, dead, dead, dead, dead, dead, dead, dead, dead], lookB []⟩ (blockK 0 (seqC P (envR B8 [] [] []) t7_h N (sub [1, 1, 1] (bodyOf fn)) (finK P fn) ))
theorem t7_lp3_step  (N n : Nat) (x0 : D) (v3 : Bool) (v4 : Int) : t7_lp3 Tryz.prog Tryz.f7 N (n + 1) x0 v3 v4 =
  bif ((decide (v4 < ((elemsD x0).length : Int))) == true) then
    bif v3 then
      bif (decide (0 ≤ v4) && decide (v4 < ((elemsD x0).length : Int))) then
        bif (decide (0 ≤ 60) && decide (60 ≤ 1000)) then
          t7_lp3 Tryz.prog Tryz.f7 N n x0 (fewE ((elemsD x0).getD (v4).toNat .nil) 60) (IntKind.wrap .i64 (v4 + 1))
        else none
      else none
    else some (dat 4 (.lit (.bool v3)))
  else some (dat 4 (.lit (.bool v3))) := by kernel_rfl
theorem t7 (N : Nat) (x0 : D) : evFn Tryz.prog (envR B8 [] [] []) t7_h N Tryz.f7 [dat 26 x0] =
  t7_lp3 Tryz.prog Tryz.f7 N N x0 (decide (((elemsD x0).length : Int) ≤ 4)) 0 := by kernel_rfl

/- roadbook/bag.allKeep -/
def t20_h : Hints := fun i => if i = 2 then some ([0, 3, 4, 5, 6, 7, 8, 12, 13, 14, 15, 16, 17, 18, 19, 20], [], []) else none
def t20_lp2 (P : Program) (fn : Func) (N n : Nat) (x0 : D) (x1 : D) (x2 : D) (v11 : Int) : Option AV := evLoop (preL t20_h (sub [1, 0, 1, 0, 0] (bodyOf fn))) (evCode P (envR B8 [] [] []) t20_h N (sub [1, 0, 1, 0, 0] (bodyOf fn))) n ⟨[dead, dat 22 x1, dat 46 x2, dead, dead, dead, dead, dead, dead, dat 26 x0, dat 3 (.lit (.int .i64 ((elemsD x0).length : Int))), dat 3 (.lit (.int .i64 v11)), dead, dead, dead, dead, dead, dead, dead, dead, dead], lookB []⟩ (blockK 0 (seqC P (envR B8 [] [] []) t20_h N (sub [1, 1] (bodyOf fn)) (finK P fn) ))
theorem t20_lp2_step  (N n : Nat) (x0 : D) (x1 : D) (x2 : D) (v11 : Int) : t20_lp2 Tryz.prog Tryz.f20 N (n + 1) x0 x1 x2 v11 =
  bif decide (v11 < ((elemsD x0).length : Int)) then
    bif (decide (0 ≤ v11) && decide (v11 < ((elemsD x0).length : Int))) then
      bif (!(keepsE ((elemsD x0).getD (v11).toNat .nil) (elemsD x1) (elemsD x2))) then
        some (dat 4 (.lit (.bool false)))
      else t20_lp2 Tryz.prog Tryz.f20 N n x0 x1 x2 (IntKind.wrap .i64 (v11 + 1))
    else none
  else some (dat 4 (.lit (.bool true))) := by kernel_rfl
theorem t20 (N : Nat) (x0 : D) (x1 : D) (x2 : D) : evFn Tryz.prog (envR B8 [] [] []) t20_h N Tryz.f20 [dat 26 x0, dat 22 x1, dat 46 x2] =
  t20_lp2 Tryz.prog Tryz.f20 N N x0 x1 x2 0 := by kernel_rfl

/- roadbook/bag.picked -/
def t36_h : Hints := fun i => if i = 3 then some ([1, 2, 3, 4, 6, 7, 8, 9, 10, 14, 15, 16, 17, 18, 19, 20, 21, 22, 23, 24, 25, 26], [10], []) else none
def t36_lp3 (P : Program) (fn : Func) (N n : Nat) (x0 : D) (x1 : D) (v13 : Int) (b10 : List D) : Option AV := evLoop (preL t36_h (sub [1, 1, 0, 1, 0, 0] (bodyOf fn))) (evCode P (envR B8 [] [] []) t36_h N (sub [1, 1, 0, 1, 0, 0] (bodyOf fn))) n ⟨[dat 46 x0, dead, dead, dead, dead, bxp 10 46, dead, dead, dead, dead, dead, dat 22 x1, dat 3 (.lit (.int .i64 ((elemsD x1).length : Int))), dat 3 (.lit (.int .i64 v13)), dead, dead, dead, dead, dead, dead, dead, dead, dead, dead, dead, dead, dead], lookB [(10, some ⟨46, .slice b10 [], 2, none⟩)]⟩ (blockK 0 (seqC P (envR B8 [] [] []) t36_h N (sub [1, 1, 1] (bodyOf fn)) (finK P fn) ))
theorem t36_lp3_step  (N n : Nat) (x0 : D) (x1 : D) (v13 : Int) (b10 : List D) : t36_lp3 Tryz.prog Tryz.f36 N (n + 1) x0 x1 v13 b10 =
  bif decide (v13 < ((elemsD x1).length : Int)) then
    bif (decide (0 ≤ v13) && decide (v13 < ((elemsD x1).length : Int))) then
      bif (decide (0 ≤ (intD ((elemsD x1).getD (v13).toNat .nil))) && decide ((intD ((elemsD x1).getD (v13).toNat .nil)) < ((elemsD x0).length : Int))) then
        bif (decide (0 ≤ v13) && decide (v13 < (b10.length : Int))) then
          t36_lp3 Tryz.prog Tryz.f36 N n x0 x1 (IntKind.wrap .i64 (v13 + 1)) (b10.set (v13).toNat ((elemsD x0).getD (intD ((elemsD x1).getD (v13).toNat .nil)).toNat .nil))
        else none
      else none
    else none
  else some (dat 46 (.slice b10 [])) := by kernel_rfl
theorem t36 (N : Nat) (x0 : D) (x1 : D) : evFn Tryz.prog (envR B8 [] [] []) t36_h N Tryz.f36 [dat 46 x0, dat 22 x1] =
  bif (decide (0 ≤ ((elemsD x1).length : Int)) && decide (((elemsD x1).length : Int) ≤ 2147483648)) then
    t36_lp3 Tryz.prog Tryz.f36 N N x0 x1 0 (List.replicate (((elemsD x1).length : Int)).toNat (.agg [.lit (.int .i64 0), .lit (.int .i64 0)]))
  else none := by kernel_rfl

end Go.Proofs.YtmopepjahjmdeaaGreat

namespace Go.Proofs.YtmopepjahjmdeaaGreat
open Go.Ev
set_option linter.unusedVariables false
set_option maxRecDepth 10000
set_option linter.unusedSimpArgs false

theorem place_loop {N : Nat} {x0 : D} {x1 : Int} (hl : (elemsD x0).length ≤ maxLen) : ∀ (n i : Nat), i ≤ (elemsD x0).length → (elemsD x0).length - i < n →
    t11_lp2 Tryz.prog Tryz.f11 N n x0 x1 (i : Int) = some (dat 3 (.lit (.int .i64 (Lib.idxFrom (((elemsD x0).drop i).map intD) x1 i))))
  | 0, i, _, h => by omega
  | n + 1, i, hi, h => by
    rw [t11_lp2_step]
    by_cases hlt : i < (elemsD x0).length
    · rw [l_idx hlt, l_lt hlt, cond_true, cond_true, List.drop_eq_getElem_cons hlt, List.map_cons, Int.toNat_natCast, l_get hlt, Lib.idxFrom, l_wrap hl hlt, place_loop hl n (i + 1) (by omega) (by omega)]
      by_cases he : intD (elemsD x0)[i] = x1
      · have : (intD (elemsD x0)[i] == x1) = true := by simp [he]
        rw [this, cond_true, if_pos he]
      · have : (intD (elemsD x0)[i] == x1) = false := by rw [beq_eq_false_iff_ne]; exact he
        rw [this, cond_false, if_neg he]
    · rw [l_ge hlt, cond_false, List.drop_of_length_le (by omega)]
      rfl
theorem k11 : FnOK Tryz.prog 11 Tryz.f11 := ⟨Tryz.func11, rfl, by kernel_rfl⟩
theorem c11 : ∀ args d, e11.2.2.2 args = some d → CallOK Tryz.prog 11 args (mkRes Tryz.prog 3 d) :=
  ent2 k11 fun x y d h ⟨_, hx⟩ _ => by
    cases h
    rw [nI, n3]
    refine fn_ok hm envB8 k11 ((t11 ((elemsD x).length + 1) x (intD y)).trans ?_)
    rw [m3]
    exact place_loop (N := (elemsD x).length + 1) (x1 := intD y) (lenI hx) ((elemsD x).length + 1) 0 (Nat.zero_le _) (by omega)

theorem light_loop {N : Nat} {x0 : D} (hl : (elemsD x0).length ≤ maxLen) : ∀ (n i : Nat) (b : Bool), i ≤ (elemsD x0).length → (elemsD x0).length - i < n →
    t7_lp3 Tryz.prog Tryz.f7 N n x0 b (i : Int) = some (dat 4 (.lit (.bool (b && ((elemsD x0).drop i).all fun e => fewE e 60))))
  | 0, i, b, _, h => by omega
  | n + 1, i, b, hi, h => by
    rw [t7_lp3_step]
    by_cases hlt : i < (elemsD x0).length
    · rw [l_idx hlt, l_lt hlt, List.drop_eq_getElem_cons hlt, List.all_cons, Int.toNat_natCast, l_get hlt, l_wrap hl hlt]
      cases b with
      | false => rfl
      | true =>
        rw [show (decide ((0 : Nat) ≤ 60) && decide ((60 : Nat) ≤ 1000)) = true from rfl, show ((true : Bool) == true) = true from rfl]
        simp only [cond_true, Bool.true_and]
        exact light_loop hl n (i + 1) _ (by omega) (by omega)
    · rw [l_ge hlt, List.drop_of_length_le (by omega)]
      cases b <;> rfl
theorem k7 : FnOK Tryz.prog 7 Tryz.f7 := ⟨Tryz.func7, rfl, by kernel_rfl⟩
theorem nX (x : D) : normD Tryz.prog 26 x = x := by kernel_rfl
theorem lenX {n : Nat} {x : D} (hx : Ty Tryz.prog n 26 x) : (elemsD x).length ≤ maxLen := by
  cases n with
  | zero => exact hx.elim
  | succ n =>
    unfold Ty at hx
    rw [X.u24] at hx
    split at hx <;> try (exact hx.elim)
    all_goals try (simp_all; done)
    rename_i e es sp heq
    cases heq
    obtain ⟨rfl, hl, _⟩ := hx
    exact hl
theorem c7 : ∀ args d, e7.2.2.2 args = some d → CallOK Tryz.prog 7 args (mkRes Tryz.prog 4 d) :=
  ent1 k7 fun x d h ⟨_, hx⟩ => by
    cases h
    rw [nX]
    refine fn_ok hm envB8 k7 ((t7 ((elemsD x).length + 1) x).trans ?_)
    rw [m4]
    refine (light_loop (N := (elemsD x).length + 1) (lenX hx) ((elemsD x).length + 1) 0 _ (Nat.zero_le _) (by omega)).trans ?_
    have : decide (((elemsD x).length : Int) ≤ 4) = decide ((elemsD x).length ≤ 4) := by
      rw [decide_eq_decide]; omega
    rw [this]
    rfl

theorem c20' {N : Nat} {x0 x1 x2 : D} (hl : (elemsD x0).length ≤ maxLen) (hN : (elemsD x0).length < N) : t20_lp2 Tryz.prog Tryz.f20 N N x0 x1 x2 0 = some (dat 4 (.lit (.bool (allKeepB (elemsD x0) (elemsD x1) (elemsD x2))))) := by
  have := l_loop (fun n v => t20_lp2 Tryz.prog Tryz.f20 N n x0 x1 x2 v) (elemsD x0).length (fun i => !keepsE ((elemsD x0).getD i .nil) (elemsD x1) (elemsD x2)) (some (dat 4 (.lit (.bool false)))) (some (dat 4 (.lit (.bool true))))
    (fun n i hi => by rw [t20_lp2_step, l_idx hi, l_lt hi, cond_true, cond_true, Int.toNat_natCast, l_wrap hl hi])
    (fun n => by rw [t20_lp2_step, l_ge (by omega), cond_false]) N 0 (Nat.zero_le _) (by omega)
  refine this.trans ?_
  rw [Nat.sub_zero, l_any0 (elemsD x0) (fun e => !keepsE e (elemsD x1) (elemsD x2))]
  have e : allKeepB (elemsD x0) (elemsD x1) (elemsD x2) = !((elemsD x0).any fun e => !keepsE e (elemsD x1) (elemsD x2)) := by
    unfold allKeepB
    rw [List.all_eq_not_any_not]
  rw [e]
  cases (elemsD x0).any _ <;> rfl
theorem k20 : FnOK Tryz.prog 20 Tryz.f20 := ⟨Tryz.func20, rfl, by kernel_rfl⟩
theorem c20 : ∀ args d, e20.2.2.2 args = some d → CallOK Tryz.prog 20 args (mkRes Tryz.prog 4 d) :=
  ent3 k20 fun x y z d h ⟨_, hx⟩ _ _ => by
    cases h
    rw [nX, nI, n28]
    refine fn_ok hm envB8 k20 ((t20 ((elemsD x).length + 1) x y z).trans ?_)
    rw [m4]
    exact c20' (lenX hx) (by omega)

theorem picked_loop {N : Nat} {x0 x1 : D} (hb : (elemsD x1).length ≤ 2147483648) (hin : ∀ q ∈ elemsD x1, 0 ≤ intD q ∧ intD q < ((elemsD x0).length : Int)) : ∀ (n i : Nat) (tl : List D), i ≤ (elemsD x1).length → (elemsD x1).length - i < n → tl.length = (elemsD x1).length - i →
    t36_lp3 Tryz.prog Tryz.f36 N n x0 x1 (i : Int) (((elemsD x1).take i).map (fun q => (elemsD x0).getD (intD q).toNat .nil) ++ tl) = some (dat 46 (.slice (pickedL (elemsD x0) (elemsD x1)) []))
  | 0, i, tl, _, h, _ => by omega
  | n + 1, i, tl, hi, h, ht => by
    rw [t36_lp3_step]
    by_cases hlt : i < (elemsD x1).length
    · have hl2 : (((elemsD x1).take i).map (fun q => (elemsD x0).getD (intD q).toNat .nil) ++ tl).length = (elemsD x1).length := by simp; omega
      have hc : (decide (0 ≤ intD (elemsD x1)[i]) && decide (intD (elemsD x1)[i] < ((elemsD x0).length : Int))) = true := by
        simp only [Bool.and_eq_true, decide_eq_true_eq]; exact hin _ (List.getElem_mem hlt)
      have w1 : IntKind.wrap .i64 ((i : Int) + 1) = ((i + 1 : Nat) : Int) := by rw [l_wrapI (l_in (by omega) (by omega))]; omega
      rw [hl2, l_idx hlt, l_lt hlt, cond_true, cond_true, Int.toNat_natCast, l_get hlt, hc, cond_true, cond_true, w1, l_set (fun q => (elemsD x0).getD (intD q).toNat .nil) hlt ht]
      exact picked_loop hb hin n (i + 1) (tl.drop 1) (by omega) (by omega) (by simp; omega)
    · have hi2 : i = (elemsD x1).length := by omega
      have htl : tl = [] := List.length_eq_zero_iff.1 (by omega)
      rw [l_ge hlt, cond_false, htl, hi2, List.take_length, List.append_nil]
      rfl
theorem k36 : FnOK Tryz.prog 36 Tryz.f36 := ⟨Tryz.func36, rfl, by kernel_rfl⟩
theorem c36 : ∀ args d, e36.2.2.1 args = true → e36.2.2.2 args = some d → CallOK Tryz.prog 36 args (mkRes Tryz.prog 46 d) :=
  ent2p k36 fun x y d hq h _ _ => by
    cases h
    rw [n28, nI]
    simp only [pickedOK, Bool.and_eq_true, decide_eq_true_eq, List.all_eq_true] at hq
    refine fn_ok hm envB8 k36 ((t36 ((elemsD y).length + 1) x y).trans ?_)
    rw [m28]
    have c1 : (decide (0 ≤ ((elemsD y).length : Int)) && decide (((elemsD y).length : Int) ≤ 2147483648)) = true := by
      have := hq.1
      simp only [Bool.and_eq_true, decide_eq_true_eq]; omega
    rw [c1, cond_true, Int.toNat_natCast]
    exact picked_loop (N := (elemsD y).length + 1) hq.1 hq.2 ((elemsD y).length + 1) 0 _ (Nat.zero_le _) (by omega) (by simp)
theorem envB9 : EnvOK Tryz.prog (envR B9 [] [] []) := envOK_cons (envOK_cons (envOK_cons (envOK_cons' envB8 c36) c20) c7) c11

end Go.Proofs.YtmopepjahjmdeaaGreat

namespace Go.Proofs.YtmopepjahjmdeaaGreat
open Go.Ev
set_option linter.unusedVariables false
/- roadbook/bag.Keep -/
def t8_h : Hints := fun i => if i = 3 then some ([0, 3, 6, 7, 8, 12, 13, 14, 15, 16, 17, 18, 19, 20, 21, 22, 23, 24, 25, 26, 27, 28, 29, 30], [2, 4, 5, 24, 900000], []) else none
def t8_lp3 (P : Program) (fn : Func) (N n : Nat) (x0 : D) (x1 : D) (v11 : Int) (b5 : List D) : Option AV := evLoop (preL t8_h (sub [1, 1, 0, 1, 0, 0] (bodyOf fn))) (evCode P (envR B9 [] [] []) t8_h N (sub [1, 1, 0, 1, 0, 0] (bodyOf fn))) n ⟨[dead, dat 26 x1, bxp 2 25, dead, bxp 4 25, bxp 5 23, dead, dead, dead, dat 23 (fieldD x0 1), dat 3 (.lit (.int .i64 ((elemsD (fieldD x0 1)).length : Int))), dat 3 (.lit (.int .i64 v11)), dead, dead, dead, dead, dead, dead, dead, dead, dead, dead, dead, dead, dead, dead, dead, dead, dead, dead, dead], lookB [(2, some ⟨25, x0, 0, none⟩), (4, some ⟨25, .agg [.slice [] [], .slice [] []], 0, none⟩), (5, some ⟨23, .slice b5 [], 1, none⟩), (24, none), (900000, none)]⟩ (blockK 0 (seqC P (envR B9 [] [] []) t8_h N (sub [1, 1, 1] (bodyOf fn)) (finK P fn) ))
theorem t8_lp3_step  (N n : Nat) (x0 : D) (x1 : D) (v11 : Int) (b5 : List D) : t8_lp3 Tryz.prog Tryz.f8 N (n + 1) x0 x1 v11 b5 =
  bif decide (v11 < ((elemsD (fieldD x0 1)).length : Int)) then
    bif (decide (0 ≤ v11) && decide (v11 < ((elemsD (fieldD x0 1)).length : Int))) then
      bif allKeepB (elemsD x1) (elemsD (fieldD x0 0)) (elemsD ((elemsD (fieldD x0 1)).getD (v11).toNat .nil)) then
        bif decide ((elemsD ((elemsD (fieldD x0 1)).getD (v11).toNat .nil)).length ≤ 2147483648) then
          bif decide ((b5).length + 1 ≤ 2147483648) then
            t8_lp3 Tryz.prog Tryz.f8 N n x0 x1 (IntKind.wrap .i64 (v11 + 1)) (b5 ++ [(elemsD (fieldD x0 1)).getD (v11).toNat .nil])
          else none
        else none
      else t8_lp3 Tryz.prog Tryz.f8 N n x0 x1 (IntKind.wrap .i64 (v11 + 1)) b5
    else none
  else bif decide ((elemsD (fieldD x0 0)).length ≤ 2147483648) then
      some (dat 25 (.agg [fieldD x0 0, .slice b5 []]))
    else none := by kernel_rfl
theorem t8 (N : Nat) (x0 : D) (x1 : D) : evFn Tryz.prog (envR B9 [] [] []) t8_h N Tryz.f8 [dat 25 x0, dat 26 x1] =
  t8_lp3 Tryz.prog Tryz.f8 N N x0 x1 0 [] := by kernel_rfl

/- roadbook/bag.Pick -/
def t13_h : Hints := fun i => if i = 5 then some ([0, 3, 5, 7, 8, 9, 10, 11, 12, 13, 14, 15, 16, 17, 18, 19, 20, 21, 22, 23, 24, 25, 26, 27, 28, 29, 30, 34, 35, 36, 37, 38, 39, 40, 41, 42, 43, 44, 45, 46, 47, 48, 49, 50, 51, 52, 53, 54, 55, 56, 57, 58, 59, 60, 61, 62, 63, 64, 65, 66, 67, 68], [2, 4, 30], []) else if i = 11 then some ([0, 2, 3, 5, 7, 8, 10, 11, 12, 13, 14, 15, 16, 17, 18, 19, 20, 21, 22, 23, 24, 25, 26, 27, 28, 29, 30, 31, 32, 33, 34, 35, 36, 37, 38, 39, 40, 41, 42, 43, 44, 45, 46, 47, 48, 49, 50, 54, 55, 56, 57, 58, 59, 60, 61, 62, 63, 64, 65, 66, 67, 68], [4, 49], [6]) else none
def t13_lp5 (P : Program) (fn : Func) (N n : Nat) (x0 : D) (x1 : D) (v33 : Int) (b30 : List D) : Option AV := evLoop (preL t13_h (sub [1, 1, 1, 0, 1, 0, 0] (bodyOf fn))) (evCode P (envR B9 [] [] []) t13_h N (sub [1, 1, 1, 0, 1, 0, 0] (bodyOf fn))) n ⟨[dead, dat 22 x1, bxp 2 25, dead, bxp 4 25, dead, bxp 30 22, dead, dead, dead, dead, dead, dead, dead, dead, dead, dead, dead, dead, dead, dead, dead, dead, dead, dead, dead, dead, dead, dead, dead, dead, dat 22 x1, dat 3 (.lit (.int .i64 ((elemsD x1).length : Int))), dat 3 (.lit (.int .i64 v33)), dead, dead, dead, dead, dead, dead, dead, dead, dead, dead, dead, dead, dead, dead, dead, dead, dead, dead, dead, dead, dead, dead, dead, dead, dead, dead, dead, dead, dead, dead, dead, dead, dead, dead, dead], lookB [(2, some ⟨25, x0, 0, none⟩), (4, some ⟨25, .agg [.slice [] [], .slice [] []], 0, none⟩), (30, some ⟨22, .slice b30 [], 2, none⟩)]⟩ (blockK 0 (seqC P (envR B9 [] [] []) t13_h N (sub [1, 1, 1, 1] (bodyOf fn)) (finK P fn) ))
def t13_lp11 (P : Program) (fn : Func) (N n : Nat) (x0 : D) (x1 : D) (v33 : Int) (b30 : List D) (m0 : Nat) (v53 : Int) (b49 : List D) : Option AV := evLoop (preL t13_h (sub [1, 1, 1, 1, 1, 0, 1, 0, 0] (bodyOf fn))) (evCode P (envR B9 [] [] []) t13_h N (sub [1, 1, 1, 1, 1, 0, 1, 0, 0] (bodyOf fn))) n ⟨[dead, dat 22 x1, dead, dead, bxp 4 25, dead, dat 22 (.slice b30 []), dead, dead, bxp 49 23, dead, dead, dead, dead, dead, dead, dead, dead, dead, dead, dead, dead, dead, dead, dead, dead, dead, dead, dead, dead, dead, dead, dead, dead, dead, dead, dead, dead, dead, dead, dead, dead, dead, dead, dead, dead, dead, dead, dead, dead, dead, dat 23 (fieldD x0 1), dat 3 (.lit (.int .i64 ((elemsD (fieldD x0 1)).length : Int))), dat 3 (.lit (.int .i64 v53)), dead, dead, dead, dead, dead, dead, dead, dead, dead, dead, dead, dead, dead, dead, dead], lookB [(4, some ⟨25, .agg [.slice [] [], .slice [] []], 0, none⟩), (49, some ⟨23, .slice b49 [], 2, none⟩)]⟩ (blockK 2 (seqC P (envR B9 [] [] []) t13_h N (sub [1, 1, 1, 1, 1, 1] (bodyOf fn)) (finK P fn) ))
theorem t13_lp11_step  (N n : Nat) (x0 : D) (x1 : D) (v33 : Int) (b30 : List D) (m0 : Nat) (v53 : Int) (b49 : List D) : t13_lp11 Tryz.prog Tryz.f13 N (n + 1) x0 x1 v33 b30 m0 v53 b49 =
  bif decide (v53 < ((elemsD (fieldD x0 1)).length : Int)) then
    bif (decide (0 ≤ v53) && decide (v53 < ((elemsD (fieldD x0 1)).length : Int))) then
      bif pickedOK (elemsD ((elemsD (fieldD x0 1)).getD (v53).toNat .nil)) b30 then
        bif (decide (0 ≤ v53) && decide (v53 < (b49.length : Int))) then
          t13_lp11 Tryz.prog Tryz.f13 N n x0 x1 v33 b30 m0 (IntKind.wrap .i64 (v53 + 1)) (b49.set (v53).toNat (.slice (pickedL (elemsD ((elemsD (fieldD x0 1)).getD (v53).toNat .nil)) b30) []))
        else none
      else none
    else none
  else bif decide ((elemsD x1).length ≤ 2147483648) then
      some (tupA [25, 4] (.agg [.agg [x1, .slice b49 []], .lit (.bool true)]))
    else none := by kernel_rfl
theorem t13_lp5_step  (N n : Nat) (x0 : D) (x1 : D) (v33 : Int) (b30 : List D) : t13_lp5 Tryz.prog Tryz.f13 N (n + 1) x0 x1 v33 b30 =
  bif decide (v33 < ((elemsD x1).length : Int)) then
    bif (decide (0 ≤ v33) && decide (v33 < ((elemsD x1).length : Int))) then
      bif (decide (0 ≤ v33) && decide (v33 < (b30.length : Int))) then
        t13_lp5 Tryz.prog Tryz.f13 N n x0 x1 (IntKind.wrap .i64 (v33 + 1)) (b30.set (v33).toNat (.lit (.int .i64 (Lib.idxOf ((elemsD (fieldD x0 0)).map intD) (intD ((elemsD x1).getD (v33).toNat .nil))))))
      else none
    else none
  else bif (decide (0 ≤ ((elemsD (fieldD x0 1)).length : Int)) && decide (((elemsD (fieldD x0 1)).length : Int) ≤ 2147483648)) then
      t13_lp11 Tryz.prog Tryz.f13 N N x0 x1 v33 b30 n 0 (List.replicate (((elemsD (fieldD x0 1)).length : Int)).toNat (.slice [] []))
    else none := by kernel_rfl
theorem t13 (N : Nat) (x0 : D) (x1 : D) : evFn Tryz.prog (envR B9 [] [] []) t13_h N Tryz.f13 [dat 25 x0, dat 22 x1] =
  bif ((!(mayBagB x0)) == false) then
    bif ((!(colsMayB (elemsD x1))) == false) then
      bif (!(hasAllB (elemsD (fieldD x0 0)) (elemsD x1))) then
        some (tupA [25, 4] (.agg [.agg [.slice [] [], .slice [] []], .lit (.bool false)]))
      else bif (decide (0 ≤ ((elemsD x1).length : Int)) && decide (((elemsD x1).length : Int) ≤ 2147483648)) then
          t13_lp5 Tryz.prog Tryz.f13 N N x0 x1 0 (List.replicate (((elemsD x1).length : Int)).toNat (.lit (.int .i64 0)))
        else none
    else some (tupA [25, 4] (.agg [.agg [.slice [] [], .slice [] []], .lit (.bool false)]))
  else some (tupA [25, 4] (.agg [.agg [.slice [] [], .slice [] []], .lit (.bool false)])) := by kernel_rfl

end Go.Proofs.YtmopepjahjmdeaaGreat

namespace Go.Proofs.YtmopepjahjmdeaaGreat
open Go.Ev
set_option linter.unusedVariables false
set_option maxRecDepth 10000
set_option linter.unusedSimpArgs false

theorem keep_loop {N : Nat} {cs rs : List D} {x1 : D} (hc : cs.length ≤ 2147483648) (hb : rs.length ≤ 2147483648) (hr : ∀ r ∈ rs, (elemsD r).length ≤ 2147483648) : ∀ (n i : Nat) (acc : List D), i ≤ rs.length → rs.length - i < n → acc.length ≤ i →
    t8_lp3 Tryz.prog Tryz.f8 N n (bagD cs rs) x1 (i : Int) acc = some (dat 25 (bagD cs (acc ++ keepRows (elemsD x1) cs (rs.drop i))))
  | 0, i, acc, _, h, _ => by omega
  | n + 1, i, acc, hi, h, ha => by
    rw [t8_lp3_step, show elemsD (fieldD (bagD cs rs) 1) = rs from rfl, show elemsD (fieldD (bagD cs rs) 0) = cs from rfl]
    by_cases hlt : i < rs.length
    · have w1 : IntKind.wrap .i64 ((i : Int) + 1) = ((i + 1 : Nat) : Int) := by rw [l_wrapI (l_in (by omega) (by omega))]; omega
      have g1 : decide ((elemsD rs[i]).length ≤ 2147483648) = true := by rw [decide_eq_true_eq]; exact hr _ (List.getElem_mem hlt)
      have g2 : decide (acc.length + 1 ≤ 2147483648) = true := by rw [decide_eq_true_eq]; omega
      rw [l_idx hlt, l_lt hlt, cond_true, cond_true, Int.toNat_natCast, l_get hlt, w1, g1, g2]
      simp only [cond_true]
      have hd : rs.drop i = rs[i] :: rs.drop (i + 1) := List.drop_eq_getElem_cons hlt
      cases hk : allKeepB (elemsD x1) cs (elemsD rs[i]) with
      | true =>
        rw [cond_true, keep_loop hc hb hr n (i + 1) (acc ++ [rs[i]]) (by omega) (by omega) (by simp; omega), hd]
        have : keepRows (elemsD x1) cs (rs[i] :: rs.drop (i + 1)) = rs[i] :: keepRows (elemsD x1) cs (rs.drop (i + 1)) := by
          unfold keepRows
          rw [List.filter_cons, if_pos hk]
        rw [this, List.append_assoc]
        rfl
      | false =>
        rw [cond_false, keep_loop hc hb hr n (i + 1) acc (by omega) (by omega) (by omega), hd]
        have : keepRows (elemsD x1) cs (rs[i] :: rs.drop (i + 1)) = keepRows (elemsD x1) cs (rs.drop (i + 1)) := by
          unfold keepRows
          rw [List.filter_cons, if_neg (by rw [hk]; simp)]
        rw [this]
    · have g1 : decide (cs.length ≤ 2147483648) = true := by rw [decide_eq_true_eq]; exact hc
      rw [l_ge hlt, cond_false, g1, cond_true, List.drop_of_length_le (by omega)]
      show _ = some (dat 25 (bagD cs (acc ++ [])))
      rw [List.append_nil]
      rfl
theorem k8 : FnOK Tryz.prog 8 Tryz.f8 := ⟨Tryz.func8, rfl, by kernel_rfl⟩
theorem c8 : ∀ args d, e8.2.2.1 args = true → e8.2.2.2 args = some d → CallOK Tryz.prog 8 args (mkRes Tryz.prog 25 d) :=
  ent2p k8 fun x y d hq h ⟨_, hx⟩ _ => by
    cases h
    rw [nB, nX]
    obtain ⟨cs, rs, rfl, h1, h2, h3, h4⟩ := tyB hx
    simp only [sortOK, Bool.and_eq_true, decide_eq_true_eq, List.all_eq_true] at hq
    obtain ⟨⟨g1, g2⟩, g3⟩ := hq
    refine fn_ok hm envB9 k8 ((t8 (rs.length + 1) (bagD cs rs) y).trans ?_)
    rw [mB]
    exact keep_loop (N := rs.length + 1) (cs := cs) (rs := rs) (x1 := y) g2 g1 g3 (rs.length + 1) 0 [] (Nat.zero_le _) (by omega) (by simp)

theorem pick_out {N : Nat} {cs rs ps : List D} {x1 : D} {v33 : Int} {m0 : Nat} (hc : (elemsD x1).length ≤ 2147483648) (hb : rs.length ≤ 2147483648) (hr : ∀ r ∈ rs, pickedOK (elemsD r) ps = true) : ∀ (n i : Nat) (tl : List D), i ≤ rs.length → rs.length - i < n → tl.length = rs.length - i →
    t13_lp11 Tryz.prog Tryz.f13 N n (bagD cs rs) x1 v33 ps m0 (i : Int) ((rs.take i).map (fun r => (DataW.slice (pickedL (elemsD r) ps) [] : D)) ++ tl) =
      some (tupA [25, 4] (.agg [.agg [x1, .slice (rs.map fun r => .slice (pickedL (elemsD r) ps) []) []], .lit (.bool true)]))
  | 0, i, tl, _, h, _ => by omega
  | n + 1, i, tl, hi, h, ht => by
    rw [t13_lp11_step, show elemsD (fieldD (bagD cs rs) 1) = rs from rfl]
    by_cases hlt : i < rs.length
    · have hl2 : ((rs.take i).map (fun r => (DataW.slice (pickedL (elemsD r) ps) [] : D)) ++ tl).length = rs.length := by simp; omega
      have w1 : IntKind.wrap .i64 ((i : Int) + 1) = ((i + 1 : Nat) : Int) := by rw [l_wrapI (l_in (by omega) (by omega))]; omega
      rw [hl2, l_idx hlt, l_lt hlt, cond_true, cond_true, Int.toNat_natCast, l_get hlt, hr _ (List.getElem_mem hlt), cond_true, cond_true, w1, l_set (fun r => (DataW.slice (pickedL (elemsD r) ps) [] : D)) hlt ht]
      exact pick_out hc hb hr n (i + 1) (tl.drop 1) (by omega) (by omega) (by simp; omega)
    · have hi2 : i = rs.length := by omega
      have htl : tl = [] := List.length_eq_zero_iff.1 (by omega)
      have g1 : decide ((elemsD x1).length ≤ 2147483648) = true := by rw [decide_eq_true_eq]; exact hc
      rw [l_ge hlt, cond_false, g1, cond_true, htl, hi2, List.take_length, List.append_nil]
theorem pick_in {N : Nat} {cs rs : List D} {x1 : D} (hN : rs.length < N) (hc : (elemsD x1).length ≤ 2147483648) (hb : rs.length ≤ 2147483648) (hr : ∀ r ∈ rs, pickedOK (elemsD r) (pickPs (bagD cs rs) (elemsD x1)) = true) : ∀ (n i : Nat) (tl : List D), i ≤ (elemsD x1).length → (elemsD x1).length - i < n → tl.length = (elemsD x1).length - i →
    t13_lp5 Tryz.prog Tryz.f13 N n (bagD cs rs) x1 (i : Int) (((elemsD x1).take i).map (fun c => litI (placeI cs (intD c))) ++ tl) =
      some (tupA [25, 4] (.agg [.agg [x1, .slice (rs.map fun r => .slice (pickedL (elemsD r) (pickPs (bagD cs rs) (elemsD x1))) []) []], .lit (.bool true)]))
  | 0, i, tl, _, h, _ => by omega
  | n + 1, i, tl, hi, h, ht => by
    rw [t13_lp5_step, show elemsD (fieldD (bagD cs rs) 1) = rs from rfl, show elemsD (fieldD (bagD cs rs) 0) = cs from rfl]
    by_cases hlt : i < (elemsD x1).length
    · have hl2 : (((elemsD x1).take i).map (fun c => litI (placeI cs (intD c))) ++ tl).length = (elemsD x1).length := by simp; omega
      have w1 : IntKind.wrap .i64 ((i : Int) + 1) = ((i + 1 : Nat) : Int) := by rw [l_wrapI (l_in (by omega) (by omega))]; omega
      have e1 : (DataW.lit (.int .i64 (Lib.idxOf (cs.map intD) (intD (elemsD x1)[i]))) : D) = (fun c => litI (placeI cs (intD c))) (elemsD x1)[i] := rfl
      rw [hl2, l_idx hlt, l_lt hlt, cond_true, cond_true, cond_true, Int.toNat_natCast, l_get hlt, w1, e1, l_set (fun c => litI (placeI cs (intD c))) hlt ht]
      exact pick_in hN hc hb hr n (i + 1) (tl.drop 1) (by omega) (by omega) (by simp; omega)
    · have hi2 : i = (elemsD x1).length := by omega
      have htl : tl = [] := List.length_eq_zero_iff.1 (by omega)
      have g2 : (decide (0 ≤ (rs.length : Int)) && decide ((rs.length : Int) ≤ 2147483648)) = true := by simp only [Bool.and_eq_true, decide_eq_true_eq]; omega
      rw [l_ge hlt, cond_false, g2, cond_true, htl, hi2, List.take_length, List.append_nil, Int.toNat_natCast]
      exact pick_out (N := N) (cs := cs) (rs := rs) (ps := pickPs (bagD cs rs) (elemsD x1)) (x1 := x1) hc hb hr N 0 _ (Nat.zero_le _) (by omega) (by simp)
theorem k13 : FnOK Tryz.prog 13 Tryz.f13 := ⟨Tryz.func13, rfl, by kernel_rfl⟩
theorem c13 : ∀ args d, e13.2.2.2 args = some d → CallOK Tryz.prog 13 args (mkRes Tryz.prog 38 d) :=
  ent2 k13 fun x y d h ⟨_, hx⟩ ⟨_, hy⟩ => by
    cases h
    rw [nB, nI]
    obtain ⟨cs, rs, rfl, h1, h2, h3, h4⟩ := tyB hx
    obtain ⟨ys, rfl, _, _⟩ := tyI hy
    refine fn_ok hm envB9 k13 ((t13 (rs.length + ys.length + 1) (bagD cs rs) (.slice ys [])).trans ?_)
    rw [mTBB]
    have hys : elemsD (DataW.slice ys [] : D) = ys := rfl
    rw [show elemsD (fieldD (bagD cs rs) 0) = cs from rfl, hys]
    cases q1 : mayBagB (bagD cs rs) with
    | false =>
      have : pickOK (bagD cs rs) ys = false := by unfold pickOK; rw [q1]; rfl
      rw [pickBag, this]; rfl
    | true =>
      cases q2 : colsMayB ys with
      | false =>
        have : pickOK (bagD cs rs) ys = false := by unfold pickOK; rw [q1, q2]; rfl
        rw [pickBag, this]; rfl
      | true =>
        cases q3 : hasAllB cs ys with
        | false =>
          have : pickOK (bagD cs rs) ys = false := by unfold pickOK; rw [q1, q2, show bCols (bagD cs rs) = cs from rfl, q3]; rfl
          rw [pickBag, this]; rfl
        | true =>
          have hok : pickOK (bagD cs rs) ys = true := by unfold pickOK; rw [q1, q2, show bCols (bagD cs rs) = cs from rfl, q3]; rfl
          have hmb := may_bag q1
          have h16 := cols_few q2
          have hn := hmb.n
          have g1 : (decide (0 ≤ (ys.length : Int)) && decide ((ys.length : Int) ≤ 2147483648)) = true := by simp only [Bool.and_eq_true, decide_eq_true_eq]; omega
          have hr : ∀ r ∈ rs, pickedOK (elemsD r) (pickPs (bagD cs rs) ys) = true := by
            intro r hr
            simp only [pickedOK, Bool.and_eq_true, decide_eq_true_eq, List.all_eq_true, pickPs, List.length_map, List.mem_map]
            refine ⟨by omega, ?_⟩
            rintro q ⟨c, hc, rfl⟩
            simp only [hasAllB, List.all_eq_true] at q3
            obtain ⟨a, b⟩ := place_in (q3 _ (List.mem_map_of_mem hc))
            have hl := hmb.l r hr
            show 0 ≤ placeI cs (intD c) ∧ placeI cs (intD c) < ((elemsD r).length : Int)
            omega
          rw [g1, pickBag, hok]
          have key := pick_in (N := rs.length + ys.length + 1) (cs := cs) (rs := rs) (x1 := .slice ys []) (by omega) (by rw [hys]; omega) (by omega) hr (rs.length + ys.length + 1) 0 (List.replicate ys.length (.lit (.int .i64 0))) (Nat.zero_le _) (by rw [hys]; omega) (by rw [hys]; simp)
          have e1 : ((ys.length : Int)).toNat = ys.length := Int.toNat_natCast _
          rw [e1]
          exact key
theorem envBA : EnvOK Tryz.prog (envR BA [] [] []) := envOK_cons' (envOK_cons envB9 c13) c8

end Go.Proofs.YtmopepjahjmdeaaGreat
