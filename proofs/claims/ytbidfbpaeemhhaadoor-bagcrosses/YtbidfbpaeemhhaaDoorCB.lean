/- What the evaluator comes to, function by function: by the kernel. Nothing here is trusted. -/
import Derived.Test.YtbidfbpaeemhhaaDoorCA
namespace Go.Proofs.YtbidfbpaeemhhaaDoor
open Go.Ev
set_option linter.unusedVariables false
/- slices.Concat[[]roadbook/api.Val,roadbook/api.Val] -/
def t32_p_h : Hints := fun i => if i = 3 then some ([1, 2, 4, 5, 6, 7, 8, 12, 13, 14, 15, 16, 17, 18, 19, 20, 21, 22, 23, 24, 25, 26, 27, 28, 29, 30, 31, 32, 33, 34, 35], [], []) else if i = 11 then some ([0, 1, 2, 3, 4, 5, 7, 8, 9, 10, 11, 12, 13, 14, 15, 16, 17, 18, 19, 20, 21, 22, 23, 24, 28, 29, 30, 31, 32, 33, 34, 35], [24], []) else none
def t32_p_lp3 (P : Program) (fn : Func) (N n : Nat) (x0 : D) (v3 : Int) (v11 : Int) : Option AV := evLoop (preL t32_p_h (sub [1, 1, 0, 1, 0, 0] (bodyOf fn))) (evCode P (envR B2 [] [] FGP) t32_p_h N (sub [1, 1, 0, 1, 0, 0] (bodyOf fn))) n ⟨[dat 23 x0, dead, dead, dat 3 (.lit (.int .i64 v3)), dead, dead, dead, dead, dead, dat 23 x0, dat 3 (.lit (.int .i64 ((elemsD x0).length : Int))), dat 3 (.lit (.int .i64 v11)), dead, dead, dead, dead, dead, dead, dead, dead, dead, dead, dead, dead, dead, dead, dead, dead, dead, dead, dead, dead, dead, dead, dead, dead], lookB []⟩ (blockK 0 (seqC P (envR B2 [] [] FGP) t32_p_h N (sub [1, 1, 1] (bodyOf fn)) (finK P fn) ))
def t32_p_lp11 (P : Program) (fn : Func) (N n : Nat) (x0 : D) (v3 : Int) (v11 : Int) (m0 : Nat) (v27 : Int) (b24 : List D) : Option AV := evLoop (preL t32_p_h (sub [1, 1, 1, 1, 0, 1, 0, 0] (bodyOf fn))) (evCode P (envR B2 [] [] FGP) t32_p_h N (sub [1, 1, 1, 1, 0, 1, 0, 0] (bodyOf fn))) n ⟨[dead, dead, dead, dead, dead, dead, bxp 24 34, dead, dead, dead, dead, dead, dead, dead, dead, dead, dead, dead, dead, dead, dead, dead, dead, dead, dead, dat 23 x0, dat 3 (.lit (.int .i64 ((elemsD x0).length : Int))), dat 3 (.lit (.int .i64 v27)), dead, dead, dead, dead, dead, dead, dead, dead], lookB [(24, some ⟨34, .slice b24 [], 2, none⟩)]⟩ (blockK 2 (seqC P (envR B2 [] [] FGP) t32_p_h N (sub [1, 1, 1, 1, 1] (bodyOf fn)) (finK P fn) ))
theorem t32_p_lp11_step  (N n : Nat) (x0 : D) (v3 : Int) (v11 : Int) (m0 : Nat) (v27 : Int) (b24 : List D) : t32_p_lp11 Tryd.prog Tryd.f32 N (n + 1) x0 v3 v11 m0 v27 b24 =
  bif decide (v27 < ((elemsD x0).length : Int)) then
    bif (decide (0 ≤ v27) && decide (v27 < ((elemsD x0).length : Int))) then
      bif decide ((b24).length + (elemsD ((elemsD x0).getD (v27).toNat .nil)).length ≤ 2147483648) then
        t32_p_lp11 Tryd.prog Tryd.f32 N n x0 v3 v11 m0 (IntKind.wrap .i64 (v27 + 1)) (b24 ++ (elemsD ((elemsD x0).getD (v27).toNat .nil)))
      else none
    else none
  else some (dat 34 (.slice b24 [])) := by kernel_rfl
theorem t32_p_lp3_step  (N n : Nat) (x0 : D) (v3 : Int) (v11 : Int) : t32_p_lp3 Tryd.prog Tryd.f32 N (n + 1) x0 v3 v11 =
  bif decide (v11 < ((elemsD x0).length : Int)) then
    bif (decide (0 ≤ v11) && decide (v11 < ((elemsD x0).length : Int))) then
      bif decide ((IntKind.wrap .i64 (v3 + ((elemsD ((elemsD x0).getD (v11).toNat .nil)).length : Int))) < 0) then
        none
      else t32_p_lp3 Tryd.prog Tryd.f32 N n x0 (IntKind.wrap .i64 (v3 + ((elemsD ((elemsD x0).getD (v11).toNat .nil)).length : Int))) (IntKind.wrap .i64 (v11 + 1))
    else none
  else bif growP v3 then
      t32_p_lp11 Tryd.prog Tryd.f32 N N x0 v3 v11 n 0 []
    else none := by kernel_rfl
theorem t32_p (N : Nat) (x0 : D) : evFn Tryd.prog (envR B2 [] [] FGP) t32_p_h N Tryd.f32 [dat 23 x0] =
  t32_p_lp3 Tryd.prog Tryd.f32 N N x0 0 0 := by kernel_rfl

/- slices.Concat[[]roadbook/api.Val,roadbook/api.Val] -/
def t32_z_h : Hints := fun i => if i = 3 then some ([1, 2, 4, 5, 6, 7, 8, 12, 13, 14, 15, 16, 17, 18, 19, 20, 21, 22, 23, 24, 25, 26, 27, 28, 29, 30, 31, 32, 33, 34, 35], [], []) else if i = 11 then some ([0, 1, 2, 3, 4, 5, 7, 8, 9, 10, 11, 12, 13, 14, 15, 16, 17, 18, 19, 20, 21, 22, 23, 24, 28, 29, 30, 31, 32, 33, 34, 35], [24], []) else none
def t32_z_lp3 (P : Program) (fn : Func) (N n : Nat) (x0 : D) (v3 : Int) (v11 : Int) : Option AV := evLoop (preL t32_z_h (sub [1, 1, 0, 1, 0, 0] (bodyOf fn))) (evCode P (envR B2 [] [] FGZ) t32_z_h N (sub [1, 1, 0, 1, 0, 0] (bodyOf fn))) n ⟨[dat 23 x0, dead, dead, dat 3 (.lit (.int .i64 v3)), dead, dead, dead, dead, dead, dat 23 x0, dat 3 (.lit (.int .i64 ((elemsD x0).length : Int))), dat 3 (.lit (.int .i64 v11)), dead, dead, dead, dead, dead, dead, dead, dead, dead, dead, dead, dead, dead, dead, dead, dead, dead, dead, dead, dead, dead, dead, dead, dead], lookB []⟩ (blockK 0 (seqC P (envR B2 [] [] FGZ) t32_z_h N (sub [1, 1, 1] (bodyOf fn)) (finK P fn) ))
def t32_z_lp11 (P : Program) (fn : Func) (N n : Nat) (x0 : D) (v3 : Int) (v11 : Int) (m0 : Nat) (v27 : Int) (b24 : List D) : Option AV := evLoop (preL t32_z_h (sub [1, 1, 1, 1, 0, 1, 0, 0] (bodyOf fn))) (evCode P (envR B2 [] [] FGZ) t32_z_h N (sub [1, 1, 1, 1, 0, 1, 0, 0] (bodyOf fn))) n ⟨[dead, dead, dead, dead, dead, dead, bxp 24 34, dead, dead, dead, dead, dead, dead, dead, dead, dead, dead, dead, dead, dead, dead, dead, dead, dead, dead, dat 23 x0, dat 3 (.lit (.int .i64 ((elemsD x0).length : Int))), dat 3 (.lit (.int .i64 v27)), dead, dead, dead, dead, dead, dead, dead, dead], lookB [(24, some ⟨34, .slice b24 [], 1, none⟩)]⟩ (blockK 2 (seqC P (envR B2 [] [] FGZ) t32_z_h N (sub [1, 1, 1, 1, 1] (bodyOf fn)) (finK P fn) ))
theorem t32_z_lp11_step  (N n : Nat) (x0 : D) (v3 : Int) (v11 : Int) (m0 : Nat) (v27 : Int) (b24 : List D) : t32_z_lp11 Tryd.prog Tryd.f32 N (n + 1) x0 v3 v11 m0 v27 b24 =
  bif decide (v27 < ((elemsD x0).length : Int)) then
    bif (decide (0 ≤ v27) && decide (v27 < ((elemsD x0).length : Int))) then
      bif decide ((b24).length + (elemsD ((elemsD x0).getD (v27).toNat .nil)).length ≤ 2147483648) then
        t32_z_lp11 Tryd.prog Tryd.f32 N n x0 v3 v11 m0 (IntKind.wrap .i64 (v27 + 1)) (b24 ++ (elemsD ((elemsD x0).getD (v27).toNat .nil)))
      else none
    else none
  else some (dat 34 (.slice b24 [])) := by kernel_rfl
theorem t32_z_lp3_step  (N n : Nat) (x0 : D) (v3 : Int) (v11 : Int) : t32_z_lp3 Tryd.prog Tryd.f32 N (n + 1) x0 v3 v11 =
  bif decide (v11 < ((elemsD x0).length : Int)) then
    bif (decide (0 ≤ v11) && decide (v11 < ((elemsD x0).length : Int))) then
      bif decide ((IntKind.wrap .i64 (v3 + ((elemsD ((elemsD x0).getD (v11).toNat .nil)).length : Int))) < 0) then
        none
      else t32_z_lp3 Tryd.prog Tryd.f32 N n x0 (IntKind.wrap .i64 (v3 + ((elemsD ((elemsD x0).getD (v11).toNat .nil)).length : Int))) (IntKind.wrap .i64 (v11 + 1))
    else none
  else bif growZ v3 then
      t32_z_lp11 Tryd.prog Tryd.f32 N N x0 v3 v11 n 0 []
    else none := by kernel_rfl
theorem t32_z (N : Nat) (x0 : D) : evFn Tryd.prog (envR B2 [] [] FGZ) t32_z_h N Tryd.f32 [dat 23 x0] =
  t32_z_lp3 Tryd.prog Tryd.f32 N N x0 0 0 := by kernel_rfl

/- slices.Concat[[]int,int] -/
def t33_p_h : Hints := fun i => if i = 3 then some ([1, 2, 4, 5, 6, 7, 8, 12, 13, 14, 15, 16, 17, 18, 19, 20, 21, 22, 23, 24, 25, 26, 27, 28, 29, 30, 31, 32, 33, 34, 35], [], []) else if i = 11 then some ([0, 1, 2, 3, 4, 5, 7, 8, 9, 10, 11, 12, 13, 14, 15, 16, 17, 18, 19, 20, 21, 22, 23, 24, 28, 29, 30, 31, 32, 33, 34, 35], [24], []) else none
def t33_p_lp3 (P : Program) (fn : Func) (N n : Nat) (x0 : D) (v3 : Int) (v11 : Int) : Option AV := evLoop (preL t33_p_h (sub [1, 1, 0, 1, 0, 0] (bodyOf fn))) (evCode P (envR B2 [] [] FGP) t33_p_h N (sub [1, 1, 0, 1, 0, 0] (bodyOf fn))) n ⟨[dat 77 x0, dead, dead, dat 3 (.lit (.int .i64 v3)), dead, dead, dead, dead, dead, dat 77 x0, dat 3 (.lit (.int .i64 ((elemsD x0).length : Int))), dat 3 (.lit (.int .i64 v11)), dead, dead, dead, dead, dead, dead, dead, dead, dead, dead, dead, dead, dead, dead, dead, dead, dead, dead, dead, dead, dead, dead, dead, dead], lookB []⟩ (blockK 0 (seqC P (envR B2 [] [] FGP) t33_p_h N (sub [1, 1, 1] (bodyOf fn)) (finK P fn) ))
def t33_p_lp11 (P : Program) (fn : Func) (N n : Nat) (x0 : D) (v3 : Int) (v11 : Int) (m0 : Nat) (v27 : Int) (b24 : List D) : Option AV := evLoop (preL t33_p_h (sub [1, 1, 1, 1, 0, 1, 0, 0] (bodyOf fn))) (evCode P (envR B2 [] [] FGP) t33_p_h N (sub [1, 1, 1, 1, 0, 1, 0, 0] (bodyOf fn))) n ⟨[dead, dead, dead, dead, dead, dead, bxp 24 22, dead, dead, dead, dead, dead, dead, dead, dead, dead, dead, dead, dead, dead, dead, dead, dead, dead, dead, dat 77 x0, dat 3 (.lit (.int .i64 ((elemsD x0).length : Int))), dat 3 (.lit (.int .i64 v27)), dead, dead, dead, dead, dead, dead, dead, dead], lookB [(24, some ⟨22, .slice b24 [], 2, none⟩)]⟩ (blockK 2 (seqC P (envR B2 [] [] FGP) t33_p_h N (sub [1, 1, 1, 1, 1] (bodyOf fn)) (finK P fn) ))
theorem t33_p_lp11_step  (N n : Nat) (x0 : D) (v3 : Int) (v11 : Int) (m0 : Nat) (v27 : Int) (b24 : List D) : t33_p_lp11 Tryd.prog Tryd.f33 N (n + 1) x0 v3 v11 m0 v27 b24 =
  bif decide (v27 < ((elemsD x0).length : Int)) then
    bif (decide (0 ≤ v27) && decide (v27 < ((elemsD x0).length : Int))) then
      bif decide ((b24).length + (elemsD ((elemsD x0).getD (v27).toNat .nil)).length ≤ 2147483648) then
        t33_p_lp11 Tryd.prog Tryd.f33 N n x0 v3 v11 m0 (IntKind.wrap .i64 (v27 + 1)) (b24 ++ (elemsD ((elemsD x0).getD (v27).toNat .nil)))
      else none
    else none
  else some (dat 22 (.slice b24 [])) := by kernel_rfl
theorem t33_p_lp3_step  (N n : Nat) (x0 : D) (v3 : Int) (v11 : Int) : t33_p_lp3 Tryd.prog Tryd.f33 N (n + 1) x0 v3 v11 =
  bif decide (v11 < ((elemsD x0).length : Int)) then
    bif (decide (0 ≤ v11) && decide (v11 < ((elemsD x0).length : Int))) then
      bif decide ((IntKind.wrap .i64 (v3 + ((elemsD ((elemsD x0).getD (v11).toNat .nil)).length : Int))) < 0) then
        none
      else t33_p_lp3 Tryd.prog Tryd.f33 N n x0 (IntKind.wrap .i64 (v3 + ((elemsD ((elemsD x0).getD (v11).toNat .nil)).length : Int))) (IntKind.wrap .i64 (v11 + 1))
    else none
  else bif growP v3 then
      t33_p_lp11 Tryd.prog Tryd.f33 N N x0 v3 v11 n 0 []
    else none := by kernel_rfl
theorem t33_p (N : Nat) (x0 : D) : evFn Tryd.prog (envR B2 [] [] FGP) t33_p_h N Tryd.f33 [dat 77 x0] =
  t33_p_lp3 Tryd.prog Tryd.f33 N N x0 0 0 := by kernel_rfl

/- slices.Concat[[]int,int] -/
def t33_z_h : Hints := fun i => if i = 3 then some ([1, 2, 4, 5, 6, 7, 8, 12, 13, 14, 15, 16, 17, 18, 19, 20, 21, 22, 23, 24, 25, 26, 27, 28, 29, 30, 31, 32, 33, 34, 35], [], []) else if i = 11 then some ([0, 1, 2, 3, 4, 5, 7, 8, 9, 10, 11, 12, 13, 14, 15, 16, 17, 18, 19, 20, 21, 22, 23, 24, 28, 29, 30, 31, 32, 33, 34, 35], [24], []) else none
def t33_z_lp3 (P : Program) (fn : Func) (N n : Nat) (x0 : D) (v3 : Int) (v11 : Int) : Option AV := evLoop (preL t33_z_h (sub [1, 1, 0, 1, 0, 0] (bodyOf fn))) (evCode P (envR B2 [] [] FGZ) t33_z_h N (sub [1, 1, 0, 1, 0, 0] (bodyOf fn))) n ⟨[dat 77 x0, dead, dead, dat 3 (.lit (.int .i64 v3)), dead, dead, dead, dead, dead, dat 77 x0, dat 3 (.lit (.int .i64 ((elemsD x0).length : Int))), dat 3 (.lit (.int .i64 v11)), dead, dead, dead, dead, dead, dead, dead, dead, dead, dead, dead, dead, dead, dead, dead, dead, dead, dead, dead, dead, dead, dead, dead, dead], lookB []⟩ (blockK 0 (seqC P (envR B2 [] [] FGZ) t33_z_h N (sub [1, 1, 1] (bodyOf fn)) (finK P fn) ))
def t33_z_lp11 (P : Program) (fn : Func) (N n : Nat) (x0 : D) (v3 : Int) (v11 : Int) (m0 : Nat) (v27 : Int) (b24 : List D) : Option AV := evLoop (preL t33_z_h (sub [1, 1, 1, 1, 0, 1, 0, 0] (bodyOf fn))) (evCode P (envR B2 [] [] FGZ) t33_z_h N (sub [1, 1, 1, 1, 0, 1, 0, 0] (bodyOf fn))) n ⟨[dead, dead, dead, dead, dead, dead, bxp 24 22, dead, dead, dead, dead, dead, dead, dead, dead, dead, dead, dead, dead, dead, dead, dead, dead, dead, dead, dat 77 x0, dat 3 (.lit (.int .i64 ((elemsD x0).length : Int))), dat 3 (.lit (.int .i64 v27)), dead, dead, dead, dead, dead, dead, dead, dead], lookB [(24, some ⟨22, .slice b24 [], 1, none⟩)]⟩ (blockK 2 (seqC P (envR B2 [] [] FGZ) t33_z_h N (sub [1, 1, 1, 1, 1] (bodyOf fn)) (finK P fn) ))
theorem t33_z_lp11_step  (N n : Nat) (x0 : D) (v3 : Int) (v11 : Int) (m0 : Nat) (v27 : Int) (b24 : List D) : t33_z_lp11 Tryd.prog Tryd.f33 N (n + 1) x0 v3 v11 m0 v27 b24 =
  bif decide (v27 < ((elemsD x0).length : Int)) then
    bif (decide (0 ≤ v27) && decide (v27 < ((elemsD x0).length : Int))) then
      bif decide ((b24).length + (elemsD ((elemsD x0).getD (v27).toNat .nil)).length ≤ 2147483648) then
        t33_z_lp11 Tryd.prog Tryd.f33 N n x0 v3 v11 m0 (IntKind.wrap .i64 (v27 + 1)) (b24 ++ (elemsD ((elemsD x0).getD (v27).toNat .nil)))
      else none
    else none
  else some (dat 22 (.slice b24 [])) := by kernel_rfl
theorem t33_z_lp3_step  (N n : Nat) (x0 : D) (v3 : Int) (v11 : Int) : t33_z_lp3 Tryd.prog Tryd.f33 N (n + 1) x0 v3 v11 =
  bif decide (v11 < ((elemsD x0).length : Int)) then
    bif (decide (0 ≤ v11) && decide (v11 < ((elemsD x0).length : Int))) then
      bif decide ((IntKind.wrap .i64 (v3 + ((elemsD ((elemsD x0).getD (v11).toNat .nil)).length : Int))) < 0) then
        none
      else t33_z_lp3 Tryd.prog Tryd.f33 N n x0 (IntKind.wrap .i64 (v3 + ((elemsD ((elemsD x0).getD (v11).toNat .nil)).length : Int))) (IntKind.wrap .i64 (v11 + 1))
    else none
  else bif growZ v3 then
      t33_z_lp11 Tryd.prog Tryd.f33 N N x0 v3 v11 n 0 []
    else none := by kernel_rfl
theorem t33_z (N : Nat) (x0 : D) : evFn Tryd.prog (envR B2 [] [] FGZ) t33_z_h N Tryd.f33 [dat 77 x0] =
  t33_z_lp3 Tryd.prog Tryd.f33 N N x0 0 0 := by kernel_rfl

end Go.Proofs.YtbidfbpaeemhhaaDoor

namespace Go.Proofs.YtbidfbpaeemhhaaDoor
open Go.Ev
set_option linter.unusedVariables false
set_option maxRecDepth 10000
set_option linter.unusedSimpArgs false


theorem cat11_CCVp {N m0 : Nat} {x0 : D} {v3 v11 : Int} (hl : (elemsD x0).length ≤ 1000) (hs : lenSum (elemsD x0) ≤ 1000000) : ∀ (n i : Nat) (acc : List D), i ≤ (elemsD x0).length → (elemsD x0).length - i < n → acc = flatD ((elemsD x0).take i) →
    t32_p_lp11 Tryd.prog Tryd.f32 N n x0 v3 v11 m0 (i : Int) acc = some (dat 34 (.slice (flatD (elemsD x0)) []))
  | 0, i, acc, _, h, _ => by omega
  | n + 1, i, acc, hi, h, ha => by
    rw [t32_p_lp11_step]
    by_cases hlt : i < (elemsD x0).length
    · have w1 : IntKind.wrap .i64 ((i : Int) + 1) = ((i + 1 : Nat) : Int) := by rw [l_wrapI (l_in (by omega) (by omega))]; omega
      have b1 := lenSum_take (elemsD x0) (i + 1)
      have b2 := lenSum_succ hlt
      have b3 : acc.length = lenSum ((elemsD x0).take i) := by rw [ha, flat_len]
      have g1 : decide (acc.length + (elemsD (elemsD x0)[i]).length ≤ 2147483648) = true := by rw [decide_eq_true_eq]; omega
      rw [l_idx hlt, l_lt hlt, Int.toNat_natCast, l_get hlt, w1, g1, cond_true, cond_true, cond_true]
      exact cat11_CCVp hl hs n (i + 1) _ (by omega) (by omega) (by rw [ha, flatD_succ hlt])
    · rw [l_ge hlt, cond_false, ha, List.take_of_length_le (by omega)]
theorem cat3_CCVp {N : Nat} {x0 : D} (hN : (elemsD x0).length < N) (hl : (elemsD x0).length ≤ 1000) (hs : lenSum (elemsD x0) ≤ 1000000) (hg : growP ((lenSum (elemsD x0) : Nat) : Int) = true) : ∀ (n i : Nat), i ≤ (elemsD x0).length → (elemsD x0).length - i < n →
    t32_p_lp3 Tryd.prog Tryd.f32 N n x0 ((lenSum ((elemsD x0).take i) : Nat) : Int) (i : Int) = some (dat 34 (.slice (flatD (elemsD x0)) []))
  | 0, i, _, h => by omega
  | n + 1, i, hi, h => by
    rw [t32_p_lp3_step]
    by_cases hlt : i < (elemsD x0).length
    · have w1 : IntKind.wrap .i64 ((i : Int) + 1) = ((i + 1 : Nat) : Int) := by rw [l_wrapI (l_in (by omega) (by omega))]; omega
      have b1 := lenSum_take (elemsD x0) (i + 1)
      have b2 := lenSum_succ hlt
      have w2 : IntKind.wrap .i64 (((lenSum ((elemsD x0).take i) : Nat) : Int) + ((elemsD (elemsD x0)[i]).length : Int)) = ((lenSum ((elemsD x0).take (i + 1)) : Nat) : Int) := by rw [l_wrapI (l_in (by omega) (by omega))]; omega
      have g1 : decide (((lenSum ((elemsD x0).take (i + 1)) : Nat) : Int) < 0) = false := by rw [decide_eq_false_iff_not]; omega
      rw [l_idx hlt, l_lt hlt, Int.toNat_natCast, l_get hlt, w1, w2, g1, cond_true, cond_true, cond_false]
      exact cat3_CCVp hN hl hs hg n (i + 1) (by omega) (by omega)
    · rw [l_ge hlt, cond_false, List.take_of_length_le (by omega), hg, cond_true]
      exact cat11_CCVp hl hs N 0 [] (Nat.zero_le _) (by omega) rfl

theorem cat11_CCVz {N m0 : Nat} {x0 : D} {v3 v11 : Int} (hl : (elemsD x0).length ≤ 1000) (hs : lenSum (elemsD x0) ≤ 1000000) : ∀ (n i : Nat) (acc : List D), i ≤ (elemsD x0).length → (elemsD x0).length - i < n → acc = flatD ((elemsD x0).take i) →
    t32_z_lp11 Tryd.prog Tryd.f32 N n x0 v3 v11 m0 (i : Int) acc = some (dat 34 (.slice (flatD (elemsD x0)) []))
  | 0, i, acc, _, h, _ => by omega
  | n + 1, i, acc, hi, h, ha => by
    rw [t32_z_lp11_step]
    by_cases hlt : i < (elemsD x0).length
    · have w1 : IntKind.wrap .i64 ((i : Int) + 1) = ((i + 1 : Nat) : Int) := by rw [l_wrapI (l_in (by omega) (by omega))]; omega
      have b1 := lenSum_take (elemsD x0) (i + 1)
      have b2 := lenSum_succ hlt
      have b3 : acc.length = lenSum ((elemsD x0).take i) := by rw [ha, flat_len]
      have g1 : decide (acc.length + (elemsD (elemsD x0)[i]).length ≤ 2147483648) = true := by rw [decide_eq_true_eq]; omega
      rw [l_idx hlt, l_lt hlt, Int.toNat_natCast, l_get hlt, w1, g1, cond_true, cond_true, cond_true]
      exact cat11_CCVz hl hs n (i + 1) _ (by omega) (by omega) (by rw [ha, flatD_succ hlt])
    · rw [l_ge hlt, cond_false, ha, List.take_of_length_le (by omega)]
theorem cat3_CCVz {N : Nat} {x0 : D} (hN : (elemsD x0).length < N) (hl : (elemsD x0).length ≤ 1000) (hs : lenSum (elemsD x0) ≤ 1000000) (hg : growZ ((lenSum (elemsD x0) : Nat) : Int) = true) : ∀ (n i : Nat), i ≤ (elemsD x0).length → (elemsD x0).length - i < n →
    t32_z_lp3 Tryd.prog Tryd.f32 N n x0 ((lenSum ((elemsD x0).take i) : Nat) : Int) (i : Int) = some (dat 34 (.slice (flatD (elemsD x0)) []))
  | 0, i, _, h => by omega
  | n + 1, i, hi, h => by
    rw [t32_z_lp3_step]
    by_cases hlt : i < (elemsD x0).length
    · have w1 : IntKind.wrap .i64 ((i : Int) + 1) = ((i + 1 : Nat) : Int) := by rw [l_wrapI (l_in (by omega) (by omega))]; omega
      have b1 := lenSum_take (elemsD x0) (i + 1)
      have b2 := lenSum_succ hlt
      have w2 : IntKind.wrap .i64 (((lenSum ((elemsD x0).take i) : Nat) : Int) + ((elemsD (elemsD x0)[i]).length : Int)) = ((lenSum ((elemsD x0).take (i + 1)) : Nat) : Int) := by rw [l_wrapI (l_in (by omega) (by omega))]; omega
      have g1 : decide (((lenSum ((elemsD x0).take (i + 1)) : Nat) : Int) < 0) = false := by rw [decide_eq_false_iff_not]; omega
      rw [l_idx hlt, l_lt hlt, Int.toNat_natCast, l_get hlt, w1, w2, g1, cond_true, cond_true, cond_false]
      exact cat3_CCVz hN hl hs hg n (i + 1) (by omega) (by omega)
    · rw [l_ge hlt, cond_false, List.take_of_length_le (by omega), hg, cond_true]
      exact cat11_CCVz hl hs N 0 [] (Nat.zero_le _) (by omega) rfl

def e32 : FuncId × TypeId × (List AV → Bool) × (List AV → Option D) := (32, 34, preD (q1 fun x => catOK (elemsD x)), ent [23] (f1 fun x => some (.slice (flatD (elemsD x)) [])))
theorem k32 : FnOK Tryd.prog 32 Tryd.f32 := ⟨Tryd.func32, rfl, by kernel_rfl⟩
theorem n_CCV (x : D) : normD Tryd.prog 23 x = x := by kernel_rfl
theorem m_CCV (x : D) : mkRes Tryd.prog 34 x = dat 34 x := by kernel_rfl
theorem c32 : ∀ args d, e32.2.2.1 args = true → e32.2.2.2 args = some d → CallOK Tryd.prog 32 args (mkRes Tryd.prog 34 d) :=
  ent1p k32 fun x d hq h _ => by
    cases h
    rw [n_CCV]
    unfold catOK at hq
    rw [Bool.and_eq_true, decide_eq_true_eq, decide_eq_true_eq] at hq
    by_cases h0 : lenSum (elemsD x) = 0
    · refine fn_ok hm envFZ k32 ((t32_z ((elemsD x).length + 1) x).trans ?_)
      rw [m_CCV]
      have := cat3_CCVz (N := (elemsD x).length + 1) (x0 := x) (by omega) hq.1 hq.2 (by rw [h0]; rfl) ((elemsD x).length + 1) 0 (Nat.zero_le _) (by omega)
      exact this
    · refine fn_ok hm envFP k32 ((t32_p ((elemsD x).length + 1) x).trans ?_)
      rw [m_CCV]
      have hg : growP ((lenSum (elemsD x) : Nat) : Int) = true := by
        unfold growP
        rw [Bool.and_eq_true, decide_eq_true_eq, decide_eq_true_eq]
        omega
      have := cat3_CCVp (N := (elemsD x).length + 1) (x0 := x) (by omega) hq.1 hq.2 hg ((elemsD x).length + 1) 0 (Nat.zero_le _) (by omega)
      exact this

theorem cat11_CCIp {N m0 : Nat} {x0 : D} {v3 v11 : Int} (hl : (elemsD x0).length ≤ 1000) (hs : lenSum (elemsD x0) ≤ 1000000) : ∀ (n i : Nat) (acc : List D), i ≤ (elemsD x0).length → (elemsD x0).length - i < n → acc = flatD ((elemsD x0).take i) →
    t33_p_lp11 Tryd.prog Tryd.f33 N n x0 v3 v11 m0 (i : Int) acc = some (dat 22 (.slice (flatD (elemsD x0)) []))
  | 0, i, acc, _, h, _ => by omega
  | n + 1, i, acc, hi, h, ha => by
    rw [t33_p_lp11_step]
    by_cases hlt : i < (elemsD x0).length
    · have w1 : IntKind.wrap .i64 ((i : Int) + 1) = ((i + 1 : Nat) : Int) := by rw [l_wrapI (l_in (by omega) (by omega))]; omega
      have b1 := lenSum_take (elemsD x0) (i + 1)
      have b2 := lenSum_succ hlt
      have b3 : acc.length = lenSum ((elemsD x0).take i) := by rw [ha, flat_len]
      have g1 : decide (acc.length + (elemsD (elemsD x0)[i]).length ≤ 2147483648) = true := by rw [decide_eq_true_eq]; omega
      rw [l_idx hlt, l_lt hlt, Int.toNat_natCast, l_get hlt, w1, g1, cond_true, cond_true, cond_true]
      exact cat11_CCIp hl hs n (i + 1) _ (by omega) (by omega) (by rw [ha, flatD_succ hlt])
    · rw [l_ge hlt, cond_false, ha, List.take_of_length_le (by omega)]
theorem cat3_CCIp {N : Nat} {x0 : D} (hN : (elemsD x0).length < N) (hl : (elemsD x0).length ≤ 1000) (hs : lenSum (elemsD x0) ≤ 1000000) (hg : growP ((lenSum (elemsD x0) : Nat) : Int) = true) : ∀ (n i : Nat), i ≤ (elemsD x0).length → (elemsD x0).length - i < n →
    t33_p_lp3 Tryd.prog Tryd.f33 N n x0 ((lenSum ((elemsD x0).take i) : Nat) : Int) (i : Int) = some (dat 22 (.slice (flatD (elemsD x0)) []))
  | 0, i, _, h => by omega
  | n + 1, i, hi, h => by
    rw [t33_p_lp3_step]
    by_cases hlt : i < (elemsD x0).length
    · have w1 : IntKind.wrap .i64 ((i : Int) + 1) = ((i + 1 : Nat) : Int) := by rw [l_wrapI (l_in (by omega) (by omega))]; omega
      have b1 := lenSum_take (elemsD x0) (i + 1)
      have b2 := lenSum_succ hlt
      have w2 : IntKind.wrap .i64 (((lenSum ((elemsD x0).take i) : Nat) : Int) + ((elemsD (elemsD x0)[i]).length : Int)) = ((lenSum ((elemsD x0).take (i + 1)) : Nat) : Int) := by rw [l_wrapI (l_in (by omega) (by omega))]; omega
      have g1 : decide (((lenSum ((elemsD x0).take (i + 1)) : Nat) : Int) < 0) = false := by rw [decide_eq_false_iff_not]; omega
      rw [l_idx hlt, l_lt hlt, Int.toNat_natCast, l_get hlt, w1, w2, g1, cond_true, cond_true, cond_false]
      exact cat3_CCIp hN hl hs hg n (i + 1) (by omega) (by omega)
    · rw [l_ge hlt, cond_false, List.take_of_length_le (by omega), hg, cond_true]
      exact cat11_CCIp hl hs N 0 [] (Nat.zero_le _) (by omega) rfl

theorem cat11_CCIz {N m0 : Nat} {x0 : D} {v3 v11 : Int} (hl : (elemsD x0).length ≤ 1000) (hs : lenSum (elemsD x0) ≤ 1000000) : ∀ (n i : Nat) (acc : List D), i ≤ (elemsD x0).length → (elemsD x0).length - i < n → acc = flatD ((elemsD x0).take i) →
    t33_z_lp11 Tryd.prog Tryd.f33 N n x0 v3 v11 m0 (i : Int) acc = some (dat 22 (.slice (flatD (elemsD x0)) []))
  | 0, i, acc, _, h, _ => by omega
  | n + 1, i, acc, hi, h, ha => by
    rw [t33_z_lp11_step]
    by_cases hlt : i < (elemsD x0).length
    · have w1 : IntKind.wrap .i64 ((i : Int) + 1) = ((i + 1 : Nat) : Int) := by rw [l_wrapI (l_in (by omega) (by omega))]; omega
      have b1 := lenSum_take (elemsD x0) (i + 1)
      have b2 := lenSum_succ hlt
      have b3 : acc.length = lenSum ((elemsD x0).take i) := by rw [ha, flat_len]
      have g1 : decide (acc.length + (elemsD (elemsD x0)[i]).length ≤ 2147483648) = true := by rw [decide_eq_true_eq]; omega
      rw [l_idx hlt, l_lt hlt, Int.toNat_natCast, l_get hlt, w1, g1, cond_true, cond_true, cond_true]
      exact cat11_CCIz hl hs n (i + 1) _ (by omega) (by omega) (by rw [ha, flatD_succ hlt])
    · rw [l_ge hlt, cond_false, ha, List.take_of_length_le (by omega)]
theorem cat3_CCIz {N : Nat} {x0 : D} (hN : (elemsD x0).length < N) (hl : (elemsD x0).length ≤ 1000) (hs : lenSum (elemsD x0) ≤ 1000000) (hg : growZ ((lenSum (elemsD x0) : Nat) : Int) = true) : ∀ (n i : Nat), i ≤ (elemsD x0).length → (elemsD x0).length - i < n →
    t33_z_lp3 Tryd.prog Tryd.f33 N n x0 ((lenSum ((elemsD x0).take i) : Nat) : Int) (i : Int) = some (dat 22 (.slice (flatD (elemsD x0)) []))
  | 0, i, _, h => by omega
  | n + 1, i, hi, h => by
    rw [t33_z_lp3_step]
    by_cases hlt : i < (elemsD x0).length
    · have w1 : IntKind.wrap .i64 ((i : Int) + 1) = ((i + 1 : Nat) : Int) := by rw [l_wrapI (l_in (by omega) (by omega))]; omega
      have b1 := lenSum_take (elemsD x0) (i + 1)
      have b2 := lenSum_succ hlt
      have w2 : IntKind.wrap .i64 (((lenSum ((elemsD x0).take i) : Nat) : Int) + ((elemsD (elemsD x0)[i]).length : Int)) = ((lenSum ((elemsD x0).take (i + 1)) : Nat) : Int) := by rw [l_wrapI (l_in (by omega) (by omega))]; omega
      have g1 : decide (((lenSum ((elemsD x0).take (i + 1)) : Nat) : Int) < 0) = false := by rw [decide_eq_false_iff_not]; omega
      rw [l_idx hlt, l_lt hlt, Int.toNat_natCast, l_get hlt, w1, w2, g1, cond_true, cond_true, cond_false]
      exact cat3_CCIz hN hl hs hg n (i + 1) (by omega) (by omega)
    · rw [l_ge hlt, cond_false, List.take_of_length_le (by omega), hg, cond_true]
      exact cat11_CCIz hl hs N 0 [] (Nat.zero_le _) (by omega) rfl

def e33 : FuncId × TypeId × (List AV → Bool) × (List AV → Option D) := (33, 22, preD (q1 fun x => catOK (elemsD x)), ent [77] (f1 fun x => some (.slice (flatD (elemsD x)) [])))
theorem k33 : FnOK Tryd.prog 33 Tryd.f33 := ⟨Tryd.func33, rfl, by kernel_rfl⟩
theorem n_CCI (x : D) : normD Tryd.prog 77 x = x := by kernel_rfl
theorem m_CCI (x : D) : mkRes Tryd.prog 22 x = dat 22 x := by kernel_rfl
theorem c33 : ∀ args d, e33.2.2.1 args = true → e33.2.2.2 args = some d → CallOK Tryd.prog 33 args (mkRes Tryd.prog 22 d) :=
  ent1p k33 fun x d hq h _ => by
    cases h
    rw [n_CCI]
    unfold catOK at hq
    rw [Bool.and_eq_true, decide_eq_true_eq, decide_eq_true_eq] at hq
    by_cases h0 : lenSum (elemsD x) = 0
    · refine fn_ok hm envFZ k33 ((t33_z ((elemsD x).length + 1) x).trans ?_)
      rw [m_CCI]
      have := cat3_CCIz (N := (elemsD x).length + 1) (x0 := x) (by omega) hq.1 hq.2 (by rw [h0]; rfl) ((elemsD x).length + 1) 0 (Nat.zero_le _) (by omega)
      exact this
    · refine fn_ok hm envFP k33 ((t33_p ((elemsD x).length + 1) x).trans ?_)
      rw [m_CCI]
      have hg : growP ((lenSum (elemsD x) : Nat) : Int) = true := by
        unfold growP
        rw [Bool.and_eq_true, decide_eq_true_eq, decide_eq_true_eq]
        omega
      have := cat3_CCIp (N := (elemsD x).length + 1) (x0 := x) (by omega) hq.1 hq.2 hg ((elemsD x).length + 1) 0 (Nat.zero_le _) (by omega)
      exact this

def C2 : Tab := e32 :: e33 :: e31 :: B2
theorem envC2 : EnvOK Tryd.prog (envR C2 [] [] []) := envOK_cons' (envOK_cons' (envOK_cons envB2 c31) c33) c32

end Go.Proofs.YtbidfbpaeemhhaaDoor

namespace Go.Proofs.YtbidfbpaeemhhaaDoor
open Go.Ev
set_option linter.unusedVariables false
/- roadbook/bag.Cross -/
def t12_h : Hints := fun i => if i = 5 then some ([0, 1, 5, 7, 8, 9, 10, 11, 12, 13, 14, 15, 16, 17, 18, 19, 20, 21, 22, 23, 24, 25, 26, 27, 28, 29, 30, 31, 32, 33, 34, 35, 36, 37, 38, 39, 40, 41, 42, 43, 44, 45, 49, 50, 51, 52, 53, 54, 55, 56, 57, 58, 59, 60, 61, 62, 63, 64, 65, 66, 67, 68, 69, 70, 71, 72, 73, 74, 75], [2, 3, 4, 44], []) else if i = 8 then some ([0, 1, 5, 7, 9, 10, 11, 12, 13, 14, 15, 16, 17, 18, 19, 20, 21, 22, 23, 24, 25, 26, 27, 28, 29, 30, 31, 32, 33, 34, 35, 36, 37, 38, 39, 40, 41, 42, 43, 44, 45, 49, 50, 51, 52, 56, 57, 58, 59, 60, 61, 62, 63, 64, 65, 66, 67, 68, 69, 70, 71, 72, 73, 74, 75], [2, 3, 4, 44], []) else none
def t12_lp5 (P : Program) (fn : Func) (N n : Nat) (x0 : D) (x1 : D) (v48 : Int) (b44 : List D) : Option AV := evLoop (preL t12_h (sub [1, 1, 1, 0, 1, 0, 0] (bodyOf fn))) (evCode P (envR C2 [] [] []) t12_h N (sub [1, 1, 1, 0, 1, 0, 0] (bodyOf fn))) n ⟨[dead, dead, bxp 2 25, bxp 3 25, bxp 4 25, dead, bxp 44 23, dead, dead, dead, dead, dead, dead, dead, dead, dead, dead, dead, dead, dead, dead, dead, dead, dead, dead, dead, dead, dead, dead, dead, dead, dead, dead, dead, dead, dead, dead, dead, dead, dead, dead, dead, dead, dead, dead, dead, dat 23 (fieldD x0 1), dat 3 (.lit (.int .i64 ((elemsD (fieldD x0 1)).length : Int))), dat 3 (.lit (.int .i64 v48)), dead, dead, dead, dead, dead, dead, dead, dead, dead, dead, dead, dead, dead, dead, dead, dead, dead, dead, dead, dead, dead, dead, dead, dead, dead, dead, dead], lookB [(2, some ⟨25, x0, 0, none⟩), (3, some ⟨25, x1, 0, none⟩), (4, some ⟨25, .agg [.slice [] [], .slice [] []], 0, none⟩), (44, some ⟨23, .slice b44 [], 2, none⟩)]⟩ (blockK 0 (seqC P (envR C2 [] [] []) t12_h N (sub [1, 1, 1, 1] (bodyOf fn)) (finK P fn) ))
def t12_lp8 (P : Program) (fn : Func) (N n : Nat) (x0 : D) (x1 : D) (v48 : Int) (b44 : List D) (m0 : Nat) (v55 : Int) (b44q : List D) : Option AV := evLoop (preL t12_h (sub [1, 1, 1, 0, 1, 0, 0, 1, 1, 0, 0, 1, 1, 0, 0] (bodyOf fn))) (evCode P (envR C2 [] [] []) t12_h N (sub [1, 1, 1, 0, 1, 0, 0, 1, 1, 0, 0, 1, 1, 0, 0] (bodyOf fn))) n ⟨[dead, dead, bxp 2 25, bxp 3 25, bxp 4 25, dead, bxp 44 23, dead, dat 34 ((elemsD (fieldD x0 1)).getD (v48).toNat .nil), dead, dead, dead, dead, dead, dead, dead, dead, dead, dead, dead, dead, dead, dead, dead, dead, dead, dead, dead, dead, dead, dead, dead, dead, dead, dead, dead, dead, dead, dead, dead, dead, dead, dead, dead, dead, dead, dat 23 (fieldD x0 1), dat 3 (.lit (.int .i64 ((elemsD (fieldD x0 1)).length : Int))), dat 3 (.lit (.int .i64 v48)), dead, dead, dead, dead, dat 23 (fieldD x1 1), dat 3 (.lit (.int .i64 ((elemsD (fieldD x1 1)).length : Int))), dat 3 (.lit (.int .i64 v55)), dead, dead, dead, dead, dead, dead, dead, dead, dead, dead, dead, dead, dead, dead, dead, dead, dead, dead, dead, dead], lookB [(2, some ⟨25, x0, 0, none⟩), (3, some ⟨25, x1, 0, none⟩), (4, some ⟨25, .agg [.slice [] [], .slice [] []], 0, none⟩), (44, some ⟨23, .slice b44q [], 2, none⟩)]⟩ (blockK 2 (blockK 1 (seqC P (envR C2 [] [] []) t12_h N (sub [1, 1, 1, 0, 1, 0, 0, 1, 1, 1] (bodyOf fn)) (seqK (fun s => evLoop (preL t12_h (sub [1, 1, 1, 0, 1, 0, 0] (bodyOf fn))) (evCode P (envR C2 [] [] []) t12_h N (sub [1, 1, 1, 0, 1, 0, 0] (bodyOf fn))) m0 ((preL t12_h (sub [1, 1, 1, 0, 1, 0, 0] (bodyOf fn))) s) (blockK 0 (seqC P (envR C2 [] [] []) t12_h N (sub [1, 1, 1, 1] (bodyOf fn)) (finK P fn) ))) (blockK 0 (seqC P (envR C2 [] [] []) t12_h N (sub [1, 1, 1, 1] (bodyOf fn)) (finK P fn) ))) )))
theorem t12_lp8_step  (N n : Nat) (x0 : D) (x1 : D) (v48 : Int) (b44 : List D) (m0 : Nat) (v55 : Int) (b44q : List D) : t12_lp8 Tryd.prog Tryd.f12 N (n + 1) x0 x1 v48 b44 m0 v55 b44q =
  bif decide (v55 < ((elemsD (fieldD x1 1)).length : Int)) then
    bif (decide (0 ≤ v55) && decide (v55 < ((elemsD (fieldD x1 1)).length : Int))) then
      bif catOK [(elemsD (fieldD x0 1)).getD (v48).toNat .nil, (elemsD (fieldD x1 1)).getD (v55).toNat .nil] then
        bif decide ((b44q).length + 1 ≤ 2147483648) then
          t12_lp8 Tryd.prog Tryd.f12 N n x0 x1 v48 b44 m0 (IntKind.wrap .i64 (v55 + 1)) (b44q ++ [.slice (flatD [(elemsD (fieldD x0 1)).getD (v48).toNat .nil, (elemsD (fieldD x1 1)).getD (v55).toNat .nil]) []])
        else none
      else none
    else none
  else t12_lp5 Tryd.prog Tryd.f12 N m0 x0 x1 (IntKind.wrap .i64 (v48 + 1)) b44q := by kernel_rfl
theorem t12_lp5_step  (N n : Nat) (x0 : D) (x1 : D) (v48 : Int) (b44 : List D) : t12_lp5 Tryd.prog Tryd.f12 N (n + 1) x0 x1 v48 b44 =
  bif decide (v48 < ((elemsD (fieldD x0 1)).length : Int)) then
    bif (decide (0 ≤ v48) && decide (v48 < ((elemsD (fieldD x0 1)).length : Int))) then
      t12_lp8 Tryd.prog Tryd.f12 N N x0 x1 v48 b44 n 0 b44
    else none
  else bif catOK [fieldD x0 0, fieldD x1 0] then
      some (tupA [25, 4] (.agg [.agg [.slice (flatD [fieldD x0 0, fieldD x1 0]) [], .slice b44 []], .lit (.bool true)]))
    else none := by kernel_rfl
theorem t12 (N : Nat) (x0 : D) (x1 : D) : evFn Tryd.prog (envR C2 [] [] []) t12_h N Tryd.f12 [dat 25 x0, dat 25 x1] =
  bif ((!(mayBagB x0)) == false) then
    bif ((!(mayBagB x1)) == false) then
      bif ((meetB (elemsD (fieldD x0 0)) (elemsD (fieldD x1 0))) == false) then
        bif decide ((IntKind.wrap .i64 (((elemsD (fieldD x0 1)).length : Int) * ((elemsD (fieldD x1 1)).length : Int))) > 5000) then
          some (tupA [25, 4] (.agg [.agg [.slice [] [], .slice [] []], .lit (.bool false)]))
        else bif (decide ((0 : Int) ≤ (IntKind.wrap .i64 (((elemsD (fieldD x0 1)).length : Int) * ((elemsD (fieldD x1 1)).length : Int)))) && decide (0 ≤ (0 : Int)) && decide ((IntKind.wrap .i64 (((elemsD (fieldD x0 1)).length : Int) * ((elemsD (fieldD x1 1)).length : Int))) ≤ 2147483648)) then
            t12_lp5 Tryd.prog Tryd.f12 N N x0 x1 0 []
          else none
      else some (tupA [25, 4] (.agg [.agg [.slice [] [], .slice [] []], .lit (.bool false)]))
    else some (tupA [25, 4] (.agg [.agg [.slice [] [], .slice [] []], .lit (.bool false)]))
  else some (tupA [25, 4] (.agg [.agg [.slice [] [], .slice [] []], .lit (.bool false)])) := by kernel_rfl

end Go.Proofs.YtbidfbpaeemhhaaDoor

namespace Go.Proofs.YtbidfbpaeemhhaaDoor
open Go.Ev
set_option linter.unusedVariables false
set_option maxRecDepth 10000
set_option linter.unusedSimpArgs false

theorem cat_two {x y : D} (hx : (elemsD x).length ≤ 5000) (hy : (elemsD y).length ≤ 5000) : catOK [x, y] = true := by
  unfold catOK
  rw [lenSum_two, Bool.and_eq_true, decide_eq_true_eq, decide_eq_true_eq]
  exact ⟨by simp, by omega⟩
section
variable {cs1 cs2 xs ys : List D} {N : Nat} (hx : ∀ x ∈ xs, (elemsD x).length ≤ 5000) (hy : ∀ y ∈ ys, (elemsD y).length ≤ 5000) (hl : xs.length ≤ 5000) (hm : ys.length ≤ 5000)
include hx hy hm hl
theorem cross_in {i m0 : Nat} {b44 : List D} (hi : i < xs.length) : ∀ (n j : Nat) (acc : List D), j ≤ ys.length → ys.length - j < n → acc.length + (ys.length - j) ≤ 5000 →
    t12_lp8 Tryd.prog Tryd.f12 N n (bagD cs1 xs) (bagD cs2 ys) (i : Int) b44 m0 (j : Int) acc = t12_lp5 Tryd.prog Tryd.f12 N m0 (bagD cs1 xs) (bagD cs2 ys) ((i + 1 : Nat) : Int) (acc ++ (ys.drop j).map (crossRow xs[i]))
  | 0, j, acc, _, h, _ => by omega
  | n + 1, j, acc, hj, h, ha => by
    rw [t12_lp8_step, bagR, bagR]
    by_cases hlt : j < ys.length
    · have w1 : IntKind.wrap .i64 ((j : Int) + 1) = ((j + 1 : Nat) : Int) := by rw [l_wrapI (l_in (by omega) (by omega))]; omega
      have g1 : decide (acc.length + 1 ≤ 2147483648) = true := by rw [decide_eq_true_eq]; omega
      rw [l_idx hlt, l_lt hlt, Int.toNat_natCast, Int.toNat_natCast, l_get hlt, l_get hi, w1, g1, cat_two (hx _ (List.getElem_mem hi)) (hy _ (List.getElem_mem hlt)), flat_two, cond_true, cond_true, cond_true, cond_true]
      rw [cross_in hi n (j + 1) _ (by omega) (by omega) (by simp; omega), List.drop_eq_getElem_cons hlt, List.map_cons, List.append_assoc]
      rfl
    · have w1 : IntKind.wrap .i64 ((i : Int) + 1) = ((i + 1 : Nat) : Int) := by rw [l_wrapI (l_in (by omega) (by omega))]; omega
      rw [l_ge hlt, cond_false, w1, List.drop_of_length_le (by omega), List.map_nil, List.append_nil]
theorem cross_out (hN : ys.length < N) (hc1 : cs1.length ≤ 5000) (hc2 : cs2.length ≤ 5000) : ∀ (n i : Nat) (acc : List D), i ≤ xs.length → xs.length - i < n → acc.length + (xs.length - i) * ys.length ≤ 5000 →
    t12_lp5 Tryd.prog Tryd.f12 N n (bagD cs1 xs) (bagD cs2 ys) (i : Int) acc = some (tupA [25, 4] (.agg [bagD (cs1 ++ cs2) (acc ++ crossRows (xs.drop i) ys), .lit (.bool true)]))
  | 0, i, acc, _, h, _ => by omega
  | n + 1, i, acc, hi, h, ha => by
    rw [t12_lp5_step, bagR]
    by_cases hlt : i < xs.length
    · have hk : xs.length - i = (xs.length - (i + 1)) + 1 := by omega
      rw [hk, Nat.succ_mul] at ha
      rw [l_idx hlt, l_lt hlt, cond_true, cond_true]
      refine (cross_in hx hy hl hm hlt N 0 acc (Nat.zero_le _) (by omega) (by omega)).trans ?_
      rw [List.drop_zero, cross_out hN hc1 hc2 n (i + 1) _ (by omega) (by omega) (by rw [List.length_append, List.length_map]; omega), List.drop_eq_getElem_cons hlt]
      have e1 : crossRows (xs[i] :: xs.drop (i + 1)) ys = ys.map (crossRow xs[i]) ++ crossRows (xs.drop (i + 1)) ys := by unfold crossRows; rw [List.flatMap_cons]
      rw [e1, List.append_assoc]
    · have e1 : catOK [fieldD (bagD cs1 xs) 0, fieldD (bagD cs2 ys) 0] = true := cat_two (x := fieldD (bagD cs1 xs) 0) (y := fieldD (bagD cs2 ys) 0) hc1 hc2
      rw [l_ge hlt, cond_false, e1, cond_true, flat_two, List.drop_of_length_le (by omega)]
      have e2 : crossRows [] ys = [] := rfl
      rw [e2, List.append_nil]
      rfl
end
def e12 : FuncId × TypeId × (List AV → Bool) × (List AV → Option D) := (12, 30, yes, ent [25, 25] (f2 fun x y => some (.agg [crossBag x y, .lit (.bool (crossOK x y))])))
theorem k12 : FnOK Tryd.prog 12 Tryd.f12 := ⟨Tryd.func12, rfl, by kernel_rfl⟩
theorem c12 : ∀ args d, e12.2.2.2 args = some d → CallOK Tryd.prog 12 args (mkRes Tryd.prog 30 d) :=
  ent2 k12 fun x y d h ⟨_, hx⟩ ⟨_, hy⟩ => by
    cases h
    rw [nB, nB]
    obtain ⟨cs, rs, rfl, _, _, _, _⟩ := tyB hx
    obtain ⟨cs', rs', rfl, _, _, _, _⟩ := tyB hy
    refine fn_ok hm envC2 k12 ((t12 (rs.length + rs'.length + 1) (bagD cs rs) (bagD cs' rs')).trans ?_)
    rw [mTBB, bagR, bagR, bagC, bagC]
    have ho : crossOK (bagD cs rs) (bagD cs' rs') = (mayBagB (bagD cs rs) && (mayBagB (bagD cs' rs') && (!meetB cs cs' && decide (rs.length * rs'.length ≤ 5000)))) := rfl
    unfold crossBag
    rw [ho]
    cases h1 : mayBagB (bagD cs rs) with
    | false => rfl
    | true =>
      cases h2 : mayBagB (bagD cs' rs') with
      | false => rfl
      | true =>
        cases h3 : meetB cs cs' with
        | true => rfl
        | false =>
          have m1 := may_bag h1
          have m2 := may_bag h2
          have n1 := m1.n
          have n2 := m2.n
          have f1 : cs.length ≤ 16 := cols_few (by unfold mayBagB at h1; rw [Bool.and_eq_true, Bool.and_eq_true] at h1; exact h1.1.1)
          have f2 : cs'.length ≤ 16 := cols_few (by unfold mayBagB at h2; rw [Bool.and_eq_true, Bool.and_eq_true] at h2; exact h2.1.1)
          have hp : rs.length * rs'.length ≤ 5000 * 5000 := Nat.mul_le_mul n1 n2
          have w1 : IntKind.wrap .i64 ((rs.length : Int) * (rs'.length : Int)) = ((rs.length * rs'.length : Nat) : Int) := by
            rw [← Int.natCast_mul, l_wrapI (l_in (by omega) (by omega))]
          rw [w1]
          by_cases h4 : rs.length * rs'.length ≤ 5000
          · have g1 : decide (((rs.length * rs'.length : Nat) : Int) > 5000) = false := by rw [decide_eq_false_iff_not]; omega
            have g2 : (decide ((0 : Int) ≤ ((rs.length * rs'.length : Nat) : Int)) && decide (0 ≤ (0 : Int)) && decide (((rs.length * rs'.length : Nat) : Int) ≤ 2147483648)) = true := by
              simp only [Bool.and_eq_true, decide_eq_true_eq]; omega
            rw [g1, g2, decide_eq_true h4]
            have key := cross_out (cs1 := cs) (cs2 := cs') (xs := rs) (ys := rs') (N := rs.length + rs'.length + 1) (fun x hx => by have := m1.l x hx; omega) (fun y hy => by have := m2.l y hy; omega) n1 n2 (by omega) (by omega) (by omega) (rs.length + rs'.length + 1) 0 [] (Nat.zero_le _) (by omega) (by simpa using h4)
            simp only [Bool.not_true, Bool.not_false, beq_self_eq_true, cond_true, cond_false, Bool.and_self]
            exact key
          · have g1 : decide (((rs.length * rs'.length : Nat) : Int) > 5000) = true := by rw [decide_eq_true_eq]; omega
            rw [g1, decide_eq_false h4]
            rfl
end Go.Proofs.YtbidfbpaeemhhaaDoor
