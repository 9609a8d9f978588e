/- What the evaluator comes to, function by function: by the kernel. Nothing here is trusted. -/
import Derived.Test.YtbabfocagkkboaaDoorTS
import Derived.Test.YtbabfocagkkboaaDoorTE
namespace Go.Proofs.YtbabfocagkkboaaDoor
namespace X
open Go.Ev
set_option linter.unusedVariables false
/- roadbook/roadbookref06.All -/
def t28_h : Hints := fun i => if i = 6 then some ([0, 1, 2, 5, 6, 7, 8, 9, 10, 11, 12, 13, 14, 15, 16, 17, 18, 19, 20, 21, 22, 23, 24, 25, 26, 27, 28, 29, 30, 31, 32, 33, 34, 35, 36, 37, 38, 39, 40, 41, 42, 43, 44, 45, 46, 47, 48, 49, 50, 51, 52, 53, 54, 55, 56, 57, 58, 59, 60, 61, 62, 63, 64, 65, 66, 67, 68, 69, 70, 71, 72, 73, 74], [], []) else if i = 12 then some ([1, 2, 3, 4, 7, 8, 9, 10, 11, 12, 13, 14, 15, 16, 17, 18, 19, 20, 21, 22, 23, 24, 25, 26, 27, 28, 29, 30, 31, 32, 33, 34, 35, 36, 37, 38, 39, 40, 41, 42, 43, 44, 45, 46, 47, 48, 49, 50, 51, 52, 53, 54, 55, 56, 57, 58, 59, 60, 61, 62, 63, 64, 65, 66, 67, 68, 69, 70, 71, 72, 73, 74], [5], []) else if i = 18 then some ([1, 2, 3, 4, 10, 11, 12, 13, 14, 15, 16, 17, 18, 19, 20, 21, 22, 23, 24, 25, 26, 27, 28, 29, 30, 31, 32, 33, 34, 35, 36, 37, 38, 39, 40, 41, 42, 43, 44, 45, 46, 47, 48, 49, 50, 51, 52, 53, 54, 55, 56, 57, 58, 59, 60, 61, 62, 63, 64, 65, 66, 67, 68, 69, 70, 71, 72, 73, 74], [5], []) else if i = 21 then some ([1, 2, 3, 4, 11, 12, 13, 14, 15, 16, 17, 18, 19, 20, 21, 22, 23, 24, 25, 26, 27, 28, 29, 30, 31, 32, 33, 34, 35, 36, 37, 38, 39, 40, 41, 42, 43, 44, 45, 46, 47, 48, 49, 50, 51, 52, 53, 54, 55, 56, 57, 58, 59, 60, 61, 62, 63, 64, 65, 66, 67, 68, 69, 70, 71, 72, 73, 74], [5], []) else none
def t28_lp6 (P : Program) (fn : Func) (K : Nat) (N n : Nat) (x0 : Int) (v3 : Int) (v4 : Int) : Option AV := evLoop (preL t28_h (sub [1, 1, 0, 1, 0, 1, 0, 1, 0, 0] (bodyOf fn))) (evCode P (envH (R8 K) []) t28_h N (sub [1, 1, 0, 1, 0, 1, 0, 1, 0, 0] (bodyOf fn))) n ⟨[dead, dead, dead, dat 3 (.lit (.int .i64 v3)), dat 3 (.lit (.int .i64 v4)), dead, dead, dead, dead, dead, dead, dead, dead, dead, dead, dead, dead, dead, dead, dead, dead, dead, dead, dead, dead, dead, dead, dead, dead, dead, dead, dead, dead, dead, dead, dead, dead, dead, dead, dead, dead, dead, dead, dead, dead, dead, dead, dead, dead, dead, dead, dead, dead, dead, dead, dead, dead, dead, dead, dead, dead, dead, dead, dead, dead, dead, dead, dead, dead, dead, dead, dead, dead, dead, dead], lookB []⟩ (blockK 0 (seqC P (envH (R8 K) []) t28_h N (sub [1, 1, 0, 1, 0, 1, 1] (bodyOf fn)) (seqC P (envH (R8 K) []) t28_h N (sub [1, 1, 1] (bodyOf fn)) (finK P fn) ) ))
theorem t28_lp6_step (K : Nat) (N n : Nat) (x0 : Int) (v3 : Int) (v4 : Int) : t28_lp6 Tryd.prog Tryd.f28 K N (n + 1) x0 v3 v4 =
  bif decide (v4 > 1) then
    t28_lp6 Tryd.prog Tryd.f28 K N n x0 (IntKind.wrap .i64 (v3 + 1)) (IntKind.wrap .i64 (Int.tdiv v4 2))
  else some (dat 22 (.slice [.agg [.lit (.int .i64 v3), .slice [] []]] [])) := by kernel_rfl
def t28_lp12 (P : Program) (fn : Func) (K : Nat) (N n : Nat) (x0 : Int) (v6 : Int) (b5 : List D) : Option AV := evLoop (preL t28_h (sub [1, 1, 1, 1, 0, 1, 0, 0] (bodyOf fn))) (evCode P (envH (R8 K) []) t28_h N (sub [1, 1, 1, 1, 0, 1, 0, 0] (bodyOf fn))) n ⟨[dat 3 (.lit (.int .i64 x0)), dead, dead, dead, dead, bxp 5 22, dat 3 (.lit (.int .i64 v6)), dead, dead, dead, dead, dead, dead, dead, dead, dead, dead, dead, dead, dead, dead, dead, dead, dead, dead, dead, dead, dead, dead, dead, dead, dead, dead, dead, dead, dead, dead, dead, dead, dead, dead, dead, dead, dead, dead, dead, dead, dead, dead, dead, dead, dead, dead, dead, dead, dead, dead, dead, dead, dead, dead, dead, dead, dead, dead, dead, dead, dead, dead, dead, dead, dead, dead, dead, dead], lookB [(5, some ⟨22, .slice b5 [], 1, none⟩)]⟩ (blockK 2 (seqC P (envH (R8 K) []) t28_h N (sub [1, 1, 1, 1, 1] (bodyOf fn)) (finK P fn) ))
def t28_lp18 (P : Program) (fn : Func) (K : Nat) (N n : Nat) (x0 : Int) (v6 : Int) (b5 : List D) (m0 : Nat) (v9 : Int) (b5q : List D) : Option AV := evLoop (preL t28_h (sub [1, 1, 1, 1, 0, 1, 0, 0, 1, 0, 0, 1, 1, 1, 1, 0, 0] (bodyOf fn))) (evCode P (envH (R8 K) []) t28_h N (sub [1, 1, 1, 1, 0, 1, 0, 0, 1, 0, 0, 1, 1, 1, 1, 0, 0] (bodyOf fn))) n ⟨[dat 3 (.lit (.int .i64 x0)), dead, dead, dead, dead, bxp 5 22, dat 3 (.lit (.int .i64 v6)), dat 22 (.slice (allT v6) []), dat 22 (.slice (allT (IntKind.wrap .i64 (x0 - v6))) []), dat 3 (.lit (.int .i64 v9)), dead, dead, dead, dead, dead, dead, dead, dead, dead, dead, dead, dead, dead, dead, dead, dead, dead, dead, dead, dead, dead, dead, dead, dead, dead, dead, dead, dead, dead, dead, dead, dead, dead, dead, dead, dead, dead, dead, dead, dead, dead, dead, dead, dead, dead, dead, dead, dead, dead, dead, dead, dead, dead, dead, dead, dead, dead, dead, dead, dead, dead, dead, dead, dead, dead], lookB [(5, some ⟨22, .slice b5q [], 1, none⟩)]⟩ (blockK 4 (blockK 3 (seqC P (envH (R8 K) []) t28_h N (sub [1, 1, 1, 1, 0, 1, 0, 0, 1, 1] (bodyOf fn)) (seqK (fun s => evLoop (preL t28_h (sub [1, 1, 1, 1, 0, 1, 0, 0] (bodyOf fn))) (evCode P (envH (R8 K) []) t28_h N (sub [1, 1, 1, 1, 0, 1, 0, 0] (bodyOf fn))) m0 ((preL t28_h (sub [1, 1, 1, 1, 0, 1, 0, 0] (bodyOf fn))) s) (blockK 2 (seqC P (envH (R8 K) []) t28_h N (sub [1, 1, 1, 1, 1] (bodyOf fn)) (finK P fn) ))) (blockK 2 (seqC P (envH (R8 K) []) t28_h N (sub [1, 1, 1, 1, 1] (bodyOf fn)) (finK P fn) ))) )))
def t28_lp21 (P : Program) (fn : Func) (K : Nat) (N n : Nat) (x0 : Int) (v6 : Int) (b5 : List D) (m0 : Nat) (v9 : Int) (b5q : List D) (m1 : Nat) (v10 : Int) (b5qq : List D) : Option AV := evLoop (preL t28_h (sub [1, 1, 1, 1, 0, 1, 0, 0, 1, 0, 0, 1, 1, 1, 1, 0, 0, 1, 0, 0, 1, 0, 0] (bodyOf fn))) (evCode P (envH (R8 K) []) t28_h N (sub [1, 1, 1, 1, 0, 1, 0, 0, 1, 0, 0, 1, 1, 1, 1, 0, 0, 1, 0, 0, 1, 0, 0] (bodyOf fn))) n ⟨[dat 3 (.lit (.int .i64 x0)), dead, dead, dead, dead, bxp 5 22, dat 3 (.lit (.int .i64 v6)), dat 22 (.slice (allT v6) []), dat 22 (.slice (allT (IntKind.wrap .i64 (x0 - v6))) []), dat 3 (.lit (.int .i64 v9)), dat 3 (.lit (.int .i64 v10)), dead, dead, dead, dead, dead, dead, dead, dead, dead, dead, dead, dead, dead, dead, dead, dead, dead, dead, dead, dead, dead, dead, dead, dead, dead, dead, dead, dead, dead, dead, dead, dead, dead, dead, dead, dead, dead, dead, dead, dead, dead, dead, dead, dead, dead, dead, dead, dead, dead, dead, dead, dead, dead, dead, dead, dead, dead, dead, dead, dead, dead, dead, dead, dead], lookB [(5, some ⟨22, .slice b5qq [], 1, none⟩)]⟩ (blockK 6 (blockK 5 (seqC P (envH (R8 K) []) t28_h N (sub [1, 1, 1, 1, 0, 1, 0, 0, 1, 0, 0, 1, 1, 1, 1, 0, 0, 1, 1] (bodyOf fn)) (seqK (fun s => evLoop (preL t28_h (sub [1, 1, 1, 1, 0, 1, 0, 0, 1, 0, 0, 1, 1, 1, 1, 0, 0] (bodyOf fn))) (evCode P (envH (R8 K) []) t28_h N (sub [1, 1, 1, 1, 0, 1, 0, 0, 1, 0, 0, 1, 1, 1, 1, 0, 0] (bodyOf fn))) m1 ((preL t28_h (sub [1, 1, 1, 1, 0, 1, 0, 0, 1, 0, 0, 1, 1, 1, 1, 0, 0] (bodyOf fn))) s) (blockK 4 (blockK 3 (seqC P (envH (R8 K) []) t28_h N (sub [1, 1, 1, 1, 0, 1, 0, 0, 1, 1] (bodyOf fn)) (seqK (fun s => evLoop (preL t28_h (sub [1, 1, 1, 1, 0, 1, 0, 0] (bodyOf fn))) (evCode P (envH (R8 K) []) t28_h N (sub [1, 1, 1, 1, 0, 1, 0, 0] (bodyOf fn))) m0 ((preL t28_h (sub [1, 1, 1, 1, 0, 1, 0, 0] (bodyOf fn))) s) (blockK 2 (seqC P (envH (R8 K) []) t28_h N (sub [1, 1, 1, 1, 1] (bodyOf fn)) (finK P fn) ))) (blockK 2 (seqC P (envH (R8 K) []) t28_h N (sub [1, 1, 1, 1, 1] (bodyOf fn)) (finK P fn) ))) )))) (blockK 4 (blockK 3 (seqC P (envH (R8 K) []) t28_h N (sub [1, 1, 1, 1, 0, 1, 0, 0, 1, 1] (bodyOf fn)) (seqK (fun s => evLoop (preL t28_h (sub [1, 1, 1, 1, 0, 1, 0, 0] (bodyOf fn))) (evCode P (envH (R8 K) []) t28_h N (sub [1, 1, 1, 1, 0, 1, 0, 0] (bodyOf fn))) m0 ((preL t28_h (sub [1, 1, 1, 1, 0, 1, 0, 0] (bodyOf fn))) s) (blockK 2 (seqC P (envH (R8 K) []) t28_h N (sub [1, 1, 1, 1, 1] (bodyOf fn)) (finK P fn) ))) (blockK 2 (seqC P (envH (R8 K) []) t28_h N (sub [1, 1, 1, 1, 1] (bodyOf fn)) (finK P fn) ))) )))) )))
theorem t28_lp21_step (K : Nat) (N n : Nat) (x0 : Int) (v6 : Int) (b5 : List D) (m0 : Nat) (v9 : Int) (b5q : List D) (m1 : Nat) (v10 : Int) (b5qq : List D) : t28_lp21 Tryd.prog Tryd.f28 K N (n + 1) x0 v6 b5 m0 v9 b5q m1 v10 b5qq =
  bif decide (v10 < ((allT (IntKind.wrap .i64 (x0 - v6))).length : Int)) then
    bif (decide (0 ≤ v9) && decide (v9 < ((allT v6).length : Int))) then
      bif (decide (0 ≤ v10) && decide (v10 < ((allT (IntKind.wrap .i64 (x0 - v6))).length : Int))) then
        bif decide ((b5qq).length + 1 ≤ 2147483648) then
          t28_lp21 Tryd.prog Tryd.f28 K N n x0 v6 b5 m0 v9 b5q m1 (IntKind.wrap .i64 (v10 + 1)) (b5qq ++ [nodeD [(allT v6).getD (v9).toNat .nil, (allT (IntKind.wrap .i64 (x0 - v6))).getD (v10).toNat .nil]])
        else none
      else none
    else none
  else t28_lp18 Tryd.prog Tryd.f28 K N m1 x0 v6 b5 m0 (IntKind.wrap .i64 (v9 + 1)) b5qq := by kernel_rfl
theorem t28_lp18_step (K : Nat) (N n : Nat) (x0 : Int) (v6 : Int) (b5 : List D) (m0 : Nat) (v9 : Int) (b5q : List D) : t28_lp18 Tryd.prog Tryd.f28 K N (n + 1) x0 v6 b5 m0 v9 b5q =
  bif decide (v9 < ((allT v6).length : Int)) then
    t28_lp21 Tryd.prog Tryd.f28 K N N x0 v6 b5 m0 v9 b5q n 0 b5q
  else t28_lp12 Tryd.prog Tryd.f28 K N m0 x0 (IntKind.wrap .i64 (v6 + 1)) b5q := by kernel_rfl
theorem t28_lp12_step (K : Nat) (N n : Nat) (x0 : Int) (v6 : Int) (b5 : List D) : t28_lp12 Tryd.prog Tryd.f28 K N (n + 1) x0 v6 b5 =
  bif decide (v6 < 15) then
    bif (((andI .i64 v6 x0) != v6) == false) then
      bif (v6 == x0) then
        t28_lp12 Tryd.prog Tryd.f28 K N n x0 (IntKind.wrap .i64 (v6 + 1)) b5
      else bif (decide (1 ≤ v6) && decide (v6 < (K : Int))) then
          bif (decide (1 ≤ (IntKind.wrap .i64 (x0 - v6))) && decide ((IntKind.wrap .i64 (x0 - v6)) < (K : Int))) then
            t28_lp18 Tryd.prog Tryd.f28 K N N x0 v6 b5 n 0 b5
          else none
        else none
    else t28_lp12 Tryd.prog Tryd.f28 K N n x0 (IntKind.wrap .i64 (v6 + 1)) b5
  else some (dat 22 (.slice b5 [])) := by kernel_rfl
theorem t28 (K : Nat) (N : Nat) (x0 : Int) : evFn Tryd.prog (envH (R8 K) []) t28_h N Tryd.f28 [dat 3 (.lit (.int .i64 x0))] =
  bif ((decide (x0 < 1)) == false) then
    bif decide (x0 > 15) then
      some (dat 22 (.slice [] []))
    else bif (decide (0 ≤ x0) && decide (x0 < 16)) then
        bif ((popI x0) == 1) then
          t28_lp6 Tryd.prog Tryd.f28 K N N x0 0 x0
        else t28_lp12 Tryd.prog Tryd.f28 K N N x0 1 []
      else none
  else some (dat 22 (.slice [] [])) := by kernel_rfl

end X
end Go.Proofs.YtbabfocagkkboaaDoor

namespace Go.Proofs.YtbabfocagkkboaaDoor
namespace X
open Go.Ev
set_option linter.unusedVariables false
set_option linter.unusedSimpArgs false
set_option maxRecDepth 100000

theorem k28 : FnOK Tryd.prog 28 Tryd.f28 := ⟨Tryd.func28, rfl, by kernel_rfl⟩
theorem all_few {x : Int} (h1 : 1 ≤ x) (h2 : x ≤ 15) : (allT x).length ≤ 120 := by
  have h := all_ok h1 h2
  simp only [allChk, Bool.and_eq_true, decide_eq_true_eq] at h
  exact h.2
theorem allr_in {K N m0 m1 : Nat} {x0 v6 : Int} {i : Nat} {b5 b5q : List D} (hi : i < (allT v6).length) (hB : (allT (IntKind.wrap .i64 (x0 - v6))).length ≤ 1000) : ∀ (n j : Nat) (l : List D), j ≤ (allT (IntKind.wrap .i64 (x0 - v6))).length → (allT (IntKind.wrap .i64 (x0 - v6))).length - j < n → l.length + ((allT (IntKind.wrap .i64 (x0 - v6))).length - j) ≤ 2000000 →
    t28_lp21 Tryd.prog Tryd.f28 K N n x0 v6 b5 m0 (i : Int) b5q m1 (j : Int) l = t28_lp18 Tryd.prog Tryd.f28 K N m1 x0 v6 b5 m0 (IntKind.wrap .i64 ((i : Int) + 1)) (l ++ ((allT (IntKind.wrap .i64 (x0 - v6))).drop j).map fun y => nodeD [(allT v6).getD i .nil, y])
  | 0, j, l, _, h, _ => by omega
  | n + 1, j, l, hj, h, hlen => by
    rw [t28_lp21_step]
    by_cases hlt : j < (allT (IntKind.wrap .i64 (x0 - v6))).length
    · have h1 : decide ((j : Int) < ((allT (IntKind.wrap .i64 (x0 - v6))).length : Int)) = true := by simpa using hlt
      have h2 : decide (l.length + 1 ≤ 2147483648) = true := by rw [decide_eq_true_eq]; omega
      rw [idx_ok hlt, idx_ok hi, h1, h2]
      simp only [cond_true]
      rw [Int.toNat_natCast, Int.toNat_natCast, getD_lt hlt, wrap_step (n := (allT (IntKind.wrap .i64 (x0 - v6))).length) (by unfold maxLen; omega) hlt, List.drop_eq_getElem_cons hlt, List.map_cons]
      rw [allr_in hi hB n (j + 1) _ (by omega) (by omega) (by rw [List.length_append]; simp only [List.length_cons, List.length_nil]; omega), List.append_assoc]
      rfl
    · have h1 : decide ((j : Int) < ((allT (IntKind.wrap .i64 (x0 - v6))).length : Int)) = false := by simpa using hlt
      have h2 : (allT (IntKind.wrap .i64 (x0 - v6))).drop j = [] := List.drop_of_length_le (by omega)
      rw [h1, h2, cond_false, List.map_nil, List.append_nil]
theorem allr_mid {K N m0 : Nat} {x0 v6 : Int} {b5 : List D} (hA : (allT v6).length ≤ 1000) (hB : (allT (IntKind.wrap .i64 (x0 - v6))).length ≤ 1000) (hN : 1000 < N) : ∀ (n i : Nat) (l : List D), i ≤ (allT v6).length → (allT v6).length - i < n → l.length + 1000 * ((allT v6).length - i) ≤ 1900000 →
    t28_lp18 Tryd.prog Tryd.f28 K N n x0 v6 b5 m0 (i : Int) l = t28_lp12 Tryd.prog Tryd.f28 K N m0 x0 (IntKind.wrap .i64 (v6 + 1)) (l ++ joinL ((allT v6).drop i) (allT (IntKind.wrap .i64 (x0 - v6))))
  | 0, i, l, _, h, _ => by omega
  | n + 1, i, l, hi, h, hlen => by
    rw [t28_lp18_step]
    by_cases hlt : i < (allT v6).length
    · have h1 : decide ((i : Int) < ((allT v6).length : Int)) = true := by simpa using hlt
      have hg : (allT v6).getD i .nil = (allT v6)[i] := getD_lt hlt
      rw [h1, cond_true]
      have := allr_in (K := K) (N := N) (m0 := m0) (m1 := n) (b5 := b5) (b5q := l) hlt hB N 0 l (Nat.zero_le _) (by omega) (by omega)
      rw [List.drop_zero] at this
      refine Eq.trans (show _ = _ from this) ?_
      rw [wrap_step (n := (allT v6).length) (by unfold maxLen; omega) hlt, allr_mid hA hB hN n (i + 1) _ (by omega) (by omega) (by rw [List.length_append, List.length_map]; omega), List.drop_eq_getElem_cons hlt, List.append_assoc, hg]
      rfl
    · have h1 : decide ((i : Int) < ((allT v6).length : Int)) = false := by simpa using hlt
      have h2 : (allT v6).drop i = [] := List.drop_of_length_le (by omega)
      rw [h1, h2, cond_false]
      show _ = t28_lp12 Tryd.prog Tryd.f28 K N m0 x0 (IntKind.wrap .i64 (v6 + 1)) (l ++ [])
      rw [List.append_nil]
def restA (x0 : Int) : Nat → Nat → List D
  | 0, _ => []
  | n + 1, p => (bif (andI .i64 (p : Int) x0 != (p : Int)) || ((p : Int) == x0) then [] else joinL (allT (p : Int)) (allT (x0 - (p : Int)))) ++ restA x0 n (p + 1)
theorem and_lt : ∀ (p z : Fin 16), (andI .i64 (p.val : Int) (z.val : Int) != (p.val : Int)) = false → p.val ≤ z.val := by decide +kernel
theorem allr_top {K N : Nat} {x0 : Int} (hK : x0 = (K : Int)) (h0 : 1 ≤ K) (h15 : K ≤ 15) (hN : 1000 < N) : ∀ (n k p : Nat) (l : List D), p + k = 15 → k < n → 1 ≤ p → l.length ≤ 14400 * p →
    t28_lp12 Tryd.prog Tryd.f28 K N n x0 (p : Int) l = some (dat 22 (.slice (l ++ restA x0 k p) []))
  | 0, k, p, l, _, h, _, _ => by omega
  | n + 1, 0, p, l, hp, h, _, _ => by
    have h1 : decide ((p : Int) < 15) = false := by rw [decide_eq_false_iff_not]; omega
    rw [t28_lp12_step, h1, cond_false]
    show _ = some (dat 22 (.slice (l ++ []) []))
    rw [List.append_nil]
  | n + 1, k + 1, p, l, hp, h, h1p, hl => by
    have h1 : decide ((p : Int) < 15) = true := by rw [decide_eq_true_eq]; omega
    have hws : IntKind.wrap .i64 ((p : Int) + 1) = ((p + 1 : Nat) : Int) := wrap_step (n := 15) (by unfold maxLen; omega) (by omega)
    have hR : restA x0 (k + 1) p = (bif (andI .i64 (p : Int) x0 != (p : Int)) || ((p : Int) == x0) then [] else joinL (allT (p : Int)) (allT (x0 - (p : Int)))) ++ restA x0 k (p + 1) := rfl
    have ih := fun l' hl' => allr_top hK h0 h15 hN n k (p + 1) l' (by omega) (by omega) (by omega) hl'
    rw [t28_lp12_step, h1, cond_true, hR]
    cases h2 : (andI .i64 (p : Int) x0 != (p : Int)) with
    | true =>
      rw [show (true == false) = false from rfl, cond_false, Bool.true_or, cond_true, List.nil_append, hws]
      exact ih l (by omega)
    | false =>
      rw [show (false == false) = true from rfl, cond_true, Bool.false_or]
      cases h3 : ((p : Int) == x0) with
      | true =>
        rw [cond_true, cond_true, List.nil_append, hws]
        exact ih l (by omega)
      | false =>
        have hne : (p : Int) ≠ x0 := by simpa using h3
        have hle : p ≤ K := and_lt ⟨p, by omega⟩ ⟨K, by omega⟩ (by rw [hK] at h2; exact h2)
        have hw : IntKind.wrap .i64 (x0 - (p : Int)) = x0 - (p : Int) := wrap_in (by rw [inR_iff]; omega)
        have h4 : (decide (1 ≤ (p : Int)) && decide ((p : Int) < (K : Int))) = true := by
          rw [Bool.and_eq_true, decide_eq_true_eq, decide_eq_true_eq]; omega
        have h5 : (decide (1 ≤ (x0 - (p : Int))) && decide ((x0 - (p : Int)) < (K : Int))) = true := by
          rw [Bool.and_eq_true, decide_eq_true_eq, decide_eq_true_eq]; omega
        have fa := all_few (x := (p : Int)) (by omega) (by omega)
        have fb := all_few (x := x0 - (p : Int)) (by omega) (by omega)
        have hm := allr_mid (K := K) (N := N) (m0 := n) (x0 := x0) (v6 := (p : Int)) (b5 := l) (by omega) (by rw [hw]; omega) hN N 0 l (Nat.zero_le _) (by omega) (by omega)
        rw [List.drop_zero, hw, hws] at hm
        rw [cond_false, cond_false, hw, h4, h5, cond_true, cond_true]
        refine Eq.trans (show _ = _ from hm) ?_
        have hj : (joinL (allT (p : Int)) (allT (x0 - (p : Int)))).length ≤ 14400 := by
          have hj : ∀ (a b : List D), (joinL a b).length = a.length * b.length := fun a b => by
            unfold joinL
            induction a with
            | nil => simp
            | cons x a ih => rw [List.flatMap_cons, List.length_append, ih, List.length_map, List.length_cons, Nat.succ_mul]; omega
          rw [hj]
          exact Nat.le_trans (Nat.mul_le_mul fa fb) (by decide)
        rw [ih _ (by rw [List.length_append]; omega), List.append_assoc]
end X
end Go.Proofs.YtbabfocagkkboaaDoor
