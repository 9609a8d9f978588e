/- What the evaluator comes to, function by function: by the kernel. Nothing here is trusted. -/
import Derived.Test.YtbabfocagkkboaaDoorTB
namespace Go.Proofs.YtbabfocagkkboaaDoor
namespace X
open Go.Ev
set_option linter.unusedVariables false
/- roadbook/tree.joins -/
def t41_h : Hints := fun i => if i = 3 then some ([0, 2, 3, 4, 6, 7, 8, 9, 13, 14, 15, 16, 17, 18, 19, 20, 21, 22, 23, 24, 25, 26, 27, 28, 29, 30], [5], []) else if i = 6 then some ([0, 2, 3, 4, 6, 8, 9, 13, 14, 15, 19, 20, 21, 22, 23, 24, 25, 26, 27, 28, 29, 30], [5, 7], []) else none
def t41_lp3 (P : Program) (fn : Func) (N n : Nat) (x0 : D) (x1 : D) (v12 : Int) (b5 : List D) : Option AV := evLoop (preL t41_h (sub [1, 1, 0, 1, 0, 0] (bodyOf fn))) (evCode P (envH S8 []) t41_h N (sub [1, 1, 0, 1, 0, 0] (bodyOf fn))) n ⟨[dead, dat 22 x1, dead, dead, dead, bxp 5 22, dead, dead, dead, dead, dat 22 x0, dat 3 (.lit (.int .i64 ((elemsD x0).length : Int))), dat 3 (.lit (.int .i64 v12)), dead, dead, dead, dead, dead, dead, dead, dead, dead, dead, dead, dead, dead, dead, dead, dead, dead, dead], lookB [(5, some ⟨22, .slice b5 [], 1, none⟩)]⟩ (blockK 0 (seqC P (envH S8 []) t41_h N (sub [1, 1, 1] (bodyOf fn)) (finK P fn) ))
def t41_lp6 (P : Program) (fn : Func) (N n : Nat) (x0 : D) (x1 : D) (v12 : Int) (b5 : List D) (m0 : Nat) (v18 : Int) (b5q : List D) : Option AV := evLoop (preL t41_h (sub [1, 1, 0, 1, 0, 0, 1, 1, 0, 0, 1, 1, 0, 0] (bodyOf fn))) (evCode P (envH S8 []) t41_h N (sub [1, 1, 0, 1, 0, 0, 1, 1, 0, 0, 1, 1, 0, 0] (bodyOf fn))) n ⟨[dead, dat 22 x1, dead, dead, dead, bxp 5 22, dead, bxp 7 24, dead, dead, dat 22 x0, dat 3 (.lit (.int .i64 ((elemsD x0).length : Int))), dat 3 (.lit (.int .i64 v12)), dead, dead, dead, dat 22 x1, dat 3 (.lit (.int .i64 ((elemsD x1).length : Int))), dat 3 (.lit (.int .i64 v18)), dead, dead, dead, dead, dead, dead, dead, dead, dead, dead, dead, dead], lookB [(5, some ⟨22, .slice b5q [], 1, none⟩), (7, some ⟨24, (elemsD x0).getD (v12).toNat .nil, 0, none⟩)]⟩ (blockK 2 (blockK 1 (seqC P (envH S8 []) t41_h N (sub [1, 1, 0, 1, 0, 0, 1, 1, 1] (bodyOf fn)) (seqK (fun s => evLoop (preL t41_h (sub [1, 1, 0, 1, 0, 0] (bodyOf fn))) (evCode P (envH S8 []) t41_h N (sub [1, 1, 0, 1, 0, 0] (bodyOf fn))) m0 ((preL t41_h (sub [1, 1, 0, 1, 0, 0] (bodyOf fn))) s) (blockK 0 (seqC P (envH S8 []) t41_h N (sub [1, 1, 1] (bodyOf fn)) (finK P fn) ))) (blockK 0 (seqC P (envH S8 []) t41_h N (sub [1, 1, 1] (bodyOf fn)) (finK P fn) ))) )))
theorem t41_lp6_step  (N n : Nat) (x0 : D) (x1 : D) (v12 : Int) (b5 : List D) (m0 : Nat) (v18 : Int) (b5q : List D) : t41_lp6 Tryd.prog Tryd.f41 N (n + 1) x0 x1 v12 b5 m0 v18 b5q =
  bif decide (v18 < ((elemsD x1).length : Int)) then
    bif (decide (0 ≤ v18) && decide (v18 < ((elemsD x1).length : Int))) then
      bif (smT ((elemsD x0).getD (v12).toNat .nil) && smT ((elemsD x1).getD (v18).toNat .nil)) then
        bif decide ((b5q).length + 1 ≤ 2147483648) then
          t41_lp6 Tryd.prog Tryd.f41 N n x0 x1 v12 b5 m0 (IntKind.wrap .i64 (v18 + 1)) (b5q ++ [nodeD [(elemsD x0).getD (v12).toNat .nil, (elemsD x1).getD (v18).toNat .nil]])
        else none
      else none
    else none
  else t41_lp3 Tryd.prog Tryd.f41 N m0 x0 x1 (IntKind.wrap .i64 (v12 + 1)) b5q := by kernel_rfl
theorem t41_lp3_step  (N n : Nat) (x0 : D) (x1 : D) (v12 : Int) (b5 : List D) : t41_lp3 Tryd.prog Tryd.f41 N (n + 1) x0 x1 v12 b5 =
  bif decide (v12 < ((elemsD x0).length : Int)) then
    bif (decide (0 ≤ v12) && decide (v12 < ((elemsD x0).length : Int))) then
      t41_lp6 Tryd.prog Tryd.f41 N N x0 x1 v12 b5 n 0 b5
    else none
  else some (dat 22 (.slice b5 [])) := by kernel_rfl
theorem t41 (N : Nat) (x0 : D) (x1 : D) : evFn Tryd.prog (envH S8 []) t41_h N Tryd.f41 [dat 22 x0, dat 22 x1] =
  t41_lp3 Tryd.prog Tryd.f41 N N x0 x1 0 [] := by kernel_rfl

/- roadbook/tree.Read -/
def t11_h : Hints := fun i => if i = 5 then some ([1, 3, 5, 6, 7, 8, 9, 10, 11, 12, 14, 15, 16, 17, 18, 19, 20, 21, 22, 23, 24, 25, 26, 27, 28, 29, 30, 31, 32, 33, 34, 35, 36, 37, 38, 39, 40, 41, 42, 43, 44, 45, 46, 47, 48, 49, 50, 51, 52, 53, 54, 55, 56, 57, 58, 59, 60, 61, 62, 63, 64, 65, 66, 67, 68, 69, 70, 71, 72, 73], [2, 4, 13], []) else none
def t11_lp5 (P : Program) (fn : Func) (N n : Nat) (x0 : List UInt8) (b4 : List D) (q13 : Nat) : Option AV := evLoop (preL t11_h (sub [1, 1, 1, 0, 1, 0, 0] (bodyOf fn))) (evCode P (envS (envH S8 []) [(45, 102)]) t11_h N (sub [1, 1, 1, 0, 1, 0, 0] (bodyOf fn))) n ⟨[dat 9 (.lit (.string x0)), dead, bxp 2 24, dead, bxp 4 22, dead, dead, dead, dead, dead, dead, dead, dead, bxp 13 999999999, dead, dead, dead, dead, dead, dead, dead, dead, dead, dead, dead, dead, dead, dead, dead, dead, dead, dead, dead, dead, dead, dead, dead, dead, dead, dead, dead, dead, dead, dead, dead, dead, dead, dead, dead, dead, dead, dead, dead, dead, dead, dead, dead, dead, dead, dead, dead, dead, dead, dead, dead, dead, dead, dead, dead, dead, dead, dead, dead, dead], lookB [(2, some ⟨24, .agg [.lit (.int .i64 0), .slice [] []], 0, none⟩), (4, some ⟨22, .slice b4 [], 1, none⟩), (13, some ⟨999999999, .nil, 0, some (itr x0 q13)⟩)]⟩ (blockK 0 (seqC P (envS (envH S8 []) [(45, 102)]) t11_h N (sub [1, 1, 1, 1] (bodyOf fn)) (finK P fn) ))
theorem t11_lp5_step  (N n : Nat) (x0 : List UInt8) (b4 : List D) (q13 : Nat) : t11_lp5 Tryd.prog Tryd.f11 N (n + 1) x0 b4 q13 =
  bif decide (q13 < (x0).length) then
    bif (((runeAt x0 q13).1 : Int) == 40) then
      t11_lp5 Tryd.prog Tryd.f11 N n x0 b4 (q13 + (runeAt x0 q13).2)
    else bif isOccB (IntKind.wrap .i64 ((IntKind.wrap .i64 ((runeAt x0 q13).1 : Int)) - 48)) then
        bif decide ((b4).length + 1 ≤ 2147483648) then
          t11_lp5 Tryd.prog Tryd.f11 N n x0 (b4 ++ [leafD (IntKind.wrap .i64 ((IntKind.wrap .i64 ((runeAt x0 q13).1 : Int)) - 48))]) (q13 + (runeAt x0 q13).2)
        else none
      else bif ((((runeAt x0 q13).1 : Int) == 41) == true) then
          bif decide ((b4.length : Int) ≥ 2) then
            bif (decide (0 ≤ (IntKind.wrap .i64 ((b4.length : Int) - 2))) && decide ((IntKind.wrap .i64 ((b4.length : Int) - 2)) < (b4.length : Int))) then
              bif (decide (0 ≤ (IntKind.wrap .i64 ((b4.length : Int) - 2))) && decide ((IntKind.wrap .i64 ((b4.length : Int) - 2)) < (b4.length : Int))) then
                bif (decide (0 ≤ (IntKind.wrap .i64 ((b4.length : Int) - 1))) && decide ((IntKind.wrap .i64 ((b4.length : Int) - 1)) < (b4.length : Int))) then
                  bif (smT (b4.getD (IntKind.wrap .i64 ((b4.length : Int) - 2)).toNat .nil) && smT (b4.getD (IntKind.wrap .i64 ((b4.length : Int) - 1)).toNat .nil)) then
                    bif decide ((b4).length + 1 ≤ 2147483648) then
                      t11_lp5 Tryd.prog Tryd.f11 N n x0 (b4.take (IntKind.wrap .i64 ((b4.length : Int) - 2) : Int).toNat ++ [nodeD [b4.getD (IntKind.wrap .i64 ((b4.length : Int) - 2)).toNat .nil, b4.getD (IntKind.wrap .i64 ((b4.length : Int) - 1)).toNat .nil]]) (q13 + (runeAt x0 q13).2)
                    else none
                  else none
                else none
              else none
            else none
          else some (tupA [24, 4] (.agg [.agg [.lit (.int .i64 0), .slice [] []], .lit (.bool false)]))
        else some (tupA [24, 4] (.agg [.agg [.lit (.int .i64 0), .slice [] []], .lit (.bool false)]))
  else bif (((b4.length : Int) != 1) == false) then
      bif (decide (0 ≤ (0 : Int)) && decide ((0 : Int) < (b4.length : Int))) then
        bif (!((textT (b4.getD 0 .nil)) == x0)) then
          some (tupA [24, 4] (.agg [.agg [.lit (.int .i64 0), .slice [] []], .lit (.bool false)]))
        else bif (decide (0 ≤ (0 : Int)) && decide ((0 : Int) < (b4.length : Int))) then
            some (tupA [24, 4] (.agg [b4.getD 0 .nil, .lit (.bool true)]))
          else none
      else none
    else some (tupA [24, 4] (.agg [.agg [.lit (.int .i64 0), .slice [] []], .lit (.bool false)])) := by kernel_rfl
theorem t11 (N : Nat) (x0 : List UInt8) : evFn Tryd.prog (envS (envH S8 []) [(45, 102)]) t11_h N Tryd.f11 [dat 9 (.lit (.string x0))] =
  bif decide ((((x0).length : Nat) : Int) > 10) then
    some (tupA [24, 4] (.agg [.agg [.lit (.int .i64 0), .slice [] []], .lit (.bool false)]))
  else t11_lp5 Tryd.prog Tryd.f11 N N x0 [] 0 := by kernel_rfl

/- roadbook/tree.First -/
def t21_h : Hints := fun i => if i = 5 then some ([1, 5, 6, 7, 8, 9, 10, 11, 12, 13, 14, 15, 16, 17, 18, 19, 20, 21, 22], [2, 3], []) else none
def t21_lp5 (P : Program) (fn : Func) (N n : Nat) (x0 : Int) (v4 : Int) (b3 : D) : Option AV := evLoop (preL t21_h (sub [1, 1, 1, 0, 1, 0, 0] (bodyOf fn))) (evCode P (envH S8 []) t21_h N (sub [1, 1, 1, 0, 1, 0, 0] (bodyOf fn))) n ⟨[dat 3 (.lit (.int .i64 x0)), dead, bxp 2 24, bxp 3 24, dat 3 (.lit (.int .i64 v4)), dead, dead, dead, dead, dead, dead, dead, dead, dead, dead, dead, dead, dead, dead, dead, dead, dead, dead], lookB [(2, some ⟨24, .agg [.lit (.int .i64 0), .slice [] []], 0, none⟩), (3, some ⟨24, b3, 0, none⟩)]⟩ (blockK 0 (seqC P (envH S8 []) t21_h N (sub [1, 1, 1, 1] (bodyOf fn)) (finK P fn) ))
theorem t21_lp5_step  (N n : Nat) (x0 : Int) (v4 : Int) (b3 : D) : t21_lp5 Tryd.prog Tryd.f21 N (n + 1) x0 v4 b3 =
  bif decide (v4 < x0) then
    bif (smT b3 && smT (leafD v4)) then
      t21_lp5 Tryd.prog Tryd.f21 N n x0 (IntKind.wrap .i64 (v4 + 1)) (nodeD [b3, leafD v4])
    else none
  else some (dat 24 b3) := by kernel_rfl
theorem t21 (N : Nat) (x0 : Int) : evFn Tryd.prog (envH S8 []) t21_h N Tryd.f21 [dat 3 (.lit (.int .i64 x0))] =
  bif ((decide (x0 < 1)) == false) then
    bif decide (x0 > 4) then
      some (dat 24 (.agg [.lit (.int .i64 0), .slice [] []]))
    else t21_lp5 Tryd.prog Tryd.f21 N N x0 1 (leafD 0)
  else some (dat 24 (.agg [.lit (.int .i64 0), .slice [] []])) := by kernel_rfl

/- roadbook/roadbookref06.Size -/
def t10_h : Hints := fun i => if i = 3 then some ([0, 3, 4, 7, 8, 9, 10, 11, 12, 13, 14, 15, 16, 17, 18, 19, 20, 21, 22, 23, 24, 25, 26, 27, 28, 29, 30], [2], []) else none
def t10_lp3 (P : Program) (fn : Func) (K : Nat) (N n : Nat) (x0 : D) (x1 : Int) (v5 : Int) (v6 : Int) : Option AV := evLoop (preL t10_h (sub [1, 1, 0, 1, 0, 0] (bodyOf fn))) (evCode P (envH (S9 K) []) t10_h N (sub [1, 1, 0, 1, 0, 0] (bodyOf fn))) n ⟨[dead, dat 3 (.lit (.int .i64 x1)), bxp 2 24, dead, dead, dat 3 (.lit (.int .i64 v5)), dat 3 (.lit (.int .i64 v6)), dead, dead, dead, dead, dead, dead, dead, dead, dead, dead, dead, dead, dead, dead, dead, dead, dead, dead, dead, dead, dead, dead, dead, dead], lookB [(2, some ⟨24, x0, 0, none⟩)]⟩ (blockK 0 (seqC P (envH (S9 K) []) t10_h N (sub [1, 1, 1] (bodyOf fn)) (finK P fn) ))
theorem t10_lp3_step (K : Nat) (N n : Nat) (x0 : D) (x1 : Int) (v5 : Int) (v6 : Int) : t10_lp3 Tryd.prog Tryd.f10 K N (n + 1) x0 x1 v5 v6 =
  bif ((decide (v6 < ((elemsD (fieldD x0 1)).length : Int))) == true) then
    bif decide (v5 ≤ x1) then
      bif (decide (0 ≤ v6) && decide (v6 < ((elemsD (fieldD x0 1)).length : Int))) then
        bif (decide (0 ≤ (IntKind.wrap .i64 (x1 - v5))) && decide ((IntKind.wrap .i64 (x1 - v5)) < (K : Int)) && decide (K ≤ 101)) then
          t10_lp3 Tryd.prog Tryd.f10 K N n x0 x1 (IntKind.wrap .i64 (v5 + (szK K ((elemsD (fieldD x0 1)).getD (v6).toNat .nil) (IntKind.wrap .i64 (x1 - v5))))) (IntKind.wrap .i64 (v6 + 1))
        else none
      else none
    else some (dat 3 (.lit (.int .i64 v5)))
  else some (dat 3 (.lit (.int .i64 v5))) := by kernel_rfl
theorem t10 (K : Nat) (N : Nat) (x0 : D) (x1 : Int) : evFn Tryd.prog (envH (S9 K) []) t10_h N Tryd.f10 [dat 24 x0, dat 3 (.lit (.int .i64 x1))] =
  t10_lp3 Tryd.prog Tryd.f10 K N N x0 x1 1 0 := by kernel_rfl

end X
end Go.Proofs.YtbabfocagkkboaaDoor

namespace Go.Proofs.YtbabfocagkkboaaDoor
namespace X
open Go.Ev
set_option linter.unusedVariables false
set_option linter.unusedSimpArgs false

theorem k41 : FnOK Tryd.prog 41 Tryd.f41 := ⟨Tryd.func41, rfl, by kernel_rfl⟩
theorem k11 : FnOK Tryd.prog 11 Tryd.f11 := ⟨Tryd.func11, rfl, by kernel_rfl⟩
theorem k21 : FnOK Tryd.prog 21 Tryd.f21 := ⟨Tryd.func21, rfl, by kernel_rfl⟩
theorem k10 : FnOK Tryd.prog 10 Tryd.f10 := ⟨Tryd.func10, rfl, by kernel_rfl⟩

/-! ### joins -/
theorem joins_in {N m0 : Nat} {x0 x1 : D} {i : Nat} {b5 : List D} (hl1 : (elemsD x1).length ≤ 1000) (hs1 : ∀ p ∈ elemsD x1, smT p = true) (hs0 : smT ((elemsD x0).getD i .nil) = true) : ∀ (n j : Nat) (l : List D), j ≤ (elemsD x1).length → (elemsD x1).length - j < n → l.length + ((elemsD x1).length - j) ≤ 2000000 →
    t41_lp6 Tryd.prog Tryd.f41 N n x0 x1 (i : Int) b5 m0 (j : Int) l = t41_lp3 Tryd.prog Tryd.f41 N m0 x0 x1 (IntKind.wrap .i64 ((i : Int) + 1)) (l ++ ((elemsD x1).drop j).map fun y => nodeD [(elemsD x0).getD i .nil, y])
  | 0, j, l, _, h, _ => by omega
  | n + 1, j, l, hj, h, hlen => by
    rw [t41_lp6_step]
    by_cases hlt : j < (elemsD x1).length
    · have h1 : decide ((j : Int) < ((elemsD x1).length : Int)) = true := by simpa using hlt
      have h2 : decide (l.length + 1 ≤ 2147483648) = true := by rw [decide_eq_true_eq]; omega
      rw [idx_ok hlt, h1, cond_true, cond_true, Int.toNat_natCast, Int.toNat_natCast, getD_lt hlt, hs0, hs1 _ (List.getElem_mem hlt), Bool.and_self, cond_true, h2, cond_true, wrap_step (n := (elemsD x1).length) (by unfold maxLen; omega) hlt, List.drop_eq_getElem_cons hlt, List.map_cons]
      rw [joins_in hl1 hs1 hs0 n (j + 1) _ (by omega) (by omega) (by rw [List.length_append]; simp only [List.length_cons, List.length_nil]; omega), List.append_assoc]
      rfl
    · have h1 : decide ((j : Int) < ((elemsD x1).length : Int)) = false := by simpa using hlt
      have h2 : (elemsD x1).drop j = [] := List.drop_of_length_le (by omega)
      rw [h1, h2, cond_false, List.map_nil, List.append_nil]
theorem joins_out {N : Nat} {x0 x1 : D} (hl0 : (elemsD x0).length ≤ 1000) (hl1 : (elemsD x1).length ≤ 1000) (hs0 : ∀ p ∈ elemsD x0, smT p = true) (hs1 : ∀ p ∈ elemsD x1, smT p = true) (hN : (elemsD x1).length < N) : ∀ (n i : Nat) (l : List D), i ≤ (elemsD x0).length → (elemsD x0).length - i < n → l.length ≤ 1000 * i →
    t41_lp3 Tryd.prog Tryd.f41 N n x0 x1 (i : Int) l = some (dat 22 (.slice (l ++ joinL ((elemsD x0).drop i) (elemsD x1)) []))
  | 0, i, l, _, h, _ => by omega
  | n + 1, i, l, hi, h, hlen => by
    rw [t41_lp3_step]
    by_cases hlt : i < (elemsD x0).length
    · have h1 : decide ((i : Int) < ((elemsD x0).length : Int)) = true := by simpa using hlt
      have hg : (elemsD x0).getD i .nil = (elemsD x0)[i] := getD_lt hlt
      rw [idx_ok hlt, h1, cond_true, cond_true]
      have := joins_in (N := N) (m0 := n) (x0 := x0) (x1 := x1) (i := i) (b5 := l) hl1 hs1 (by rw [hg]; exact hs0 _ (List.getElem_mem hlt)) N 0 l (Nat.zero_le _) (by omega) (by omega)
      rw [List.drop_zero] at this
      refine Eq.trans (show _ = _ from this) ?_
      rw [wrap_step (n := (elemsD x0).length) (by unfold maxLen; omega) hlt, joins_out hl0 hl1 hs0 hs1 hN n (i + 1) _ (by omega) (by omega) (by rw [List.length_append, List.length_map]; omega), List.drop_eq_getElem_cons hlt, List.append_assoc, hg]
      rfl
    · have h1 : decide ((i : Int) < ((elemsD x0).length : Int)) = false := by simpa using hlt
      have h2 : (elemsD x0).drop i = [] := List.drop_of_length_le (by omega)
      rw [h1, h2, cond_false]
      show _ = some (dat 22 (.slice (l ++ []) []))
      rw [List.append_nil]
def e41 : FuncId × TypeId × (List AV → Bool) × (List AV → Option D) := (41, 22, preD (q2 fun x y => joinPre (elemsD x) (elemsD y)), ent [22, 22] (f2 fun x y => some (.slice (joinL (elemsD x) (elemsD y)) [])))
theorem c41 : ∀ args d, e41.2.2.1 args = true → e41.2.2.2 args = some d → CallOK Tryd.prog 41 args (mkRes Tryd.prog 22 d) :=
  ent2p k41 fun x y d hq h ⟨_, hx⟩ ⟨_, hy⟩ => by
    cases h
    rw [n22, n22]
    have hq : joinPre (elemsD x) (elemsD y) = true := hq
    simp only [joinPre, Bool.and_eq_true, decide_eq_true_eq, List.all_eq_true] at hq
    refine fn_ok hm envS8 k41 ((t41 2000 x y).trans ?_)
    rw [m22]
    have := joins_out (N := 2000) hq.1.2 hq.2 hq.1.1.1 hq.1.1.2 (by omega) 2000 0 [] (Nat.zero_le _) (by omega) (by simp)
    rw [List.drop_zero] at this
    exact this

/-! ### Read -/
theorem rune_wrap (s : List UInt8) (q : Nat) : IntKind.wrap .i64 ((IntKind.wrap .i64 ((runeAt s q).1 : Int)) - 48) = ((runeAt s q).1 : Int) - 48 := by
  have := (rune_le s q).1
  have h1 : IntKind.wrap .i64 ((runeAt s q).1 : Int) = ((runeAt s q).1 : Int) := wrap_in (by rw [inR_iff]; omega)
  rw [h1]
  exact wrap_in (by rw [inR_iff]; omega)
theorem read_loop {N : Nat} {s : List UInt8} (hs : s.length ≤ 10) : ∀ (n q : Nat) (l : List D), s.length - q < n → l.length ≤ q → (∀ x ∈ l, inv q x) →
    t11_lp5 Tryd.prog Tryd.f11 N n s l q = some (tupA [24, 4] (.agg [(rdFin s (rdL s n q l)).1, .lit (.bool (rdFin s (rdL s n q l)).2)]))
  | 0, q, l, h, _, _ => by omega
  | n + 1, q, l, h, hlq, hinv => by
    rw [t11_lp5_step, rdL_succ, rune_wrap]
    by_cases hlt : q < s.length
    · have h1 : decide (q < s.length) = true := by simpa using hlt
      have hr2 := (rune_le s q).2
      rw [h1, cond_true, cond_true]
      have hmono : ∀ x ∈ l, inv (q + (runeAt s q).2) x := fun x hx => inv_mono (hinv x hx) (by omega)
      cases h2 : (((runeAt s q).1 : Int) == 40) with
      | true =>
        rw [cond_true, cond_true]
        exact read_loop hs n _ l (by omega) (by omega) hmono
      | false =>
        rw [cond_false, cond_false]
        cases h3 : isOccB (((runeAt s q).1 : Int) - 48) with
        | true =>
          have h4 : decide (l.length + 1 ≤ 2147483648) = true := by rw [decide_eq_true_eq]; omega
          rw [cond_true, cond_true, h4, cond_true]
          refine read_loop hs n _ _ (by omega) (by rw [List.length_append]; simp only [List.length_cons, List.length_nil]; omega) (fun x hx => ?_)
          rcases List.mem_append.1 hx with hx | hx
          · exact hmono x hx
          · rw [List.mem_singleton.1 hx]; exact inv_leaf _ _
        | false =>
          rw [cond_false, cond_false]
          cases h4 : (((runeAt s q).1 : Int) == 41) with
          | false => rfl
          | true =>
            by_cases h5 : 2 ≤ l.length
            · have d5 : decide ((l.length : Int) ≥ 2) = true := by rw [decide_eq_true_eq]; omega
              have d5' : decide (2 ≤ l.length) = true := by simpa using h5
              have w2 : IntKind.wrap .i64 ((l.length : Int) - 2) = ((l.length - 2 : Nat) : Int) := by rw [wrap_in (by rw [inR_iff]; omega)]; omega
              have w1 : IntKind.wrap .i64 ((l.length : Int) - 1) = ((l.length - 1 : Nat) : Int) := by rw [wrap_in (by rw [inR_iff]; omega)]; omega
              have g2 : l.length - 2 < l.length := by omega
              have g1 : l.length - 1 < l.length := by omega
              have h4' : decide (l.length + 1 ≤ 2147483648) = true := by rw [decide_eq_true_eq]; omega
              have i2 : inv q (l.getD (l.length - 2) .nil) := by rw [getD_lt g2]; exact hinv _ (List.getElem_mem g2)
              have i1 : inv q (l.getD (l.length - 1) .nil) := by rw [getD_lt g1]; exact hinv _ (List.getElem_mem g1)
              rw [d5, d5', w2, w1, idx_ok g2, idx_ok g1, Int.toNat_natCast, Int.toNat_natCast, inv_small i2 (by omega), inv_small i1 (by omega), h4']
              simp only [Bool.and_self, cond_true, beq_self_eq_true]
              refine read_loop hs n _ _ (by omega) (by rw [List.length_append, List.length_take]; simp only [List.length_cons, List.length_nil]; omega) (fun x hx => ?_)
              rcases List.mem_append.1 hx with hx | hx
              · exact hmono x (List.mem_of_mem_take hx)
              · rw [List.mem_singleton.1 hx]; exact inv_mono (inv_node i2 i1) (by omega)
            · have d5 : decide ((l.length : Int) ≥ 2) = false := by rw [decide_eq_false_iff_not]; omega
              have d5' : decide (2 ≤ l.length) = false := by simpa using h5
              rw [d5, d5']
              rfl
    · have h1 : decide (q < s.length) = false := by simpa using hlt
      rw [h1, cond_false, cond_false]
      match l with
      | [] => rfl
      | [t] =>
        show (bif (!((textT t) == s)) then some (tupA [24, 4] (.agg [.agg [.lit (.int .i64 0), .slice [] []], .lit (.bool false)])) else some (tupA [24, 4] (.agg [t, .lit (.bool true)]))) =
          some (tupA [24, 4] (.agg [(bif textT t == s then (t, true) else (leafD 0, false) : D × Bool).1, .lit (.bool (bif textT t == s then (t, true) else (leafD 0, false) : D × Bool).2)]))
        cases (textT t == s) <;> rfl
      | a :: b :: l' =>
        have : ((((a :: b :: l').length : Int) != 1) == false) = false := by
          have : (((a :: b :: l').length : Int) != 1) = true := by rw [bne_iff_ne]; simp only [List.length_cons]; omega
          rw [this]; rfl
        rw [this]
        rfl
def e11 : FuncId × TypeId × (List AV → Bool) × (List AV → Option D) := (11, 27, yes, ent [9] (f1 fun x => some (.agg [rdTree (strD x), .lit (.bool (rdIs (strD x)))])))
theorem c11 : ∀ args d, e11.2.2.2 args = some d → CallOK Tryd.prog 11 args (mkRes Tryd.prog 27 d) :=
  ent1 k11 fun x d h ⟨_, hx⟩ => by
    cases h
    obtain ⟨s, rfl, hs⟩ := ty9' hx
    rw [n9]
    refine fn_ok hm (envOK_S envS8 [(45, 102)]) k11 ((t11 12 s).trans ?_)
    rw [m27]
    show _ = some (tupA [24, 4] (.agg [rdTree s, .lit (.bool (rdIs s))]))
    by_cases h10 : s.length ≤ 10
    · have d : decide (((s.length : Nat) : Int) > 10) = false := by rw [decide_eq_false_iff_not]; omega
      obtain ⟨r1, r2⟩ := rd_fin s h10
      rw [d, cond_false, r1, r2]
      exact read_loop h10 12 0 [] (by omega) (Nat.le_refl _) (fun x hx => by cases hx)
    · have d : decide (((s.length : Nat) : Int) > 10) = true := by rw [decide_eq_true_eq]; omega
      have d' : decide (s.length > 10) = true := by rw [decide_eq_true_eq]; omega
      have hn : readT s = none := by unfold readT; rw [d', cond_true]
      rw [d, cond_true]
      unfold rdTree rdIs
      rw [hn]
      rfl

/-! ### First -/
theorem t21_1 : evFn Tryd.prog (envH S8 []) t21_h 6 Tryd.f21 [dat 3 (.lit (.int .i64 1))] = some (dat 24 (firstD 1)) := by kernel_rfl
theorem t21_2 : evFn Tryd.prog (envH S8 []) t21_h 6 Tryd.f21 [dat 3 (.lit (.int .i64 2))] = some (dat 24 (firstD 2)) := by kernel_rfl
theorem t21_3 : evFn Tryd.prog (envH S8 []) t21_h 6 Tryd.f21 [dat 3 (.lit (.int .i64 3))] = some (dat 24 (firstD 3)) := by kernel_rfl
theorem t21_4 : evFn Tryd.prog (envH S8 []) t21_h 6 Tryd.f21 [dat 3 (.lit (.int .i64 4))] = some (dat 24 (firstD 4)) := by kernel_rfl
theorem first_out {n : Int} (h : n < 1 ∨ 4 < n) : firstD n = leafD 0 := by
  unfold firstD
  split
  · omega
  · omega
  · omega
  · rfl
def e21 : FuncId × TypeId × (List AV → Bool) × (List AV → Option D) := (21, 24, yes, ent [3] (f1 fun x => some (firstD (intD x))))
theorem c21 : ∀ args d, e21.2.2.2 args = some d → CallOK Tryd.prog 21 args (mkRes Tryd.prog 24 d) :=
  ent1 k21 fun x d h ⟨_, hx⟩ => by
    cases h
    obtain ⟨z, rfl, hz⟩ := ty3' hx
    rw [n3]
    show CallOK Tryd.prog 21 [dat 3 (.lit (.int .i64 z))] (mkRes Tryd.prog 24 (firstD z))
    by_cases h1 : z < 1
    · refine fn_ok hm envS8 k21 ((t21 6 z).trans ?_)
      have d : decide (z < 1) = true := by simpa using h1
      rw [d, first_out (.inl h1), m24]
      rfl
    · by_cases h4 : 4 < z
      · refine fn_ok hm envS8 k21 ((t21 6 z).trans ?_)
        have d : decide (z < 1) = false := by simpa using h1
        have d4 : decide (z > 4) = true := by simpa using h4
        rw [d, d4, first_out (.inr h4), m24]
        rfl
      · have : z = 1 ∨ z = 2 ∨ z = 3 ∨ z = 4 := by omega
        rcases this with rfl | rfl | rfl | rfl
        · exact fn_ok hm envS8 k21 t21_1
        · exact fn_ok hm envS8 k21 t21_2
        · exact fn_ok hm envS8 k21 t21_3
        · exact fn_ok hm envS8 k21 t21_4

/-! ### Size -/
theorem size_loop {K N : Nat} {x0 : D} {most : Int} (hK : most < (K : Int) + 1) (hK2 : K ≤ 101) (hm0 : 0 ≤ most) (hl : (tkids x0).length ≤ maxLen) : ∀ (n i : Nat) (c : Int), i ≤ (tkids x0).length → (tkids x0).length - i < n → 1 ≤ c → c ≤ most + 1 →
    t10_lp3 Tryd.prog Tryd.f10 K N n x0 most c (i : Int) = some (dat 3 (.lit (.int .i64 (goS (szK K) most ((tkids x0).drop i) c))))
  | 0, i, c, _, h, _, _ => by omega
  | n + 1, i, c, hi, h, hc1, hc2 => by
    rw [t10_lp3_step, show elemsD (fieldD x0 1) = tkids x0 from rfl]
    by_cases hlt : i < (tkids x0).length
    · have h1 : decide ((i : Int) < ((tkids x0).length : Int)) = true := by simpa using hlt
      rw [List.drop_eq_getElem_cons hlt, goS_cons, idx_ok hlt, h1]
      by_cases h2 : c ≤ most
      · have d2 : decide (c ≤ most) = true := by simpa using h2
        have hw : IntKind.wrap .i64 (most - c) = most - c := wrap_in (by rw [inR_iff]; omega)
        have hp : (decide (0 ≤ most - c) && decide (most - c < (K : Int)) && decide (K ≤ 101)) = true := by
          simp only [Bool.and_eq_true, decide_eq_true_eq]
          omega
        obtain ⟨s1, s2⟩ := szK_bound K (tkids x0)[i] (most - c) (by omega)
        have hw2 : IntKind.wrap .i64 (c + szK K (tkids x0)[i] (most - c)) = c + szK K (tkids x0)[i] (most - c) := wrap_in (by rw [inR_iff]; omega)
        rw [d2, hw, hp, Int.toNat_natCast, getD_lt hlt, hw2, wrap_step hl hlt]
        exact size_loop hK hK2 hm0 hl n (i + 1) _ (by omega) (by omega) (by omega) (by omega)
      · have d2 : decide (c ≤ most) = false := by simpa using h2
        rw [d2]
        rfl
    · have h1 : decide ((i : Int) < ((tkids x0).length : Int)) = false := by simpa using hlt
      have h2 : (tkids x0).drop i = [] := List.drop_of_length_le (by omega)
      rw [h1, h2]
      rfl
theorem c10 (K : Nat) (henv : EnvOK Tryd.prog (envH (S9 K) [])) : ∀ args d, (e10 (K + 1)).2.2.1 args = true → (e10 (K + 1)).2.2.2 args = some d → CallOK Tryd.prog 10 args (mkRes Tryd.prog 3 d) :=
  ent2p k10 fun x y d hq h ⟨_, hx⟩ ⟨_, hy⟩ => by
    cases h
    obtain ⟨z, rfl, hz⟩ := ty3' hy
    rw [n24, n3]
    have hq : (decide (0 ≤ z) && decide (z < ((K + 1 : Nat) : Int)) && decide (K + 1 ≤ 101)) = true := hq
    simp only [Bool.and_eq_true, decide_eq_true_eq] at hq
    obtain ⟨hl, _⟩ := ty_len hx
    refine fn_ok hm henv k10 ((t10 K ((tkids x).length + 1) x z).trans ?_)
    rw [m3]
    exact size_loop (K := K) (by omega) (by omega) hq.1.1 hl ((tkids x).length + 1) 0 1 (Nat.zero_le _) (by omega) (by omega) (by omega)
theorem envS9 : ∀ K : Nat, EnvOK Tryd.prog (envH (S9 K) [])
  | 0 => envOK_cons' env0 (fun args d hp hd => by
      exfalso
      have hp : q2 (fun x y => decide (0 ≤ intD y) && decide (intD y < ((0 : Nat) : Int)) && decide (0 ≤ 101)) (args.map (·.d)) = true := hp
      unfold q2 at hp
      split at hp
      · simp only [Bool.and_eq_true, decide_eq_true_eq] at hp
        omega
      · cases hp)
  | K + 1 => envOK_cons' env0 (c10 K (envS9 K))
end X
end Go.Proofs.YtbabfocagkkboaaDoor
