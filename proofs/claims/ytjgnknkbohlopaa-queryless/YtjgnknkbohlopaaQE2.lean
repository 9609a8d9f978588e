/- What the evaluator comes to, function by function: by the kernel. Nothing here is trusted. -/
import Derived.Test.YtjgnknkbohlopaaQE
namespace Go.Proofs.Ytjgnknkbohlopaa
namespace X
open Go.Ev
set_option linter.unusedVariables false
/- roadbook/query.Orders -/
def t20_h : Hints := fun i => if i = 3 then some ([0, 2, 4, 5, 6, 7, 8, 9, 10, 11, 12, 13, 14, 15, 19, 20, 21, 22, 23, 24, 25, 26, 27, 28, 29, 30, 31, 32, 33, 34, 35, 36, 37, 38, 39, 40, 41, 42, 43, 44, 45, 46, 47, 48, 49, 50, 51, 52, 53, 54, 55, 56, 57, 58, 59, 60], [1, 14], []) else if i = 10 then some ([0, 1, 2, 4, 5, 6, 7, 8, 9, 10, 11, 12, 13, 14, 15, 16, 17, 18, 19, 20, 21, 22, 23, 24, 25, 26, 27, 28, 29, 30, 31, 32, 33, 34, 35, 36, 37, 38, 42, 43, 44, 45, 46, 47, 48, 49, 50, 51, 52, 53, 54, 55, 56, 57, 58, 59, 60], [14], []) else none
def t20_lp3 (P : Program) (fn : Func) (N n : Nat) (x0 : D) (v18 : Int) (b14 : List D) : Option AV := evLoop (preL t20_h (sub [1, 1, 0, 1, 0, 0] (bodyOf fn))) (evCode P (envS (envR Q9 H4 [] []) [(14, 100)]) t20_h N (sub [1, 1, 0, 1, 0, 0] (bodyOf fn))) n ⟨[dead, bxp 1 28, dead, bxp 14 25, dead, dead, dead, dead, dead, dead, dead, dead, dead, dead, dead, dead, dat 26 (fieldD x0 1), dat 3 (.lit (.int .i64 ((elemsD (fieldD x0 1)).length : Int))), dat 3 (.lit (.int .i64 v18)), dead, dead, dead, dead, dead, dead, dead, dead, dead, dead, dead, dead, dead, dead, dead, dead, dead, dead, dead, dead, dead, dead, dead, dead, dead, dead, dead, dead, dead, dead, dead, dead, dead, dead, dead, dead, dead, dead, dead, dead, dead, dead], lookB [(1, some ⟨28, x0, 0, none⟩), (14, some ⟨25, .slice b14 [], 2, none⟩)]⟩ (blockK 0 (seqC P (envS (envR Q9 H4 [] []) [(14, 100)]) t20_h N (sub [1, 1, 1] (bodyOf fn)) (finK P fn) ))
def t20_lp10 (P : Program) (fn : Func) (N n : Nat) (x0 : D) (v18 : Int) (b14 : List D) (m0 : Nat) (v41 : Int) (b14q : List D) : Option AV := evLoop (preL t20_h (sub [1, 1, 1, 0, 1, 0, 0] (bodyOf fn))) (evCode P (envS (envR Q9 H4 [] []) [(14, 100)]) t20_h N (sub [1, 1, 1, 0, 1, 0, 0] (bodyOf fn))) n ⟨[dead, dead, dead, bxp 14 25, dead, dead, dead, dead, dead, dead, dead, dead, dead, dead, dead, dead, dead, dead, dead, dead, dead, dead, dead, dead, dead, dead, dead, dead, dead, dead, dead, dead, dead, dead, dead, dead, dead, dead, dead, dat 25 (.slice [.lit (.int .i64 (intD (fieldD x0 2))), .lit (.int .i64 (intD (fieldD x0 5)))] []), dat 3 (.lit (.int .i64 2)), dat 3 (.lit (.int .i64 v41)), dead, dead, dead, dead, dead, dead, dead, dead, dead, dead, dead, dead, dead, dead, dead, dead, dead, dead, dead], lookB [(14, some ⟨25, .slice b14q [], 2, none⟩)]⟩ (blockK 2 (seqC P (envS (envR Q9 H4 [] []) [(14, 100)]) t20_h N (sub [1, 1, 1, 1] (bodyOf fn)) (finK P fn) ))
theorem t20_lp10_step (N n : Nat) (x0 : D) (v18 : Int) (b14 : List D) (m0 : Nat) (v41 : Int) (b14q : List D) : t20_lp10 Try.prog Try.f20 N (n + 1) x0 v18 b14 m0 v41 b14q =
  bif decide (v41 < 2) then
    bif (decide (0 ≤ v41) && decide (v41 < 2)) then
      bif belowB (intD ([.lit (.int .i64 (intD (fieldD x0 2))), .lit (.int .i64 (intD (fieldD x0 5)))].getD (v41).toNat .nil)) 16 then
        bif decide ((b14q).length + 1 ≤ 2147483648) then
          t20_lp10 Try.prog Try.f20 N n x0 v18 b14 m0 (IntKind.wrap .i64 (v41 + 1)) (b14q ++ [.lit (.int .i64 (intD ([.lit (.int .i64 (intD (fieldD x0 2))), .lit (.int .i64 (intD (fieldD x0 5)))].getD (v41).toNat .nil)))])
        else none
      else t20_lp10 Try.prog Try.f20 N n x0 v18 b14 m0 (IntKind.wrap .i64 (v41 + 1)) b14q
    else none
  else bif decide (b14q.length ≤ 1000000) then
      some (dat 25 (.slice (compD (sortD b14q)) []))
    else none := by kernel_rfl
theorem t20_lp3_step (N n : Nat) (x0 : D) (v18 : Int) (b14 : List D) : t20_lp3 Try.prog Try.f20 N (n + 1) x0 v18 b14 =
  bif decide (v18 < ((elemsD (fieldD x0 1)).length : Int)) then
    bif (decide (0 ≤ v18) && decide (v18 < ((elemsD (fieldD x0 1)).length : Int))) then
      bif pairE ((elemsD (fieldD x0 1)).getD (v18).toNat .nil) then
        bif decide ((b14).length + 2 ≤ 2147483648) then
          t20_lp3 Try.prog Try.f20 N n x0 (IntKind.wrap .i64 (v18 + 1)) (b14 ++ [.lit (.int .i64 (pairA ((elemsD (fieldD x0 1)).getD (v18).toNat .nil))), .lit (.int .i64 (pairB ((elemsD (fieldD x0 1)).getD (v18).toNat .nil)))])
        else none
      else t20_lp3 Try.prog Try.f20 N n x0 (IntKind.wrap .i64 (v18 + 1)) b14
    else none
  else t20_lp10 Try.prog Try.f20 N N x0 v18 b14 n 0 b14 := by kernel_rfl
theorem t20 (N : Nat) (x0 : D) : evFn Try.prog (envS (envR Q9 H4 [] []) [(14, 100)]) t20_h N Try.f20 [dat 28 x0] =
  t20_lp3 Try.prog Try.f20 N N x0 0 [.lit (.int .i64 (-1))] := by kernel_rfl

end X
end Go.Proofs.Ytjgnknkbohlopaa

namespace Go.Proofs.Ytjgnknkbohlopaa
namespace X
open Go.Ev
set_option linter.unusedVariables false
set_option maxRecDepth 10000
set_option linter.unusedSimpArgs false

theorem envQ9H : EnvOK Try.prog (envR Q9 H4 [] []) := ⟨envQ9.p, envH4.h, envQ9.r, envQ9.f⟩
theorem ord_one {N n : Nat} {q : D} {v18 : Int} {l0 : List D} {m0 : Nat} {k : Nat} {z : Int} (hk : k < 2) (hz : intD ([.lit (.int .i64 (intD (fieldD q 2))), .lit (.int .i64 (intD (fieldD q 5)))].getD k (.nil : D)) = z) (l : List D) (hl : l.length ≤ 900000) :
    t20_lp10 Try.prog Try.f20 N (n + 1) q v18 l0 m0 (k : Int) l = t20_lp10 Try.prog Try.f20 N n q v18 l0 m0 ((k + 1 : Nat) : Int) (l ++ ordCol z) := by
  rw [t20_lp10_step, dT (show (k : Int) < 2 by omega), dT (show 0 ≤ (k : Int) by omega), cond_true, Bool.and_true, cond_true, Int.toNat_natCast, hz, l_wrapI (l_in (by omega) (by omega)), show ((k : Int) + 1) = ((k + 1 : Nat) : Int) from rfl, dT (show l.length + 1 ≤ 2147483648 by omega)]
  unfold ordCol
  cases belowB z 16
  · rw [cond_false, cond_false, List.append_nil]
  · rw [cond_true, cond_true, cond_true]
    rfl
theorem ordCol_len (z : Int) : (ordCol z).length ≤ 1 := by unfold ordCol; cases belowB z 16 <;> simp
theorem ord_tail {N n : Nat} {q : D} {v18 : Int} {l0 : List D} {m0 : Nat} (hn : 3 ≤ n) (l : List D) (hl : l.length ≤ 900000 - 2) :
    t20_lp10 Try.prog Try.f20 N n q v18 l0 m0 0 l = some (dat 25 (.slice (compD (sortD (l ++ ordCol (qBy q) ++ ordCol (qOrd q)))) [])) := by
  obtain ⟨n, rfl⟩ : ∃ k, n = k + 1 + 1 + 1 := ⟨n - 3, by omega⟩
  have h1 := ordCol_len (qBy q)
  have h2 := ordCol_len (qOrd q)
  have e1 := ord_one (N := N) (n := n + 1 + 1) (q := q) (v18 := v18) (l0 := l0) (m0 := m0) (k := 0) (z := qBy q) (by omega) rfl l (by omega)
  have e1 : t20_lp10 Try.prog Try.f20 N (n + 1 + 1 + 1) q v18 l0 m0 0 l = _ := e1
  rw [e1, ord_one (N := N) (n := n + 1) (q := q) (v18 := v18) (l0 := l0) (m0 := m0) (k := 0 + 1) (z := qOrd q) (by omega) rfl _ (by simp; omega), t20_lp10_step, dF (show ¬ (((0 + 1 + 1 : Nat) : Int) < 2) by omega), cond_false, dT (show (l ++ ordCol (qBy q) ++ ordCol (qOrd q)).length ≤ 1000000 by simp; omega), cond_true]
theorem ord_loop {N : Nat} {q : D} (hN : 3 ≤ N) (hl : (elemsD (fieldD q 1)).length ≤ 400000) : ∀ (n i : Nat) (l : List D), i ≤ (elemsD (fieldD q 1)).length → (elemsD (fieldD q 1)).length - i < n → l.length ≤ 2 * i + 1 →
    t20_lp3 Try.prog Try.f20 N n q (i : Int) l = some (dat 25 (.slice (compD (sortD (l ++ ((elemsD (fieldD q 1)).drop i).flatMap ordOf ++ ordCol (qBy q) ++ ordCol (qOrd q)))) []))
  | 0, i, l, _, h, _ => by omega
  | n + 1, i, l, hi, h, hle => by
    rw [t20_lp3_step]
    by_cases hlt : i < (elemsD (fieldD q 1)).length
    · rw [l_idx hlt, l_lt hlt, cond_true, cond_true, Int.toNat_natCast, l_get hlt, l_wrap (Nat.le_trans hl (by unfold maxLen; omega)) hlt, List.drop_eq_getElem_cons hlt, List.flatMap_cons, dT (show l.length + 2 ≤ 2147483648 by omega)]
      cases hp : pairE (elemsD (fieldD q 1))[i] with
      | true =>
        rw [cond_true, cond_true, ord_loop hN hl n (i + 1) _ (by omega) (by omega) (by simp; omega), show ordOf (elemsD (fieldD q 1))[i] = [.lit (.int .i64 (pairA (elemsD (fieldD q 1))[i])), .lit (.int .i64 (pairB (elemsD (fieldD q 1))[i]))] by unfold ordOf; rw [hp]; rfl]
        simp only [List.append_assoc]
      | false =>
        rw [cond_false, ord_loop hN hl n (i + 1) _ (by omega) (by omega) (by omega), show ordOf (elemsD (fieldD q 1))[i] = [] by unfold ordOf; rw [hp]; rfl, List.nil_append]
    · rw [l_ge hlt, cond_false, List.drop_of_length_le (by omega), List.flatMap_nil, List.append_nil]
      exact ord_tail hN l (by omega)
def e20 : FuncId × TypeId × (List AV → Bool) × (List AV → Option D) := (20, 25, preD (q1 fun x => decide ((qP x).length ≤ 400000)), ent [28] (f1 fun x => some (.slice (ordersL x) [])))
theorem k20 : FnOK Try.prog 20 Try.f20 := ⟨Try.func20, rfl, by kernel_rfl⟩
theorem c20 : ∀ args d, e20.2.2.1 args = true → e20.2.2.2 args = some d → CallOK Try.prog 20 args (mkRes Try.prog 25 d) :=
  ent1p k20 fun x d hq h _ => by
    cases h
    rw [nQry]
    have hl : (elemsD (fieldD x 1)).length ≤ 400000 := of_decide_eq_true hq
    refine fn_ok hm (envOK_S envQ9H _) k20 ((t20 ((elemsD (fieldD x 1)).length + 3) x).trans ?_)
    rw [m27]
    exact ord_loop (by omega) hl _ 0 [litI (-1)] (Nat.zero_le _) (by omega) (by simp)
def QA : Tab := e20 :: Q9
theorem envQA : EnvOK Try.prog (envH QA []) := envOK_cons' envQ9 c20

end X
end Go.Proofs.Ytjgnknkbohlopaa
