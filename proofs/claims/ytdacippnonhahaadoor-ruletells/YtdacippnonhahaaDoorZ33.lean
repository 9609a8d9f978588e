/- Trees of functions, and lemmas. Nothing here is trusted. -/
import Derived.Test.YtdacippnonhahaaDoorZ32
import Derived.Test.YtdacippnonhahaaDoorZ28
import Derived.Test.YtdacippnonhahaaDoorZ29
namespace Go.Proofs.YtdacippnonhahaaDoor
section
namespace X
open Go.Ev
set_option linter.unusedVariables false
def SH : Tab := e14 130 :: []
theorem envSH : EnvOK Tryd.prog (envH SH []) := envOK_cons' env0 (c14 129 (envR1 129))
end X
end
section
namespace X
open Go.Ev
set_option linter.unusedVariables false
/- roadbook/roadbookref08.Has -/
def t23_h : Hints := fun i => if i = 2 then some ([1, 2, 4, 6, 7, 8, 9, 10, 11, 12, 13, 14, 15, 16, 17, 18, 19], [3], []) else none
def t23_lp2 (P : Program) (fn : Func) (N n : Nat) (x0 : D) (x1 : D) (v5 : Int) : Option AV := evLoop (preL t23_h (sub [1, 0, 1, 0, 0] (bodyOf fn))) (evCode P (envH SH []) t23_h N (sub [1, 0, 1, 0, 0] (bodyOf fn))) n ⟨[dat 22 x0, dead, dead, bxp 3 24, dead, dat 3 (.lit (.int .i64 v5)), dead, dead, dead, dead, dead, dead, dead, dead, dead, dead, dead, dead, dead, dead], lookB [(3, some ⟨24, x1, 0, none⟩)]⟩ (blockK 0 (seqC P (envH SH []) t23_h N (sub [1, 1] (bodyOf fn)) (finK P fn) ))
theorem t23_lp2_step  (N n : Nat) (x0 : D) (x1 : D) (v5 : Int) : t23_lp2 Tryd.prog Tryd.f23 N (n + 1) x0 x1 v5 =
 bif decide (v5 < ((elemsD x0).length : Int)) then
  bif (decide (0 <= v5) && decide (v5 < ((elemsD x0).length : Int))) then
   bif okT 130 ((elemsD x0).getD (v5).toNat .nil) then
    bif eqT ((elemsD x0).getD (v5).toNat .nil) x1 then
     some (dat 4 (.lit (.bool true)))
    else t23_lp2 Tryd.prog Tryd.f23 N n x0 x1 (IntKind.wrap .i64 (v5 + 1))
   else none
  else none
 else some (dat 4 (.lit (.bool false))) := by kernel_rfl
theorem t23 (N : Nat) (x0 : D) (x1 : D) : evFn Tryd.prog (envH SH []) t23_h N Tryd.f23 [dat 22 x0, dat 24 x1] =
 t23_lp2 Tryd.prog Tryd.f23 N N x0 x1 0 := by kernel_rfl

end X
end
section
namespace X
open Go.Ev
set_option linter.unusedVariables false
set_option linter.unusedSimpArgs false
set_option maxRecDepth 10000

theorem k23 : FnOK Tryd.prog 23 Tryd.f23 := ⟨Tryd.func23, rfl, by kernel_rfl⟩
theorem has_loop {N : Nat} {x0 x1 : D} (hl : (elemsD x0).length <= maxLen) (hok : ∀ p ∈ elemsD x0, okT 130 p = true) : ∀ (n i : Nat), i <= (elemsD x0).length -> (elemsD x0).length - i < n ->
  t23_lp2 Tryd.prog Tryd.f23 N n x0 x1 (i : Int) = some (dat 4 (.lit (.bool (hasL ((elemsD x0).drop i) x1))))
 | 0, i, _, h => by omega
 | n + 1, i, hi, h => by
  rw [t23_lp2_step]
  by_cases hlt : i < (elemsD x0).length
  ·have h1 : decide ((i : Int) < ((elemsD x0).length : Int)) = true := by simpa using hlt
   rw [idx_ok hlt, h1, cond_true, cond_true, Int.toNat_natCast, getD_lt hlt, hok _ (List.getElem_mem hlt), cond_true, List.drop_eq_getElem_cons hlt]
   unfold hasL
   rw [List.any_cons]
   cases hb : eqT (elemsD x0)[i] x1 with
   | true => rfl
   | false =>
    rw [cond_false, Bool.false_or, wrap_step hl hlt]
    exact has_loop hl hok n (i + 1) (by omega) (by omega)
  ·have h1 : decide ((i : Int) < ((elemsD x0).length : Int)) = false := by simpa using hlt
   rw [h1, List.drop_of_length_le (by omega), cond_false]
   rfl
def e23 : FuncId × TypeId × (List AV -> Bool) × (List AV -> Option D) := (23, 4, preD (q2 fun x y => (elemsD x).all (okT 130)), ent [22, 24] (f2 fun x y => some (.lit (.bool (hasL (elemsD x) y)))))
theorem c23 : ∀ args d, e23.2.2.1 args = true -> e23.2.2.2 args = some d -> CallOK Tryd.prog 23 args (mkRes Tryd.prog 4 d) :=
 ent2p k23 fun x y d hq h ⟨_, hx⟩ ⟨_, hy⟩ => by
  cases h
  rw [n22, n24]
  have hq : ((elemsD x).all (okT 130)) = true := hq
  rw [List.all_eq_true] at hq
  have hl : (elemsD x).length <= maxLen := by
   obtain ⟨ks, rfl, h, _⟩ := ty22 hx
   exact h
  refine fn_ok hm envSH k23 ((t23 ((elemsD x).length + 1) x y).trans ?_)
  rw [m4]
  have := has_loop (N := (elemsD x).length + 1) (x1 := y) hl hq ((elemsD x).length + 1) 0 (Nat.zero_le _) (by omega)
  rw [List.drop_zero] at this
  exact this
def SQ : Tab := e23 :: eAll :: SL
theorem envSQ : EnvOK Tryd.prog (envH SQ []) := envOK_cons' (envOK_cons envSL cAll) c23
end X
end
section
namespace X
open Go.Ev
set_option linter.unusedVariables false
def SR : Tab := e31 :: e30 :: []
theorem envSR : EnvOK Tryd.prog (envH SR []) := envOK_cons (envOK_cons env0 c30) c31
end X
end
section
namespace X
open Go.Ev
set_option linter.unusedVariables false
/- roadbook/roadbookref08.Turn -/
def t11_h : Hints := fun _ =>  none
theorem t11 (N : Nat) (x0 : D) : evFn Tryd.prog (envH SR []) t11_h N Tryd.f11 [dat 24 x0] =
 bif ((!(mayT x0)) == false) then
  bif (((elemsD (fieldD x0 1)).length : Int) == 0) then
   some (tupA [24, 4] (.agg [.agg [.lit (.int .i64 0), .slice [] []], .lit (.bool false)]))
  else bif (decide (0 <= (1 : Int)) && decide ((1 : Int) < ((elemsD (fieldD x0 1)).length : Int))) then
    bif (decide (0 <= (0 : Int)) && decide ((0 : Int) < ((elemsD (fieldD x0 1)).length : Int))) then
     some (tupA [24, 4] (.agg [nodeD [(elemsD (fieldD x0 1)).getD 1 .nil, (elemsD (fieldD x0 1)).getD 0 .nil], .lit (.bool true)]))
    else none
   else none
 else some (tupA [24, 4] (.agg [.agg [.lit (.int .i64 0), .slice [] []], .lit (.bool false)])) := by kernel_rfl

/- roadbook/roadbookref08.Move -/
def t13_h : Hints := fun _ =>  none
theorem t13 (N : Nat) (x0 : D) : evFn Tryd.prog (envH SR []) t13_h N Tryd.f13 [dat 24 x0] =
 bif ((!(mayT x0)) == false) then
  bif (((elemsD (fieldD x0 1)).length : Int) == 0) then
   some (tupA [24, 4] (.agg [.agg [.lit (.int .i64 0), .slice [] []], .lit (.bool false)]))
  else bif (decide (0 <= (0 : Int)) && decide ((0 : Int) < ((elemsD (fieldD x0 1)).length : Int))) then
    bif (((elemsD (fieldD ((elemsD (fieldD x0 1)).getD 0 .nil) 1)).length : Int) == 0) then
     some (tupA [24, 4] (.agg [.agg [.lit (.int .i64 0), .slice [] []], .lit (.bool false)]))
    else bif (decide (0 <= (0 : Int)) && decide ((0 : Int) < ((elemsD (fieldD ((elemsD (fieldD x0 1)).getD 0 .nil) 1)).length : Int))) then
      bif (decide (0 <= (1 : Int)) && decide ((1 : Int) < ((elemsD (fieldD ((elemsD (fieldD x0 1)).getD 0 .nil) 1)).length : Int))) then
       bif (decide (0 <= (1 : Int)) && decide ((1 : Int) < ((elemsD (fieldD x0 1)).length : Int))) then
        some (tupA [24, 4] (.agg [nodeD [(elemsD (fieldD ((elemsD (fieldD x0 1)).getD 0 .nil) 1)).getD 0 .nil, nodeD [(elemsD (fieldD ((elemsD (fieldD x0 1)).getD 0 .nil) 1)).getD 1 .nil, (elemsD (fieldD x0 1)).getD 1 .nil]], .lit (.bool true)]))
       else none
      else none
     else none
   else none
 else some (tupA [24, 4] (.agg [.agg [.lit (.int .i64 0), .slice [] []], .lit (.bool false)])) := by kernel_rfl

end X
end
section
namespace X
open Go.Ev
set_option linter.unusedVariables false
set_option linter.unusedSimpArgs false

theorem k11 : FnOK Tryd.prog 11 Tryd.f11 := ⟨Tryd.func11, rfl, by kernel_rfl⟩
theorem k13 : FnOK Tryd.prog 13 Tryd.f13 := ⟨Tryd.func13, rfl, by kernel_rfl⟩
theorem rule_no {t : D -> Option D} {x : D} (h : mayT x = false) : ruleT t x = leafD 0 /\ ruleIs t x = false := by
 unfold ruleT ruleIs ruleX
 rw [h]
 exact ⟨rfl, rfl⟩
theorem rule_yes {t : D -> Option D} {x y : D} (h : mayT x = true) (ht : t x = some y) : ruleT t x = y /\ ruleIs t x = true := by
 unfold ruleT ruleIs ruleX
 rw [h, cond_true, ht]
 exact ⟨rfl, rfl⟩
theorem rule_none {t : D -> Option D} {x : D} (ht : t x = none) : ruleT t x = leafD 0 /\ ruleIs t x = false := by
 unfold ruleT ruleIs ruleX
 rw [ht]
 cases mayT x <;> exact ⟨rfl, rfl⟩
def e11 : FuncId × TypeId × (List AV -> Bool) × (List AV -> Option D) := (11, 27, yes, ent [24] (f1 fun x => some (.agg [ruleT turnX x, .lit (.bool (ruleIs turnX x))])))
theorem c11 : ∀ args d, e11.2.2.2 args = some d -> CallOK Tryd.prog 11 args (mkRes Tryd.prog 27 d) :=
 ent1 k11 fun x d h ⟨_, hx⟩ => by
  cases h
  rw [n24]
  refine fn_ok hm envSR k11 ((t11 0 x).trans ?_)
  rw [m27]
  cases hmay : mayT x with
  | false =>
   obtain ⟨a, b⟩ := rule_no (t := turnX) hmay
   rw [a, b]
   rfl
  | true =>
   rcases may_parts hmay with h0 | ⟨p, q, h0, _, _⟩
   ·obtain ⟨a, b⟩ := rule_none (t := turnX) (x := x) (by unfold turnX; rw [h0])
    rw [a, b, show elemsD (fieldD x 1) = [] from h0]
    rfl
   ·obtain ⟨a, b⟩ := rule_yes (t := turnX) (y := nodeD [q, p]) hmay (by unfold turnX; rw [h0])
    rw [a, b, show elemsD (fieldD x 1) = [p, q] from h0]
    rfl
def e13 : FuncId × TypeId × (List AV -> Bool) × (List AV -> Option D) := (13, 27, yes, ent [24] (f1 fun x => some (.agg [ruleT moveX x, .lit (.bool (ruleIs moveX x))])))
theorem c13 : ∀ args d, e13.2.2.2 args = some d -> CallOK Tryd.prog 13 args (mkRes Tryd.prog 27 d) :=
 ent1 k13 fun x d h ⟨_, hx⟩ => by
  cases h
  rw [n24]
  refine fn_ok hm envSR k13 ((t13 0 x).trans ?_)
  rw [m27]
  cases hmay : mayT x with
  | false =>
   obtain ⟨a, b⟩ := rule_no (t := moveX) hmay
   rw [a, b]
   rfl
  | true =>
   rcases may_parts hmay with h0 | ⟨p, q, h0, hp, _⟩
   ·obtain ⟨a, b⟩ := rule_none (t := moveX) (x := x) (by unfold moveX; rw [h0])
    rw [a, b, show elemsD (fieldD x 1) = [] from h0]
    rfl
   ·rcases may_parts hp with h1 | ⟨u, v, h1, _, _⟩
    ·obtain ⟨a, b⟩ := rule_none (t := moveX) (x := x) (by unfold moveX; rw [h0]; simp only [h1])
     rw [a, b, show elemsD (fieldD x 1) = [p, q] from h0, gd0, show elemsD (fieldD p 1) = [] from h1]
     rfl
    ·obtain ⟨a, b⟩ := rule_yes (t := moveX) (x := x) (y := nodeD [u, nodeD [v, q]]) hmay (by unfold moveX; rw [h0]; simp only [h1])
     rw [a, b, show elemsD (fieldD x 1) = [p, q] from h0, gd0, gd1, show elemsD (fieldD p 1) = [u, v] from h1]
     rfl
def nxPre (K : Nat) (x : D) : Bool := decide (0 < K) && (!(mayT x) || (setK K x != 0))
def e17 (K : Nat) : FuncId × TypeId × (List AV -> Bool) × (List AV -> Option D) := (17, 22, preD (q1 fun x => nxPre K x), ent [24] (f1 fun x => some (.slice (nextT x) [])))
def SX (K : Nat) : Tab := e17 K :: e13 :: e11 :: e31 :: []
theorem envSX0 : EnvOK Tryd.prog (envH (e13 :: e11 :: e31 :: []) []) := envOK_cons (envOK_cons (envOK_cons env0 c31) c11) c13
end X
end
section
namespace X
open Go.Ev
set_option linter.unusedVariables false
/- roadbook/roadbookref08.Next -/
def t17_h : Hints := fun i => if i = 12 then some ([0, 2, 4, 5, 6, 7, 10, 11, 12, 13, 14, 15, 16, 17, 18, 19, 20, 21, 22, 23, 24, 25, 26, 27, 28, 29, 30, 31, 32, 33, 34, 35, 36, 37, 38, 39, 40, 41, 42, 43, 44, 45, 46, 47, 48, 49, 50, 51, 52, 53, 54, 55, 56, 57, 58, 59, 60, 61, 62, 63, 64, 65, 66, 67, 68, 69, 70, 71, 72, 73, 74, 75, 76, 77, 78, 79, 80, 81], [1, 3], []) else if i = 17 then some ([0, 2, 4, 5, 6, 7, 8, 9, 12, 13, 14, 15, 16, 17, 18, 19, 20, 21, 22, 23, 24, 25, 26, 27, 28, 29, 30, 31, 32, 33, 34, 35, 36, 37, 38, 39, 40, 41, 42, 43, 44, 45, 46, 47, 48, 49, 50, 51, 52, 53, 54, 55, 56, 57, 58, 59, 60, 61, 62, 63, 64, 65, 66, 67, 68, 69, 70, 71, 72, 73, 74, 75, 76, 77, 78, 79, 80, 81], [1, 3], []) else none
def t17_lp12 (P : Program) (fn : Func) (K : Nat) (N n : Nat) (x0 : D) (v9 : Int) (b3 : List D) : Option AV := evLoop (preL t17_h (sub [1, 1, 1, 1, 1, 1, 1, 1, 0, 1, 0, 0] (bodyOf fn))) (evCode P (envH (SX K) []) t17_h N (sub [1, 1, 1, 1, 1, 1, 1, 1, 0, 1, 0, 0] (bodyOf fn))) n ⟨[dead, bxp 1 24, dead, bxp 3 22, dead, dead, dead, dead, dat 22 (.slice (nextT ((elemsD (fieldD x0 1)).getD 0 .nil)) []), dat 3 (.lit (.int .i64 v9)), dead, dead, dead, dead, dead, dead, dead, dead, dead, dead, dead, dead, dead, dead, dead, dead, dead, dead, dead, dead, dead, dead, dead, dead, dead, dead, dead, dead, dead, dead, dead, dead, dead, dead, dead, dead, dead, dead, dead, dead, dead, dead, dead, dead, dead, dead, dead, dead, dead, dead, dead, dead, dead, dead, dead, dead, dead, dead, dead, dead, dead, dead, dead, dead, dead, dead, dead, dead, dead, dead, dead, dead], lookB [(1, some ⟨24, x0, 0, none⟩), (3, some ⟨22, .slice b3 [], 1, none⟩)]⟩ (blockK 0 (seqC P (envH (SX K) []) t17_h N (sub [1, 1, 1, 1, 1, 1, 1, 1, 1] (bodyOf fn)) (finK P fn) ))
def t17_lp17 (P : Program) (fn : Func) (K : Nat) (N n : Nat) (x0 : D) (v9 : Int) (b3 : List D) (m0 : Nat) (v11 : Int) (b3q : List D) : Option AV := evLoop (preL t17_h (sub [1, 1, 1, 1, 1, 1, 1, 1, 1, 1, 0, 1, 0, 0] (bodyOf fn))) (evCode P (envH (SX K) []) t17_h N (sub [1, 1, 1, 1, 1, 1, 1, 1, 1, 1, 0, 1, 0, 0] (bodyOf fn))) n ⟨[dead, bxp 1 24, dead, bxp 3 22, dead, dead, dead, dead, dead, dead, dat 22 (.slice (nextT ((elemsD (fieldD x0 1)).getD 1 .nil)) []), dat 3 (.lit (.int .i64 v11)), dead, dead, dead, dead, dead, dead, dead, dead, dead, dead, dead, dead, dead, dead, dead, dead, dead, dead, dead, dead, dead, dead, dead, dead, dead, dead, dead, dead, dead, dead, dead, dead, dead, dead, dead, dead, dead, dead, dead, dead, dead, dead, dead, dead, dead, dead, dead, dead, dead, dead, dead, dead, dead, dead, dead, dead, dead, dead, dead, dead, dead, dead, dead, dead, dead, dead, dead, dead, dead, dead], lookB [(1, some ⟨24, x0, 0, none⟩), (3, some ⟨22, .slice b3q [], 1, none⟩)]⟩ (blockK 2 (seqC P (envH (SX K) []) t17_h N (sub [1, 1, 1, 1, 1, 1, 1, 1, 1, 1, 1] (bodyOf fn)) (finK P fn) ))
theorem t17_lp17_step (K : Nat) (N n : Nat) (x0 : D) (v9 : Int) (b3 : List D) (m0 : Nat) (v11 : Int) (b3q : List D) : t17_lp17 Tryd.prog Tryd.f17 K N (n + 1) x0 v9 b3 m0 v11 b3q =
 bif decide (v11 < ((nextT ((elemsD (fieldD x0 1)).getD 1 .nil)).length : Int)) then
  bif (decide (0 <= (0 : Int)) && decide ((0 : Int) < ((elemsD (fieldD x0 1)).length : Int))) then
   bif (decide (0 <= v11) && decide (v11 < ((nextT ((elemsD (fieldD x0 1)).getD 1 .nil)).length : Int))) then
    bif decide ((b3q).length + 1 <= 2147483648) then
     t17_lp17 Tryd.prog Tryd.f17 K N n x0 v9 b3 m0 (IntKind.wrap .i64 (v11 + 1)) (b3q ++ [nodeD [(elemsD (fieldD x0 1)).getD 0 .nil, (nextT ((elemsD (fieldD x0 1)).getD 1 .nil)).getD (v11).toNat .nil]])
    else none
   else none
  else none
 else some (dat 22 (.slice b3q [])) := by kernel_rfl
theorem t17_lp12_step (K : Nat) (N n : Nat) (x0 : D) (v9 : Int) (b3 : List D) : t17_lp12 Tryd.prog Tryd.f17 K N (n + 1) x0 v9 b3 =
 bif decide (v9 < ((nextT ((elemsD (fieldD x0 1)).getD 0 .nil)).length : Int)) then
  bif (decide (0 <= v9) && decide (v9 < ((nextT ((elemsD (fieldD x0 1)).getD 0 .nil)).length : Int))) then
   bif (decide (0 <= (1 : Int)) && decide ((1 : Int) < ((elemsD (fieldD x0 1)).length : Int))) then
    bif decide ((b3).length + 1 <= 2147483648) then
     t17_lp12 Tryd.prog Tryd.f17 K N n x0 (IntKind.wrap .i64 (v9 + 1)) (b3 ++ [nodeD [(nextT ((elemsD (fieldD x0 1)).getD 0 .nil)).getD (v9).toNat .nil, (elemsD (fieldD x0 1)).getD 1 .nil]])
    else none
   else none
  else none
 else bif (decide (0 <= (1 : Int)) && decide ((1 : Int) < ((elemsD (fieldD x0 1)).length : Int))) then
   bif nxPre K ((elemsD (fieldD x0 1)).getD 1 .nil) then
    t17_lp17 Tryd.prog Tryd.f17 K N N x0 v9 b3 n 0 b3
   else none
  else none := by kernel_rfl
theorem t17 (K : Nat) (N : Nat) (x0 : D) : evFn Tryd.prog (envH (SX K) []) t17_h N Tryd.f17 [dat 24 x0] =
 bif ruleIs turnX x0 then
  bif ruleIs moveX x0 then
   bif (!(ruleIs turnX x0)) then
    some (dat 22 (.slice [ruleT turnX x0, ruleT moveX x0] []))
   else bif (decide (0 <= (0 : Int)) && decide ((0 : Int) < ((elemsD (fieldD x0 1)).length : Int))) then
     bif nxPre K ((elemsD (fieldD x0 1)).getD 0 .nil) then
      t17_lp12 Tryd.prog Tryd.f17 K N N x0 0 [ruleT turnX x0, ruleT moveX x0]
     else none
    else none
  else bif (!(ruleIs turnX x0)) then
    some (dat 22 (.slice [ruleT turnX x0] []))
   else bif (decide (0 <= (0 : Int)) && decide ((0 : Int) < ((elemsD (fieldD x0 1)).length : Int))) then
     bif nxPre K ((elemsD (fieldD x0 1)).getD 0 .nil) then
      t17_lp12 Tryd.prog Tryd.f17 K N N x0 0 [ruleT turnX x0]
     else none
    else none
 else bif ruleIs moveX x0 then
   bif (!(ruleIs turnX x0)) then
    some (dat 22 (.slice [ruleT moveX x0] []))
   else bif (decide (0 <= (0 : Int)) && decide ((0 : Int) < ((elemsD (fieldD x0 1)).length : Int))) then
     bif nxPre K ((elemsD (fieldD x0 1)).getD 0 .nil) then
      t17_lp12 Tryd.prog Tryd.f17 K N N x0 0 [ruleT moveX x0]
     else none
    else none
  else bif (!(ruleIs turnX x0)) then
    some (dat 22 (.slice [] []))
   else bif (decide (0 <= (0 : Int)) && decide ((0 : Int) < ((elemsD (fieldD x0 1)).length : Int))) then
     bif nxPre K ((elemsD (fieldD x0 1)).getD 0 .nil) then
      t17_lp12 Tryd.prog Tryd.f17 K N N x0 0 []
     else none
    else none := by kernel_rfl

end X
end
section
namespace X
open Go.Ev
set_option linter.unusedVariables false
/- roadbook/roadbookref08.Has -/
def t23r_h : Hints := fun i => if i = 2 then some ([1, 2, 4, 6, 7, 8, 9, 10, 11, 12, 13, 14, 15, 16, 17, 18, 19], [3, 1000000], []) else none
def t23r_lp2 (P : Program) (fn : Func) (N n : Nat) (x1 : D) (es : List D) (v5 : Int) : Option (AV × List (Option Ent)) := evLoop (preL t23r_h (sub [1, 0, 1, 0, 0] (bodyOf fn))) (evCode P (envH SH []) t23r_h N (sub [1, 0, 1, 0, 0] (bodyOf fn))) n ⟨[bxp 1000000 22, dead, dead, bxp 3 24, dead, dat 3 (.lit (.int .i64 v5)), dead, dead, dead, dead, dead, dead, dead, dead, dead, dead, dead, dead, dead, dead], lookB [(3, some ⟨24, x1, 0, none⟩), (1000000, some ⟨22, .slice es [], 3, none⟩)]⟩ (blockK 0 (seqC P (envH SH []) t23r_h N (sub [1, 1] (bodyOf fn)) (finH P fn 1) ))
theorem t23r_lp2_step  (N n : Nat) (x1 : D) (es : List D) (v5 : Int) : t23r_lp2 Tryd.prog Tryd.f23 N (n + 1) x1 es v5 =
 bif decide (v5 < (es.length : Int)) then
  bif (decide (0 <= v5) && decide (v5 < (es.length : Int))) then
   bif okT 130 (es.getD (v5).toNat .nil) then
    bif eqT (es.getD (v5).toNat .nil) x1 then
     some (dat 4 (.lit (.bool true)), [some ⟨22, .slice es [], 3, none⟩])
    else t23r_lp2 Tryd.prog Tryd.f23 N n x1 es (IntKind.wrap .i64 (v5 + 1))
   else none
  else none
 else some (dat 4 (.lit (.bool false)), [some ⟨22, .slice es [], 3, none⟩]) := by kernel_rfl
theorem t23r (N : Nat) (x1 : D) (es : List D) : evFnH Tryd.prog (envH SH []) t23r_h N Tryd.f23 [bxp 1000000 22, dat 24 x1] [⟨22, .slice es [], 3, none⟩] =
 t23r_lp2 Tryd.prog Tryd.f23 N N x1 es 0 := by kernel_rfl

end X
end
section
namespace X
open Go.Ev
set_option linter.unusedVariables false
set_option linter.unusedSimpArgs false
set_option maxRecDepth 10000

theorem k17 : FnOK Tryd.prog 17 Tryd.f17 := ⟨Tryd.func17, rfl, by kernel_rfl⟩
theorem i00 {a b : D} : (decide (0 <= (0 : Int)) && decide ((0 : Int) < (([a, b] : List D).length : Int))) = true := rfl
theorem i01 {a b : D} : (decide (0 <= (1 : Int)) && decide ((1 : Int) < (([a, b] : List D).length : Int))) = true := rfl
theorem nx_loop2 {K N : Nat} {x0 a b : D} {v9 : Int} {b3 : List D} {m0 : Nat} (hk : elemsD (fieldD x0 1) = [a, b]) : ∀ (n i : Nat) (l : List D), i <= (nextT b).length -> (nextT b).length - i < n -> l.length + ((nextT b).length - i) <= 2147483648 ->
  t17_lp17 Tryd.prog Tryd.f17 K N n x0 v9 b3 m0 (i : Int) l = some (dat 22 (.slice (l ++ ((nextT b).drop i).map (fun n => nodeD [a, n])) []))
 | 0, i, l, _, h, _ => by omega
 | n + 1, i, l, hi, h, hl => by
  rw [t17_lp17_step, hk, gd0, gd1, i00, cond_true]
  have hlen := nextT_len b
  by_cases hlt : i < (nextT b).length
  ·have h1 : decide ((i : Int) < ((nextT b).length : Int)) = true := by simpa using hlt
   have h2 : decide (l.length + 1 <= 2147483648) = true := by rw [decide_eq_true_eq]; omega
   rw [idx_ok hlt, h1, cond_true, cond_true, h2, cond_true, Int.toNat_natCast, getD_lt hlt, wrap_step (by unfold maxLen; omega) hlt, nx_loop2 hk n (i + 1) _ (by omega) (by omega) (by rw [List.length_append]; simp; omega), List.drop_eq_getElem_cons hlt, List.map_cons, List.append_assoc]
   rfl
  ·have h1 : decide ((i : Int) < ((nextT b).length : Int)) = false := by simpa using hlt
   rw [h1, cond_false, List.drop_of_length_le (by omega), List.map_nil, List.append_nil]
theorem nx_loop1 {K N : Nat} {x0 a b : D} (hk : elemsD (fieldD x0 1) = [a, b]) (hp : nxPre K b = true) (hN : 40 <= N) : ∀ (n i : Nat) (l : List D), i <= (nextT a).length -> (nextT a).length - i < n -> l.length + ((nextT a).length - i) <= 1000 ->
  t17_lp12 Tryd.prog Tryd.f17 K N n x0 (i : Int) l = some (dat 22 (.slice (l ++ ((nextT a).drop i).map (fun n => nodeD [n, b]) ++ (nextT b).map (fun n => nodeD [a, n])) []))
 | 0, i, l, _, h, _ => by omega
 | n + 1, i, l, hi, h, hl => by
  rw [t17_lp12_step, hk, gd0, gd1, i01, cond_true]
  have hlen := nextT_len a
  have hlenb := nextT_len b
  by_cases hlt : i < (nextT a).length
  ·have h1 : decide ((i : Int) < ((nextT a).length : Int)) = true := by simpa using hlt
   have h2 : decide (l.length + 1 <= 2147483648) = true := by rw [decide_eq_true_eq]; omega
   rw [idx_ok hlt, h1, cond_true, cond_true, h2, cond_true, Int.toNat_natCast, getD_lt hlt, wrap_step (by unfold maxLen; omega) hlt, nx_loop1 hk hp hN n (i + 1) _ (by omega) (by omega) (by rw [List.length_append]; simp; omega), List.drop_eq_getElem_cons hlt, List.map_cons]
   simp
  ·have h1 : decide ((i : Int) < ((nextT a).length : Int)) = false := by simpa using hlt
   have := nx_loop2 (K := K) (N := N) (x0 := x0) (v9 := (i : Int)) (b3 := l) (m0 := n) hk N 0 l (Nat.zero_le _) (by omega) (by omega)
   rw [List.drop_zero] at this
   rw [h1, cond_false, hp, cond_true, List.drop_of_length_le (by omega), List.map_nil, List.append_nil]
   exact this
theorem c17 (K : Nat) (henv : EnvOK Tryd.prog (envH (SX K) [])) : ∀ args d, (e17 (K + 1)).2.2.1 args = true -> (e17 (K + 1)).2.2.2 args = some d -> CallOK Tryd.prog 17 args (mkRes Tryd.prog 22 d) :=
 ent1p k17 fun x d hq h ⟨_, hx⟩ => by
  cases h
  rw [n24]
  have hq : nxPre (K + 1) x = true := hq
  refine fn_ok hm henv k17 ((t17 K 100 x).trans ?_)
  rw [m22]
  cases hmay : mayT x with
  | false =>
   rw [(rule_no (t := turnX) hmay).2, (rule_no (t := moveX) hmay).2]
   have : nextT x = [] := by unfold nextT; rw [hmay]; rfl
   rw [this]
   rfl
  | true =>
   rcases may_parts hmay with h0 | ⟨a, b, h0, _, _⟩
   ·rw [(rule_none (t := turnX) (x := x) (by unfold turnX; rw [h0])).2, (rule_none (t := moveX) (x := x) (by unfold moveX; rw [h0])).2, nextT_leaf h0]
    rfl
   ·have hset : setK (K + 1) x ≠ 0 := by
     unfold nxPre at hq
     rw [hmay, Bool.and_eq_true, Bool.not_true, Bool.false_or] at hq
     simpa using hq.2
    obtain ⟨ha, hb, sa, sb, hnx⟩ := nextT_node hmay h0 hset
    have hK : 0 < K := by
     rcases K with _ | K
     ·exact absurd rfl sa
     ·omega
    have pa : nxPre K a = true := by unfold nxPre; rw [ha]; simp only [hK, decide_true, Bool.true_and, Bool.not_true, Bool.false_or]; simpa using sa
    have pb : nxPre K b = true := by unfold nxPre; rw [hb]; simp only [hK, decide_true, Bool.true_and, Bool.not_true, Bool.false_or]; simpa using sb
    have hkx : elemsD (fieldD x 1) = [a, b] := h0
    have la := nextT_len a
    have lb := nextT_len b
    obtain ⟨y1, y2⟩ := rule_yes (t := turnX) (x := x) (y := nodeD [b, a]) hmay (by unfold turnX; rw [h0])
    have ht : turnX x = some (nodeD [b, a]) := by unfold turnX; rw [h0]
    rcases may_parts ha with h1 | ⟨u, v, h1, _, _⟩
    ·have hmv : moveX x = none := by unfold moveX; rw [h0]; simp only [h1]
     rw [y1, y2, (rule_none (t := moveX) hmv).2, cond_true, cond_false, Bool.not_true, cond_false, hkx, i00, cond_true, gd0, pa, cond_true]
     have := nx_loop1 (K := K) (N := 100) hkx pb (by omega) 100 0 [nodeD [b, a]] (Nat.zero_le _) (by omega) (by simp; omega)
     rw [List.drop_zero] at this
     refine this.trans ?_
     rw [hnx, ht, hmv]
     simp
    ·have hmv : moveX x = some (nodeD [u, nodeD [v, b]]) := by unfold moveX; rw [h0]; simp only [h1]
     obtain ⟨z1, z2⟩ := rule_yes (t := moveX) hmay hmv
     rw [y1, y2, z1, z2, cond_true, cond_true, Bool.not_true, cond_false, hkx, i00, cond_true, gd0, pa, cond_true]
     have := nx_loop1 (K := K) (N := 100) hkx pb (by omega) 100 0 [nodeD [b, a], nodeD [u, nodeD [v, b]]] (Nat.zero_le _) (by omega) (by simp; omega)
     rw [List.drop_zero] at this
     refine this.trans ?_
     rw [hnx, ht, hmv]
     simp
theorem envSX : ∀ K : Nat, EnvOK Tryd.prog (envH (SX K) [])
 | 0 => envOK_cons' envSX0 (fun args d hp hd => by
   exfalso
   have hp : q1 (fun x => nxPre 0 x) (args.map (·.d)) = true := hp
   unfold q1 at hp
   split at hp
   ·cases hp
   ·cases hp)
 | K + 1 => envOK_cons' envSX0 (c17 K (envSX K))
/-- For every tree. -/
def e17g : FuncId × TypeId × (List AV -> Bool) × (List AV -> Option D) := (17, 22, yes, ent [24] (f1 fun x => some (.slice (nextT x) [])))
theorem nx_pre4 (x : D) : nxPre 4 x = true := by
 unfold nxPre mayT setT
 cases (setK 4 x != 0) <;> rfl
theorem c17g : ∀ args d, e17g.2.2.2 args = some d -> CallOK Tryd.prog 17 args (mkRes Tryd.prog 22 d) := fun args d h =>
 c17 3 (envSX 3) args d (by
  have h : ent [24] (f1 fun x => some (.slice (nextT x) [])) args = some d := h
  unfold ent at h
  split at h
  ·show q1 (fun x => nxPre 4 x) (args.map (·.d)) = true
   generalize args.map (·.d) = l at h ⊢
   match l, h with
   | [x], _ => exact nx_pre4 x
   | [], h => cases h
   | _ :: _ :: _, h => cases h
  ·cases h) h
/-- Has, of a row that it is handed. -/
def a23 : List AV := [bxp OID 22, dat 24 .nil]
def b23 : List Ent := [⟨22, .nil, 3, none⟩]
def q23 (ds hs : List D) : Bool := match ds, hs with
 | [_, t], [e] => (elemsD e).all (okT 130)
 | _, _ => false
def g23 (ds hs : List D) : HRes := match ds, hs with
 | [_, t], [e] => some (dat 4 (.lit (.bool (hasL (elemsD e) t))), [some ⟨22, .slice (elemsD e) [], 3, none⟩])
 | _, _ => none
def h23 : FuncId × TypeId × (List AV -> List Ent -> Bool) × (List AV -> List Ent -> Option (AV × List (Option Ent))) := (23, 4, preH a23 b23 q23, entH a23 b23 g23)
theorem hasr_loop {N : Nat} {es : List D} {x1 : D} (hl : es.length <= maxLen) (hok : ∀ p ∈ es, okT 130 p = true) : ∀ (n i : Nat), i <= es.length -> es.length - i < n ->
  t23r_lp2 Tryd.prog Tryd.f23 N n x1 es (i : Int) = some (dat 4 (.lit (.bool (hasL (es.drop i) x1))), [some ⟨22, .slice es [], 3, none⟩])
 | 0, i, _, h => by omega
 | n + 1, i, hi, h => by
  rw [t23r_lp2_step]
  by_cases hlt : i < es.length
  ·have h1 : decide ((i : Int) < (es.length : Int)) = true := by simpa using hlt
   rw [idx_ok hlt, h1, cond_true, cond_true, Int.toNat_natCast, getD_lt hlt, hok _ (List.getElem_mem hlt), cond_true, List.drop_eq_getElem_cons hlt]
   unfold hasL
   rw [List.any_cons]
   cases hb : eqT es[i] x1 with
   | true => rfl
   | false =>
    rw [cond_false, Bool.false_or, wrap_step hl hlt]
    exact hasr_loop hl hok n (i + 1) (by omega) (by omega)
  ·have h1 : decide ((i : Int) < (es.length : Int)) = false := by simpa using hlt
   rw [h1, List.drop_of_length_le (by omega), cond_false]
   rfl
theorem c23r : ∀ args hh r h', preH a23 b23 q23 args hh = true -> entH a23 b23 g23 args hh = some (r, h') -> HCallOK Tryd.prog 23 args hh r h' := by
 refine entH_ok rfl rfl fun ds es r h' hq hd => ?_
 unfold q23 at hq
 split at hq
 ·rename_i z t e
  cases hd
  refine HCallOK.typedR k23.ex fun ht _ hr => ?_
  obtain ⟨el, l, _, hl, hml, _⟩ := hr ⟨22, e, 3, none⟩ (by simp [fillE, b23]) (by simp)
  have hl : e = .slice l [] := hl
  subst hl
  have hq : l.all (okT 130) = true := hq
  rw [List.all_eq_true] at hq
  refine fnH_ok hm envSH k23 ((t23r (l.length + 1) t l).trans ?_)
  have := hasr_loop (N := l.length + 1) (x1 := t) hml hq (l.length + 1) 0 (Nat.zero_le _) (by omega)
  rw [List.drop_zero] at this
  exact this
 ·cases hq
def SY : Tab := e17g :: e30 :: []
theorem envSY : EnvOK Tryd.prog (envH SY [h23]) := envOK_cons (envOK_cons (envOK_consH env0 c23r) c30) c17g
end X
end
section
namespace X
open Go.Ev
set_option linter.unusedVariables false
/- roadbook/roadbookref08.Close -/
def t19_h : Hints := fun i => if i = 6 then some ([0, 1, 2, 3, 6, 7, 8, 9, 10, 11, 12, 13, 14, 15, 16, 17, 18, 19, 20, 21, 22, 23, 24, 25, 26, 27, 28, 29, 30, 31, 32, 33, 34, 35, 36, 37, 38, 39, 40, 41, 42, 43, 44, 45, 46, 47], [14], []) else if i = 10 then some ([0, 1, 2, 3, 8, 9, 10, 11, 12, 13, 14, 15, 16, 17, 18, 19, 20, 21, 22, 23, 24, 25, 26, 27, 28, 29, 30, 31, 32, 33, 34, 35, 36, 37, 38, 39, 40, 41, 42, 43, 44, 45, 46, 47], [14], []) else none
def t19_lp6 (P : Program) (fn : Func) (N n : Nat) (x0 : D) (v5 : Int) (b14 : List D) : Option AV := evLoop (preL t19_h (sub [1, 1, 1, 1, 0, 1, 0, 0] (bodyOf fn))) (evCode P (envS (envH SY [h23]) [(14, 100)]) t19_h N (sub [1, 1, 1, 1, 0, 1, 0, 0] (bodyOf fn))) n ⟨[dead, dead, dead, dead, bxp 14 22, dat 3 (.lit (.int .i64 v5)), dead, dead, dead, dead, dead, dead, dead, dead, dead, dead, dead, dead, dead, dead, dead, dead, dead, dead, dead, dead, dead, dead, dead, dead, dead, dead, dead, dead, dead, dead, dead, dead, dead, dead, dead, dead, dead, dead, dead, dead, dead, dead], lookB [(14, some ⟨22, .slice b14 [], 2, none⟩)]⟩ (blockK 0 (seqC P (envS (envH SY [h23]) [(14, 100)]) t19_h N (sub [1, 1, 1, 1, 1] (bodyOf fn)) (finK P fn) ))
def t19_lp10 (P : Program) (fn : Func) (N n : Nat) (x0 : D) (v5 : Int) (b14 : List D) (m0 : Nat) (v7 : Int) (b14q : List D) : Option AV := evLoop (preL t19_h (sub [1, 1, 1, 1, 0, 1, 0, 0, 1, 0, 0, 1, 1, 0, 0] (bodyOf fn))) (evCode P (envS (envH SY [h23]) [(14, 100)]) t19_h N (sub [1, 1, 1, 1, 0, 1, 0, 0, 1, 0, 0, 1, 1, 0, 0] (bodyOf fn))) n ⟨[dead, dead, dead, dead, bxp 14 22, dat 3 (.lit (.int .i64 v5)), dat 22 (.slice (nextT (b14.getD (v5).toNat .nil)) []), dat 3 (.lit (.int .i64 v7)), dead, dead, dead, dead, dead, dead, dead, dead, dead, dead, dead, dead, dead, dead, dead, dead, dead, dead, dead, dead, dead, dead, dead, dead, dead, dead, dead, dead, dead, dead, dead, dead, dead, dead, dead, dead, dead, dead, dead, dead], lookB [(14, some ⟨22, .slice b14q [], 2, none⟩)]⟩ (blockK 2 (blockK 1 (seqC P (envS (envH SY [h23]) [(14, 100)]) t19_h N (sub [1, 1, 1, 1, 0, 1, 0, 0, 1, 1] (bodyOf fn)) (seqK (fun s => evLoop (preL t19_h (sub [1, 1, 1, 1, 0, 1, 0, 0] (bodyOf fn))) (evCode P (envS (envH SY [h23]) [(14, 100)]) t19_h N (sub [1, 1, 1, 1, 0, 1, 0, 0] (bodyOf fn))) m0 ((preL t19_h (sub [1, 1, 1, 1, 0, 1, 0, 0] (bodyOf fn))) s) (blockK 0 (seqC P (envS (envH SY [h23]) [(14, 100)]) t19_h N (sub [1, 1, 1, 1, 1] (bodyOf fn)) (finK P fn) ))) (blockK 0 (seqC P (envS (envH SY [h23]) [(14, 100)]) t19_h N (sub [1, 1, 1, 1, 1] (bodyOf fn)) (finK P fn) ))) )))
theorem t19_lp10_step  (N n : Nat) (x0 : D) (v5 : Int) (b14 : List D) (m0 : Nat) (v7 : Int) (b14q : List D) : t19_lp10 Tryd.prog Tryd.f19 N (n + 1) x0 v5 b14 m0 v7 b14q =
 bif decide (v7 < ((nextT (b14.getD (v5).toNat .nil)).length : Int)) then
  bif (decide (0 <= v7) && decide (v7 < ((nextT (b14.getD (v5).toNat .nil)).length : Int))) then
   bif b14q.all (okT 130) then
    bif (!(hasL b14q ((nextT (b14.getD (v5).toNat .nil)).getD (v7).toNat .nil))) then
     bif (decide (0 <= v7) && decide (v7 < ((nextT (b14.getD (v5).toNat .nil)).length : Int))) then
      bif decide ((b14q).length + 1 <= 2147483648) then
       t19_lp10 Tryd.prog Tryd.f19 N n x0 v5 b14 m0 (IntKind.wrap .i64 (v7 + 1)) (b14q ++ [(nextT (b14.getD (v5).toNat .nil)).getD (v7).toNat .nil])
      else none
     else none
    else t19_lp10 Tryd.prog Tryd.f19 N n x0 v5 b14 m0 (IntKind.wrap .i64 (v7 + 1)) b14q
   else none
  else none
 else t19_lp6 Tryd.prog Tryd.f19 N m0 x0 (IntKind.wrap .i64 (v5 + 1)) b14q := by kernel_rfl
theorem t19_lp6_step  (N n : Nat) (x0 : D) (v5 : Int) (b14 : List D) : t19_lp6 Tryd.prog Tryd.f19 N (n + 1) x0 v5 b14 =
 bif decide (v5 < (b14.length : Int)) then
  bif (decide (0 <= v5) && decide (v5 < (b14.length : Int))) then
   t19_lp10 Tryd.prog Tryd.f19 N N x0 v5 b14 n 0 b14
  else none
 else some (dat 22 (.slice b14 [])) := by kernel_rfl
theorem t19 (N : Nat) (x0 : D) : evFn Tryd.prog (envS (envH SY [h23]) [(14, 100)]) t19_h N Tryd.f19 [dat 24 x0] =
 bif (!(mayT x0)) then
  some (dat 22 (.slice [] []))
 else t19_lp6 Tryd.prog Tryd.f19 N N x0 0 [x0] := by kernel_rfl

end X
end
section
namespace X
open Go.Ev
set_option linter.unusedVariables false
/- roadbook/roadbooklaw08.RuleAll -/
def t4_h : Hints := fun i => if i = 9 then some ([0, 1, 2, 3, 7, 8, 9, 10, 11, 12, 13, 14, 15, 16, 17, 18, 19, 20, 21, 22, 23, 24, 25, 26, 27, 28, 29, 30, 31, 32, 33, 34, 35, 36, 37, 38, 39, 40, 41, 42, 43, 44, 45], [], []) else none
def t4_lp9 (P : Program) (fn : Func) (N n : Nat) (x0 : D) (v6 : Int) : Option AV := evLoop (preL t4_h (sub [1, 1, 1, 1, 1, 1, 0, 1, 0, 0] (bodyOf fn))) (evCode P (envH SQ []) t4_h N (sub [1, 1, 1, 1, 1, 1, 0, 1, 0, 0] (bodyOf fn))) n ⟨[dead, dead, dead, dead, dat 22 (.slice (closeT x0) []), dat 22 (.slice (allT (setT x0)) []), dat 3 (.lit (.int .i64 v6)), dead, dead, dead, dead, dead, dead, dead, dead, dead, dead, dead, dead, dead, dead, dead, dead, dead, dead, dead, dead, dead, dead, dead, dead, dead, dead, dead, dead, dead, dead, dead, dead, dead, dead, dead, dead, dead, dead, dead], lookB []⟩ (blockK 0 (seqC P (envH SQ []) t4_h N (sub [1, 1, 1, 1, 1, 1, 1] (bodyOf fn)) (finK P fn) ))
theorem t4_lp9_step  (N n : Nat) (x0 : D) (v6 : Int) : t4_lp9 Tryd.prog Tryd.f4 N (n + 1) x0 v6 =
 bif decide (v6 < ((allT (setT x0)).length : Int)) then
  bif (decide (0 <= v6) && decide (v6 < ((allT (setT x0)).length : Int))) then
   bif (closeT x0).all (okT 130) then
    bif (!(hasL (closeT x0) ((allT (setT x0)).getD (v6).toNat .nil))) then
     some (dat 4 (.lit (.bool false)))
    else t4_lp9 Tryd.prog Tryd.f4 N n x0 (IntKind.wrap .i64 (v6 + 1))
   else none
  else none
 else some (dat 4 (.lit (.bool true))) := by kernel_rfl
theorem t4 (N : Nat) (x0 : D) : evFn Tryd.prog (envH SQ []) t4_h N Tryd.f4 [dat 24 x0] =
 bif (decide (0 <= 100) && decide (100 < ((101 : Nat) : Int)) && decide (101 <= 101)) then
  bif ((decide ((szK 101 x0 100) > 100)) == false) then
   bif (!(mayT x0)) then
    some (dat 4 (.lit (.bool true)))
   else bif (((closeT x0).length : Int) != ((allT (setT x0)).length : Int)) then
     some (dat 4 (.lit (.bool false)))
    else t4_lp9 Tryd.prog Tryd.f4 N N x0 0
  else some (dat 4 (.lit (.bool true)))
 else none := by kernel_rfl

end X
end
section
namespace X
open Go.Ev
set_option linter.unusedVariables false
set_option linter.unusedSimpArgs false
set_option maxRecDepth 10000

theorem k4 : FnOK Tryd.prog 4 Tryd.f4 := ⟨Tryd.func4, rfl, by kernel_rfl⟩
theorem one_ok {s : Int} (h1 : 1 <= s) (h2 : s <= 15) {d : D} (h : d ∈ allT s) : okT 130 d = true := by
 have := (allT_one h1 h2 h).2.2.1
 unfold smT smK at this
 rw [Bool.and_eq_true] at this
 exact this.1
/-- What is come to of a tree that may be. -/
theorem close_of {n : Nat} {x : D} (hty : Ty Tryd.prog n 24 x) (h : mayT x = true) :
  x ∈ allT (setT x) /\ (∀ t, t ∈ closeT x ↔ t ∈ allT (setT x)) /\ (closeT x).length = (allT (setT x)).length /\ (closeT x)[0]? = some x /\ (closeT x).all (okT 130) = true := by
 obtain ⟨h1, h2⟩ := may_in h
 have hmem := may_mem hty h
 have hc : closeT x = closeK 130 0 [x] [textT x] := by unfold closeT; rw [h, cond_true, copy_same h1 h2 hmem]
 obtain ⟨q1, q2, q3⟩ := close_all h1 h2 hmem
 rw [hc]
 exact ⟨hmem, q1, q2, q3, List.all_eq_true.2 fun d hd => one_ok h1 h2 ((q1 d).1 hd)⟩
theorem has_of {l : List D} {t : D} (h : t ∈ l) (hok : okT 130 t = true) : hasL l t = true := List.any_eq_true.2 ⟨t, h, eqK_refl 130 t hok⟩
theorem all_loop {N : Nat} {x0 : D} (hl : (allT (setT x0)).length <= maxLen) (hok : (closeT x0).all (okT 130) = true) (hall : ∀ t ∈ allT (setT x0), hasL (closeT x0) t = true) : ∀ (n i : Nat), i <= (allT (setT x0)).length -> (allT (setT x0)).length - i < n ->
  t4_lp9 Tryd.prog Tryd.f4 N n x0 (i : Int) = some (dat 4 (.lit (.bool true)))
 | 0, i, _, h => by omega
 | n + 1, i, hi, h => by
  rw [t4_lp9_step]
  by_cases hlt : i < (allT (setT x0)).length
  ·have h1 : decide ((i : Int) < ((allT (setT x0)).length : Int)) = true := by simpa using hlt
   rw [idx_ok hlt, h1, cond_true, cond_true, Int.toNat_natCast, getD_lt hlt, hok, cond_true, hall _ (List.getElem_mem hlt), Bool.not_true, cond_false, wrap_step hl hlt]
   exact all_loop hl hok hall n (i + 1) (by omega) (by omega)
  ·have h1 : decide ((i : Int) < ((allT (setT x0)).length : Int)) = false := by simpa using hlt
   rw [h1, cond_false]
theorem pre1h : (decide (0 <= 100) && decide (100 < ((101 : Nat) : Int)) && decide (101 <= 101)) = true := rfl
theorem law4 {n : Nat} (x0 : D) (hty : Ty Tryd.prog n 24 x0) : CallOK Tryd.prog 4 [dat 24 x0] (dat 4 (.lit (.bool true))) := by
 refine fn_ok (t := 4) (d := .lit (.bool true)) hm envSQ k4 ((t4 121 x0).trans ?_)
 rw [m4]
 show _ = some (dat 4 (.lit (.bool true)))
 rw [pre1h, cond_true]
 cases hsz : decide (szK 101 x0 100 > 100) with
 | true => rfl
 | false =>
  rw [show (false == false) = true from rfl, cond_true]
  cases hmay : mayT x0 with
  | false => rfl
  | true =>
   obtain ⟨h1, h2⟩ := may_in hmay
   obtain ⟨q0, q1, q2, q3, q4⟩ := close_of hty hmay
   have hl := allT_len h1 h2
   have hne : (((closeT x0).length : Int) != ((allT (setT x0)).length : Int)) = false := by rw [q2]; simp
   have := all_loop (N := 121) (x0 := x0) (by unfold maxLen; omega) q4 (fun t ht => has_of ((q1 t).2 ht) (one_ok h1 h2 ht)) 121 0 (Nat.zero_le _) (by omega)
   rw [Bool.not_true, cond_false, hne, cond_false]
   exact this
end X
end
section
namespace X
open Go.Ev
set_option linter.unusedVariables false
set_option linter.unusedSimpArgs false
set_option maxRecDepth 10000

theorem k19 : FnOK Tryd.prog 19 Tryd.f19 := ⟨Tryd.func19, rfl, by kernel_rfl⟩
theorem own_in {N : Nat} {x0 d : D} {v5 : Int} {b14 : List D} {m0 : Nat} (hd : b14.getD (v5).toNat .nil = d) (hL : ∀ n ∈ nextT d, okT 130 n = true) : ∀ (n i : Nat) (l : List D), i <= (nextT d).length -> (nextT d).length - i < n -> l.length + ((nextT d).length - i) <= 2147483648 -> (∀ p ∈ l, okT 130 p = true) ->
  t19_lp10 Tryd.prog Tryd.f19 N n x0 v5 b14 m0 (i : Int) l = t19_lp6 Tryd.prog Tryd.f19 N m0 x0 (IntKind.wrap .i64 (v5 + 1)) (comeH l ((nextT d).drop i))
 | 0, i, l, _, h, _, _ => by omega
 | n + 1, i, l, hi, h, hl, hok => by
  rw [t19_lp10_step, hd]
  have hlen := nextT_len d
  by_cases hlt : i < (nextT d).length
  ·have h1 : decide ((i : Int) < ((nextT d).length : Int)) = true := by simpa using hlt
   have hok' : l.all (okT 130) = true := List.all_eq_true.2 hok
   rw [idx_ok hlt, h1, cond_true, cond_true, hok', cond_true, Int.toNat_natCast, getD_lt hlt, List.drop_eq_getElem_cons hlt]
   show _ = t19_lp6 Tryd.prog Tryd.f19 N m0 x0 (IntKind.wrap .i64 (v5 + 1)) (bif hasL l (nextT d)[i] then comeH l ((nextT d).drop (i + 1)) else comeH (l ++ [(nextT d)[i]]) ((nextT d).drop (i + 1)))
   cases hc : hasL l (nextT d)[i] with
   | true =>
    rw [Bool.not_true, cond_false, cond_true, wrap_step (by unfold maxLen; omega) hlt]
    exact own_in hd hL n (i + 1) l (by omega) (by omega) (by omega) hok
   | false =>
    have h2 : decide (l.length + 1 <= 2147483648) = true := by rw [decide_eq_true_eq]; omega
    rw [Bool.not_false, cond_true, cond_true, h2, cond_true, cond_false, wrap_step (by unfold maxLen; omega) hlt]
    refine own_in hd hL n (i + 1) _ (by omega) (by omega) (by rw [List.length_append]; simp; omega) (fun p hp => ?_)
    rcases List.mem_append.1 hp with hp | hp
    ·exact hok p hp
    ·rw [List.mem_singleton.1 hp]; exact hL _ (List.getElem_mem hlt)
  ·have h1 : decide ((i : Int) < ((nextT d).length : Int)) = false := by simpa using hlt
   rw [h1, cond_false, List.drop_of_length_le (by omega)]
   rfl
theorem own_out {N : Nat} (hN : 40 <= N) {x0 : D} {G : D -> Prop} (hG : ∀ d, G d -> okT 130 d = true /\ ∀ n ∈ nextT d, G n) : ∀ (n i : Nat) (l : List D), i <= l.length -> (∀ d ∈ l, G d) -> l.length + 40 * n < 2147483648 -> (closeH n i l).length < i + n ->
  t19_lp6 Tryd.prog Tryd.f19 N n x0 (i : Int) l = some (dat 22 (.slice (closeH n i l) []))
 | 0, i, l, hi, _, _, hc => by
  have : closeH 0 i l = l := rfl
  rw [this] at hc
  omega
 | n + 1, i, l, hi, hg, hl, hc => by
  rw [t19_lp6_step]
  rw [closeH_succ] at hc ⊢
  by_cases hlt : i < l.length
  ·have h1 : decide ((i : Int) < (l.length : Int)) = true := by simpa using hlt
   rw [List.getElem?_eq_getElem hlt] at hc ⊢
   dsimp only at hc ⊢
   have hlen := nextT_len l[i]
   have hgd := hg _ (List.getElem_mem hlt)
   have hn := (hG _ hgd).2
   have hcl := comeH_len (nextT l[i]) l
   have hge := comeH_ge (nextT l[i]) l
   rw [idx_ok hlt, h1, cond_true, cond_true]
   have := own_in (N := N) (x0 := x0) (v5 := (i : Int)) (b14 := l) (m0 := n) (d := l[i]) (by rw [Int.toNat_natCast, getD_lt hlt]) (fun n hn' => (hG _ (hn n hn')).1) N 0 l (Nat.zero_le _) (by omega) (by omega) (fun p hp => (hG _ (hg p hp)).1)
   rw [List.drop_zero] at this
   refine this.trans ?_
   rw [wrap_step (n := l.length) (by unfold maxLen; omega) hlt]
   exact own_out hN hG n (i + 1) _ (by omega) (comeH_in _ _ hg hn) (by omega) (by omega)
  ·have h1 : decide ((i : Int) < (l.length : Int)) = false := by simpa using hlt
   rw [List.getElem?_eq_none (by omega)] at hc ⊢
   rw [h1, cond_false]
def e19 : FuncId × TypeId × (List AV -> Bool) × (List AV -> Option D) := (19, 22, yes, ent [24] (f1 fun x => some (.slice (closeT x) [])))
theorem c19 : ∀ args d, e19.2.2.2 args = some d -> CallOK Tryd.prog 19 args (mkRes Tryd.prog 22 d) :=
 ent1 k19 fun x d h ⟨_, hx⟩ => by
  cases h
  rw [n24]
  refine fn_ok hm (envOK_S envSY _) k19 ((t19 130 x).trans ?_)
  rw [m22]
  cases hmay : mayT x with
  | false =>
   have : closeT x = [] := by unfold closeT; rw [hmay]; rfl
   rw [this]
   rfl
  | true =>
   obtain ⟨h1, h2⟩ := may_in hmay
   obtain ⟨q0, q1, q2, q3, q4⟩ := close_of hx hmay
   have hco := close_own h1 h2 q0
   have hl := allT_len h1 h2
   rw [Bool.not_true, cond_false, <- hco]
   exact own_out (N := 130) (by omega) (G := fun d => d ∈ allT (setT x)) (fun d hd => ⟨one_ok h1 h2 hd, fun n hn => next_mem h1 h2 hd n (by
    have : nextT d = nextK 4 d := by unfold nextT; rw [(allT_one h1 h2 hd).1]; rfl
    rw [<- this]
    exact hn)⟩) 130 0 [x] (Nat.zero_le _) (fun d hd => by rw [List.mem_singleton.1 hd]; exact q0) (by simp) (by rw [hco]; omega)
def SW : Tab := e15 :: e14 130 :: e19 :: e17g :: e13 :: e11 :: e12 :: e10 :: SL
theorem envSW : EnvOK Tryd.prog (envH SW []) := envOK_cons' (envOK_cons' (envOK_cons (envOK_cons (envOK_cons (envOK_cons (envOK_cons (envOK_cons envSL c10) c12) c11) c13) c17g) c19) (c14 129 (envR1 129))) c15
end X
end
section
namespace X
open Go.Ev
set_option linter.unusedVariables false
/- roadbook/roadbooklaw08.RuleTells -/
def t3_h : Hints := fun _ =>  none
theorem t3 (N : Nat) (x0 : D) : evFn Tryd.prog (envH SW []) t3_h N Tryd.f3 [dat 24 x0] =
 bif (decide (0 <= 100) && decide (100 < ((101 : Nat) : Int)) && decide (101 <= 101)) then
  bif decide ((szK 101 x0 100) > 100) then
   some (dat 4 (.lit (.bool true)))
  else bif okT 130 (ruleT turnX x0) then
    bif ((eqT (ruleT turnX x0) (ruleT turnX x0)) == true) then
     bif (((ruleIs turnX x0) == (ruleIs turnX x0)) == true) then
      bif okT 130 (ruleT moveX x0) then
       bif ((eqT (ruleT moveX x0) (ruleT moveX x0)) == true) then
        bif (((ruleIs moveX x0) == (ruleIs moveX x0)) == true) then
         bif (nextT x0).all (okT 130) then
          bif ((eq2 eqT (nextT x0) (nextT x0)) == true) then
           bif (closeT x0).all (okT 130) then
            some (dat 4 (.lit (.bool (eq2 eqT (closeT x0) (closeT x0)))))
           else none
          else some (dat 4 (.lit (.bool false)))
         else none
        else some (dat 4 (.lit (.bool false)))
       else some (dat 4 (.lit (.bool false)))
      else none
     else some (dat 4 (.lit (.bool false)))
    else some (dat 4 (.lit (.bool false)))
   else none
 else none := by kernel_rfl

end X
end
section
namespace X
open Go.Ev
set_option linter.unusedVariables false
set_option linter.unusedSimpArgs false
set_option maxRecDepth 10000

theorem k3' : FnOK Tryd.prog 3 Tryd.f3 := ⟨Tryd.func3, rfl, by kernel_rfl⟩
theorem eq2_self {l : List D} (h : ∀ t ∈ l, okT 130 t = true) : eq2 eqT l l = true := by
 induction l with
 | nil => rfl
 | cons a l ih =>
  show (eqT a a && eq2 eqT l l) = true
  rw [ih (fun t ht => h t (List.mem_cons_of_mem _ ht)), show eqT a a = true from eqK_refl 130 a (h a List.mem_cons_self)]
  rfl
theorem next_in {n : Nat} {x : D} (hty : Ty Tryd.prog n 24 x) : ∀ t ∈ nextT x, okT 130 t = true := by
 intro t ht
 cases hmay : mayT x with
 | false =>
  have : nextT x = [] := by unfold nextT; rw [hmay]; rfl
  rw [this] at ht
  cases ht
 | true =>
  obtain ⟨h1, h2⟩ := may_in hmay
  have : nextT x = nextK 4 x := by unfold nextT; rw [hmay]; rfl
  rw [this] at ht
  exact one_ok h1 h2 (next_mem h1 h2 (may_mem hty hmay) t ht)
theorem turn_ok {n : Nat} {x : D} (hty : Ty Tryd.prog n 24 x) : okT 130 (ruleT turnX x) = true := by
 cases hmay : mayT x with
 | false => rw [(rule_no hmay).1]; rfl
 | true =>
  cases ht : turnX x with
  | none => rw [(rule_none ht).1]; rfl
  | some y =>
   rw [(rule_yes hmay ht).1]
   refine next_in hty y ?_
   have : nextT x = nextK 4 x := by unfold nextT; rw [hmay]; rfl
   rw [this]
   unfold nextK
   rw [ht]
   simp
theorem move_ok {n : Nat} {x : D} (hty : Ty Tryd.prog n 24 x) : okT 130 (ruleT moveX x) = true := by
 cases hmay : mayT x with
 | false => rw [(rule_no hmay).1]; rfl
 | true =>
  cases ht : moveX x with
  | none => rw [(rule_none ht).1]; rfl
  | some y =>
   rw [(rule_yes hmay ht).1]
   refine next_in hty y ?_
   have : nextT x = nextK 4 x := by unfold nextT; rw [hmay]; rfl
   rw [this]
   unfold nextK
   rw [ht]
   simp
theorem close_ok {n : Nat} {x : D} (hty : Ty Tryd.prog n 24 x) : ∀ t ∈ closeT x, okT 130 t = true := by
 cases hmay : mayT x with
 | false =>
  have : closeT x = [] := by unfold closeT; rw [hmay]; rfl
  rw [this]
  intro t ht
  cases ht
 | true => exact List.all_eq_true.1 (close_of hty hmay).2.2.2.2
theorem law3 {n : Nat} (x0 : D) (hty : Ty Tryd.prog n 24 x0) : CallOK Tryd.prog 3 [dat 24 x0] (dat 4 (.lit (.bool true))) := by
 refine fn_ok (t := 4) (d := .lit (.bool true)) hm envSW k3' ((t3 0 x0).trans ?_)
 rw [m4]
 show _ = some (dat 4 (.lit (.bool true)))
 have o1 := turn_ok hty
 have o2 := move_ok hty
 have o3 := next_in hty
 have o4 := close_ok hty
 have e1 : eqT (ruleT turnX x0) (ruleT turnX x0) = true := eqK_refl 130 _ o1
 have e2 : eqT (ruleT moveX x0) (ruleT moveX x0) = true := eqK_refl 130 _ o2
 rw [pre1h, cond_true, o1, o2, e1, e2, List.all_eq_true.2 o3, List.all_eq_true.2 o4, eq2_self o3, eq2_self o4]
 cases hsz : decide (szK 101 x0 100 > 100) with
 | true => rfl
 | false => cases ruleIs turnX x0 <;> cases ruleIs moveX x0 <;> rfl
end X
end
end Go.Proofs.YtdacippnonhahaaDoor
