/- Trees of functions, and lemmas. Nothing here is trusted. -/
import Derived.Test.YtdacippnonhahaaDoorZ31
import Derived.Test.YtdacippnonhahaaDoorZ27
namespace Go.Proofs.YtdacippnonhahaaDoor
section
namespace X
open Go.Ev
set_option linter.unusedVariables false
def SH : Tab := e14 130 :: []
theorem envSH : EnvOK Tryd.prog (envH SH []) := envOK_cons' env0 (c14 129 (envR1 129))
/-- Is a tree one of some? -/
def hasL (l : List D) (t : D) : Bool := l.any fun y => eqT y t
end X
end
section
namespace X
open Go.Ev
set_option linter.unusedVariables false
/- roadbook/roadbookref08.Has -/
def t23_h : Hints := fun i => if i = 2 then some ([1, 2, 4, 6, 7, 8, 9, 10, 11, 12, 13, 14, 15, 16, 17, 18, 19], [3], []) else none
def t23_lp2 (P : Program) (fn : Func) (N n : Nat) (x0 : D) (x1 : D) (v5 : Int) : Option AV := evLoop (preL t23_h (sub [1, 0, 1, 0, 0] (bodyOf fn))) (evCode P (envH SH []) t23_h N (sub [1, 0, 1, 0, 0] (bodyOf fn))) n ⟨[dat 22 x0, dead, dead, bxp 3 24, dead, dat 3 (.lit (.int .i64 v5)), dead, dead, dead, dead, dead, dead, dead, dead, dead, dead, dead, dead, dead, dead], lookB [(3, some ⟨24, x1, 0, none⟩)]⟩ (blockK 0 (seqC P (envH SH []) t23_h N (sub [1, 1] (bodyOf fn)) (finK P fn) ))
theorem t23_lp2_step  (N n : Nat) (x0 : D) (x1 : D) (v5 : Int) : t23_lp2 Tryd.prog Tryd.f23 N (n + 1) x0 x1 v5 =
 bif decide (v5 < ((elemsD x0).length : Int)) then
  bif (decide (0 <= v5) && decide (v5 < ((elemsD x0).length : Int))) then
   bif okT 130 ((elemsD x0).getD (v5).toNat .nil) then
    bif eqT ((elemsD x0).getD (v5).toNat .nil) x1 then
     some (dat 4 (.lit (.bool true)))
    else t23_lp2 Tryd.prog Tryd.f23 N n x0 x1 (IntKind.wrap .i64 (v5 + 1))
   else none
  else none
 else some (dat 4 (.lit (.bool false))) := by kernel_rfl
theorem t23 (N : Nat) (x0 : D) (x1 : D) : evFn Tryd.prog (envH SH []) t23_h N Tryd.f23 [dat 22 x0, dat 24 x1] =
 t23_lp2 Tryd.prog Tryd.f23 N N x0 x1 0 := by kernel_rfl

end X
end
section
namespace X
open Go.Ev
set_option linter.unusedVariables false
set_option linter.unusedSimpArgs false
set_option maxRecDepth 10000

theorem k23 : FnOK Tryd.prog 23 Tryd.f23 := ⟨Tryd.func23, rfl, by kernel_rfl⟩
theorem has_loop {N : Nat} {x0 x1 : D} (hl : (elemsD x0).length <= maxLen) (hok : ∀ p ∈ elemsD x0, okT 130 p = true) : ∀ (n i : Nat), i <= (elemsD x0).length -> (elemsD x0).length - i < n ->
  t23_lp2 Tryd.prog Tryd.f23 N n x0 x1 (i : Int) = some (dat 4 (.lit (.bool (hasL ((elemsD x0).drop i) x1))))
 | 0, i, _, h => by omega
 | n + 1, i, hi, h => by
  rw [t23_lp2_step]
  by_cases hlt : i < (elemsD x0).length
  ·have h1 : decide ((i : Int) < ((elemsD x0).length : Int)) = true := by simpa using hlt
   rw [idx_ok hlt, h1, cond_true, cond_true, Int.toNat_natCast, getD_lt hlt, hok _ (List.getElem_mem hlt), cond_true, List.drop_eq_getElem_cons hlt]
   unfold hasL
   rw [List.any_cons]
   cases hb : eqT (elemsD x0)[i] x1 with
   | true => rfl
   | false =>
    rw [cond_false, Bool.false_or, wrap_step hl hlt]
    exact has_loop hl hok n (i + 1) (by omega) (by omega)
  ·have h1 : decide ((i : Int) < ((elemsD x0).length : Int)) = false := by simpa using hlt
   rw [h1, List.drop_of_length_le (by omega), cond_false]
   rfl
def e23 : FuncId × TypeId × (List AV -> Bool) × (List AV -> Option D) := (23, 4, preD (q2 fun x y => (elemsD x).all (okT 130)), ent [22, 24] (f2 fun x y => some (.lit (.bool (hasL (elemsD x) y)))))
theorem c23 : ∀ args d, e23.2.2.1 args = true -> e23.2.2.2 args = some d -> CallOK Tryd.prog 23 args (mkRes Tryd.prog 4 d) :=
 ent2p k23 fun x y d hq h ⟨_, hx⟩ ⟨_, hy⟩ => by
  cases h
  rw [n22, n24]
  have hq : ((elemsD x).all (okT 130)) = true := hq
  rw [List.all_eq_true] at hq
  have hl : (elemsD x).length <= maxLen := by
   obtain ⟨ks, rfl, h, _⟩ := ty22 hx
   exact h
  refine fn_ok hm envSH k23 ((t23 ((elemsD x).length + 1) x y).trans ?_)
  rw [m4]
  have := has_loop (N := (elemsD x).length + 1) (x1 := y) hl hq ((elemsD x).length + 1) 0 (Nat.zero_le _) (by omega)
  rw [List.drop_zero] at this
  exact this
def SQ : Tab := e23 :: eAll :: SL
theorem envSQ : EnvOK Tryd.prog (envH SQ []) := envOK_cons' (envOK_cons envSL cAll) c23
end X
end
section
namespace X
open Go.Ev
set_option linter.unusedVariables false
/- roadbook/roadbooklaw08.RuleAll -/
def t4_h : Hints := fun i => if i = 9 then some ([0, 1, 2, 3, 7, 8, 9, 10, 11, 12, 13, 14, 15, 16, 17, 18, 19, 20, 21, 22, 23, 24, 25, 26, 27, 28, 29, 30, 31, 32, 33, 34, 35, 36, 37, 38, 39, 40, 41, 42, 43, 44, 45], [], []) else none
def t4_lp9 (P : Program) (fn : Func) (N n : Nat) (x0 : D) (v6 : Int) : Option AV := evLoop (preL t4_h (sub [1, 1, 1, 1, 1, 1, 0, 1, 0, 0] (bodyOf fn))) (evCode P (envH SQ []) t4_h N (sub [1, 1, 1, 1, 1, 1, 0, 1, 0, 0] (bodyOf fn))) n ⟨[dead, dead, dead, dead, dat 22 (.slice (closeT x0) []), dat 22 (.slice (allT (setT x0)) []), dat 3 (.lit (.int .i64 v6)), dead, dead, dead, dead, dead, dead, dead, dead, dead, dead, dead, dead, dead, dead, dead, dead, dead, dead, dead, dead, dead, dead, dead, dead, dead, dead, dead, dead, dead, dead, dead, dead, dead, dead, dead, dead, dead, dead, dead], lookB []⟩ (blockK 0 (seqC P (envH SQ []) t4_h N (sub [1, 1, 1, 1, 1, 1, 1] (bodyOf fn)) (finK P fn) ))
theorem t4_lp9_step  (N n : Nat) (x0 : D) (v6 : Int) : t4_lp9 Tryd.prog Tryd.f4 N (n + 1) x0 v6 =
 bif decide (v6 < ((allT (setT x0)).length : Int)) then
  bif (decide (0 <= v6) && decide (v6 < ((allT (setT x0)).length : Int))) then
   bif (closeT x0).all (okT 130) then
    bif (!(hasL (closeT x0) ((allT (setT x0)).getD (v6).toNat .nil))) then
     some (dat 4 (.lit (.bool false)))
    else t4_lp9 Tryd.prog Tryd.f4 N n x0 (IntKind.wrap .i64 (v6 + 1))
   else none
  else none
 else some (dat 4 (.lit (.bool true))) := by kernel_rfl
theorem t4 (N : Nat) (x0 : D) : evFn Tryd.prog (envH SQ []) t4_h N Tryd.f4 [dat 24 x0] =
 bif (decide (0 <= 100) && decide (100 < ((101 : Nat) : Int)) && decide (101 <= 101)) then
  bif ((decide ((szK 101 x0 100) > 100)) == false) then
   bif (!(mayT x0)) then
    some (dat 4 (.lit (.bool true)))
   else bif (((closeT x0).length : Int) != ((allT (setT x0)).length : Int)) then
     some (dat 4 (.lit (.bool false)))
    else t4_lp9 Tryd.prog Tryd.f4 N N x0 0
  else some (dat 4 (.lit (.bool true)))
 else none := by kernel_rfl

end X
end
section
namespace X
open Go.Ev
set_option linter.unusedVariables false
set_option linter.unusedSimpArgs false
set_option maxRecDepth 10000

theorem k4 : FnOK Tryd.prog 4 Tryd.f4 := ⟨Tryd.func4, rfl, by kernel_rfl⟩
theorem one_ok {s : Int} (h1 : 1 <= s) (h2 : s <= 15) {d : D} (h : d ∈ allT s) : okT 130 d = true := by
 have := (allT_one h1 h2 h).2.2.1
 unfold smT smK at this
 rw [Bool.and_eq_true] at this
 exact this.1
/-- What is come to of a tree that may be. -/
theorem close_of {n : Nat} {x : D} (hty : Ty Tryd.prog n 24 x) (h : mayT x = true) :
  x ∈ allT (setT x) /\ (∀ t, t ∈ closeT x ↔ t ∈ allT (setT x)) /\ (closeT x).length = (allT (setT x)).length /\ (closeT x)[0]? = some x /\ (closeT x).all (okT 130) = true := by
 obtain ⟨h1, h2⟩ := may_in h
 have hmem := may_mem hty h
 have hc : closeT x = closeK 130 0 [x] [textT x] := by unfold closeT; rw [h, cond_true, copy_same h1 h2 hmem]
 obtain ⟨q1, q2, q3⟩ := close_all h1 h2 hmem
 rw [hc]
 exact ⟨hmem, q1, q2, q3, List.all_eq_true.2 fun d hd => one_ok h1 h2 ((q1 d).1 hd)⟩
theorem has_of {l : List D} {t : D} (h : t ∈ l) (hok : okT 130 t = true) : hasL l t = true := List.any_eq_true.2 ⟨t, h, eqK_refl 130 t hok⟩
theorem all_loop {N : Nat} {x0 : D} (hl : (allT (setT x0)).length <= maxLen) (hok : (closeT x0).all (okT 130) = true) (hall : ∀ t ∈ allT (setT x0), hasL (closeT x0) t = true) : ∀ (n i : Nat), i <= (allT (setT x0)).length -> (allT (setT x0)).length - i < n ->
  t4_lp9 Tryd.prog Tryd.f4 N n x0 (i : Int) = some (dat 4 (.lit (.bool true)))
 | 0, i, _, h => by omega
 | n + 1, i, hi, h => by
  rw [t4_lp9_step]
  by_cases hlt : i < (allT (setT x0)).length
  ·have h1 : decide ((i : Int) < ((allT (setT x0)).length : Int)) = true := by simpa using hlt
   rw [idx_ok hlt, h1, cond_true, cond_true, Int.toNat_natCast, getD_lt hlt, hok, cond_true, hall _ (List.getElem_mem hlt), Bool.not_true, cond_false, wrap_step hl hlt]
   exact all_loop hl hok hall n (i + 1) (by omega) (by omega)
  ·have h1 : decide ((i : Int) < ((allT (setT x0)).length : Int)) = false := by simpa using hlt
   rw [h1, cond_false]
theorem pre1h : (decide (0 <= 100) && decide (100 < ((101 : Nat) : Int)) && decide (101 <= 101)) = true := rfl
theorem law4 {n : Nat} (x0 : D) (hty : Ty Tryd.prog n 24 x0) : CallOK Tryd.prog 4 [dat 24 x0] (dat 4 (.lit (.bool true))) := by
 refine fn_ok (t := 4) (d := .lit (.bool true)) hm envSQ k4 ((t4 121 x0).trans ?_)
 rw [m4]
 show _ = some (dat 4 (.lit (.bool true)))
 rw [pre1h, cond_true]
 cases hsz : decide (szK 101 x0 100 > 100) with
 | true => rfl
 | false =>
  rw [show (false == false) = true from rfl, cond_true]
  cases hmay : mayT x0 with
  | false => rfl
  | true =>
   obtain ⟨h1, h2⟩ := may_in hmay
   obtain ⟨q0, q1, q2, q3, q4⟩ := close_of hty hmay
   have hl := allT_len h1 h2
   have hne : (((closeT x0).length : Int) != ((allT (setT x0)).length : Int)) = false := by rw [q2]; simp
   have := all_loop (N := 121) (x0 := x0) (by unfold maxLen; omega) q4 (fun t ht => has_of ((q1 t).2 ht) (one_ok h1 h2 ht)) 121 0 (Nat.zero_le _) (by omega)
   rw [Bool.not_true, cond_false, hne, cond_false]
   exact this
end X
end
end Go.Proofs.YtdacippnonhahaaDoor
