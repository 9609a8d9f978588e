/- Trees of functions, and lemmas. Nothing here is trusted. -/
import Derived.Test.YtpceahbengfjeaaGreatDoorZ34
import Derived.Test.YtpceahbengfjeaaGreatDoorZ29
namespace Go.Proofs.YtpceahbengfjeaaGreatDoor
section
open Go.Ev
set_option linter.unusedVariables false
/- roadbook/bag.Keep -/
def yU : ay := fun i => if i = 3 then some ([0, 3, 6, 7, 8, 12, 13, 14, 15, 16, 17, 18, 19, 20, 21, 22, 23, 24, 25, 26, 27, 28, 29, 30], [2, 4, 5, 24, 900000], []) else none
def nG (P : Program) (fn : Func) (N n : Nat) (x0 : D) (x1 : D) (v11 : Int) (b5 : List D) : Option AV := aN (preL yU (sub [1, 1, 0, 1, 0, 0] (ag fn))) (az P (ak B9 [] [] []) yU N (sub [1, 1, 0, 1, 0, 0] (ag fn))) n ⟨[dead, dat 29 x1, bxp 2 37, dead, bxp 4 37, bxp 5 35, dead, dead, dead, dat 35 (af x0 1), dat 3 (.lit (.int .i64 ((ae (af x0 1)).length : Int))), dat 3 (.lit (.int .i64 v11)), dead, dead, dead, dead, dead, dead, dead, dead, dead, dead, dead, dead, dead, dead, dead, dead, dead, dead, dead], aZ [(2, some ⟨37, x0, 0, none⟩), (4, some ⟨37, .agg [.slice [] [], .slice [] []], 0, none⟩), (5, some ⟨35, .slice b5 [], 1, none⟩), (24, none), (900000, none)]⟩ (aG 0 (cZ P (ak B9 [] [] []) yU N (sub [1, 1, 1] (ag fn)) (dJ P fn) ))
theorem uw  (N n : Nat) (x0 : D) (x1 : D) (v11 : Int) (b5 : List D) : nG Tryz.prog Tryz.f31 N (n + 1) x0 x1 v11 b5 =
 bif decide (v11 < ((ae (af x0 1)).length : Int)) then
  bif (decide (0 <= v11) && decide (v11 < ((ae (af x0 1)).length : Int))) then
   bif nM (ae x1) (ae (af x0 0)) (ae ((ae (af x0 1)).getD (v11).toNat .nil)) then
    bif decide ((ae ((ae (af x0 1)).getD (v11).toNat .nil)).length <= 2147483648) then
     bif decide ((b5).length + 1 <= 2147483648) then
      nG Tryz.prog Tryz.f31 N n x0 x1 (IntKind.wrap .i64 (v11 + 1)) (b5 ++ [(ae (af x0 1)).getD (v11).toNat .nil])
     else none
    else none
   else nG Tryz.prog Tryz.f31 N n x0 x1 (IntKind.wrap .i64 (v11 + 1)) b5
  else none
 else bif decide ((ae (af x0 0)).length <= 2147483648) then
   some (dat 37 (.agg [af x0 0, .slice b5 []]))
  else none := by kernel_rfl
theorem t31 (N : Nat) (x0 : D) (x1 : D) : aU Tryz.prog (ak B9 [] [] []) yU N Tryz.f31 [dat 37 x0, dat 29 x1] =
 nG Tryz.prog Tryz.f31 N N x0 x1 0 [] := by kernel_rfl
/- roadbook/bag.Pick -/
def Hz : ay := fun i => if i = 5 then some ([0, 3, 5, 7, 8, 9, 10, 11, 12, 13, 14, 15, 16, 17, 18, 19, 20, 21, 22, 23, 24, 25, 26, 27, 28, 29, 30, 34, 35, 36, 37, 38, 39, 40, 41, 42, 43, 44, 45, 46, 47, 48, 49, 50, 51, 52, 53, 54, 55, 56, 57, 58, 59, 60, 61, 62, 63, 64, 65, 66, 67, 68], [2, 4, 30], []) else if i = 11 then some ([0, 2, 3, 5, 7, 8, 10, 11, 12, 13, 14, 15, 16, 17, 18, 19, 20, 21, 22, 23, 24, 25, 26, 27, 28, 29, 30, 31, 32, 33, 34, 35, 36, 37, 38, 39, 40, 41, 42, 43, 44, 45, 46, 47, 48, 49, 50, 54, 55, 56, 57, 58, 59, 60, 61, 62, 63, 64, 65, 66, 67, 68], [4, 49], [6]) else none
def Eu (P : Program) (fn : Func) (N n : Nat) (x0 : D) (x1 : D) (v33 : Int) (b30 : List D) : Option AV := aN (preL Hz (sub [1, 1, 1, 0, 1, 0, 0] (ag fn))) (az P (ak B9 [] [] []) Hz N (sub [1, 1, 1, 0, 1, 0, 0] (ag fn))) n ⟨[dead, dat 28 x1, bxp 2 37, dead, bxp 4 37, dead, bxp 30 28, dead, dead, dead, dead, dead, dead, dead, dead, dead, dead, dead, dead, dead, dead, dead, dead, dead, dead, dead, dead, dead, dead, dead, dead, dat 28 x1, dat 3 (.lit (.int .i64 ((ae x1).length : Int))), dat 3 (.lit (.int .i64 v33)), dead, dead, dead, dead, dead, dead, dead, dead, dead, dead, dead, dead, dead, dead, dead, dead, dead, dead, dead, dead, dead, dead, dead, dead, dead, dead, dead, dead, dead, dead, dead, dead, dead, dead, dead], aZ [(2, some ⟨37, x0, 0, none⟩), (4, some ⟨37, .agg [.slice [] [], .slice [] []], 0, none⟩), (30, some ⟨28, .slice b30 [], 2, none⟩)]⟩ (aG 0 (cZ P (ak B9 [] [] []) Hz N (sub [1, 1, 1, 1] (ag fn)) (dJ P fn) ))
def zh (P : Program) (fn : Func) (N n : Nat) (x0 : D) (x1 : D) (v33 : Int) (b30 : List D) (m0 : Nat) (v53 : Int) (b49 : List D) : Option AV := aN (preL Hz (sub [1, 1, 1, 1, 1, 0, 1, 0, 0] (ag fn))) (az P (ak B9 [] [] []) Hz N (sub [1, 1, 1, 1, 1, 0, 1, 0, 0] (ag fn))) n ⟨[dead, dat 28 x1, dead, dead, bxp 4 37, dead, dat 28 (.slice b30 []), dead, dead, bxp 49 35, dead, dead, dead, dead, dead, dead, dead, dead, dead, dead, dead, dead, dead, dead, dead, dead, dead, dead, dead, dead, dead, dead, dead, dead, dead, dead, dead, dead, dead, dead, dead, dead, dead, dead, dead, dead, dead, dead, dead, dead, dead, dat 35 (af x0 1), dat 3 (.lit (.int .i64 ((ae (af x0 1)).length : Int))), dat 3 (.lit (.int .i64 v53)), dead, dead, dead, dead, dead, dead, dead, dead, dead, dead, dead, dead, dead, dead, dead], aZ [(4, some ⟨37, .agg [.slice [] [], .slice [] []], 0, none⟩), (49, some ⟨35, .slice b49 [], 2, none⟩)]⟩ (aG 2 (cZ P (ak B9 [] [] []) Hz N (sub [1, 1, 1, 1, 1, 1] (ag fn)) (dJ P fn) ))
theorem Ii  (N n : Nat) (x0 : D) (x1 : D) (v33 : Int) (b30 : List D) (m0 : Nat) (v53 : Int) (b49 : List D) : zh Tryz.prog Tryz.f27 N (n + 1) x0 x1 v33 b30 m0 v53 b49 =
 bif decide (v53 < ((ae (af x0 1)).length : Int)) then
  bif (decide (0 <= v53) && decide (v53 < ((ae (af x0 1)).length : Int))) then
   bif pX (ae ((ae (af x0 1)).getD (v53).toNat .nil)) b30 then
    bif (decide (0 <= v53) && decide (v53 < (b49.length : Int))) then
     zh Tryz.prog Tryz.f27 N n x0 x1 v33 b30 m0 (IntKind.wrap .i64 (v53 + 1)) (b49.set (v53).toNat (.slice (jZ (ae ((ae (af x0 1)).getD (v53).toNat .nil)) b30) []))
    else none
   else none
  else none
 else bif decide ((ae x1).length <= 2147483648) then
   some (aL [37, 4] (.agg [.agg [x1, .slice b49 []], .lit (.bool true)]))
  else none := by kernel_rfl
theorem LY  (N n : Nat) (x0 : D) (x1 : D) (v33 : Int) (b30 : List D) : Eu Tryz.prog Tryz.f27 N (n + 1) x0 x1 v33 b30 =
 bif decide (v33 < ((ae x1).length : Int)) then
  bif (decide (0 <= v33) && decide (v33 < ((ae x1).length : Int))) then
   bif (decide (0 <= v33) && decide (v33 < (b30.length : Int))) then
    Eu Tryz.prog Tryz.f27 N n x0 x1 (IntKind.wrap .i64 (v33 + 1)) (b30.set (v33).toNat (.lit (.int .i64 (Lib.idxOf ((ae (af x0 0)).map intD) (intD ((ae x1).getD (v33).toNat .nil))))))
   else none
  else none
 else bif (decide (0 <= ((ae (af x0 1)).length : Int)) && decide (((ae (af x0 1)).length : Int) <= 2147483648)) then
   zh Tryz.prog Tryz.f27 N N x0 x1 v33 b30 n 0 (List.replicate (((ae (af x0 1)).length : Int)).toNat (.slice [] [] : D))
  else none := by kernel_rfl
theorem t27 (N : Nat) (x0 : D) (x1 : D) : aU Tryz.prog (ak B9 [] [] []) Hz N Tryz.f27 [dat 37 x0, dat 28 x1] =
 bif ((!(bn x0)) == false) then
  bif ((!(dm (ae x1))) == false) then
   bif (!(gG (ae (af x0 0)) (ae x1))) then
    some (aL [37, 4] (.agg [.agg [.slice [] [], .slice [] []], .lit (.bool false)]))
   else bif (decide (0 <= ((ae x1).length : Int)) && decide (((ae x1).length : Int) <= 2147483648)) then
     Eu Tryz.prog Tryz.f27 N N x0 x1 0 (List.replicate (((ae x1).length : Int)).toNat (.lit (.int .i64 0) : D))
    else none
  else some (aL [37, 4] (.agg [.agg [.slice [] [], .slice [] []], .lit (.bool false)]))
 else some (aL [37, 4] (.agg [.agg [.slice [] [], .slice [] []], .lit (.bool false)])) := by kernel_rfl
end
section
open Go.Ev
set_option linter.unusedVariables false
/- roadbook/roadbookref03.Place -/
def ahW : ay := fun i => if i = 2 then some ([2, 3, 4, 6, 7, 8, 9, 10, 11, 12, 13, 14, 15, 16, 17, 18], [], []) else none
def Gt (P : Program) (fn : Func) (N n : Nat) (x0 : D) (x1 : Int) (v5 : Int) : Option AV := aN (preL ahW (sub [1, 0, 1, 0, 0] (ag fn))) (az P (ak B8 [] [] []) ahW N (sub [1, 0, 1, 0, 0] (ag fn))) n ⟨[dat 28 x0, dat 3 (.lit (.int .i64 x1)), dead, dead, dead, dat 3 (.lit (.int .i64 v5)), dead, dead, dead, dead, dead, dead, dead, dead, dead, dead, dead, dead, dead], aZ []⟩ (aG 0 (cZ P (ak B8 [] [] []) ahW N (sub [1, 1] (ag fn)) (dJ P fn) ))
theorem Iq  (N n : Nat) (x0 : D) (x1 : Int) (v5 : Int) : Gt Tryz.prog Tryz.f109 N (n + 1) x0 x1 v5 =
 bif decide (v5 < ((ae x0).length : Int)) then
  bif (decide (0 <= v5) && decide (v5 < ((ae x0).length : Int))) then
   bif ((intD ((ae x0).getD (v5).toNat .nil)) == x1) then
    some (dat 3 (.lit (.int .i64 v5)))
   else Gt Tryz.prog Tryz.f109 N n x0 x1 (IntKind.wrap .i64 (v5 + 1))
  else none
 else some (dat 3 (.lit (.int .i64 (-1)))) := by kernel_rfl
/- roadbook/bag.allKeep -/
def RX : ay := fun i => if i = 2 then some ([0, 3, 4, 5, 6, 7, 8, 12, 13, 14, 15, 16, 17, 18, 19, 20], [], []) else none
def zN (P : Program) (fn : Func) (N n : Nat) (x0 : D) (x1 : D) (x2 : D) (v11 : Int) : Option AV := aN (preL RX (sub [1, 0, 1, 0, 0] (ag fn))) (az P (ak B8 [] [] []) RX N (sub [1, 0, 1, 0, 0] (ag fn))) n ⟨[dead, dat 28 x1, dat 67 x2, dead, dead, dead, dead, dead, dead, dat 29 x0, dat 3 (.lit (.int .i64 ((ae x0).length : Int))), dat 3 (.lit (.int .i64 v11)), dead, dead, dead, dead, dead, dead, dead, dead, dead], aZ []⟩ (aG 0 (cZ P (ak B8 [] [] []) RX N (sub [1, 1] (ag fn)) (dJ P fn) ))
theorem Ar  (N n : Nat) (x0 : D) (x1 : D) (x2 : D) (v11 : Int) : zN Tryz.prog Tryz.f81 N (n + 1) x0 x1 x2 v11 =
 bif decide (v11 < ((ae x0).length : Int)) then
  bif (decide (0 <= v11) && decide (v11 < ((ae x0).length : Int))) then
   bif (!(BF ((ae x0).getD (v11).toNat .nil) (ae x1) (ae x2))) then
    some (dat 4 (.lit (.bool false)))
   else zN Tryz.prog Tryz.f81 N n x0 x1 x2 (IntKind.wrap .i64 (v11 + 1))
  else none
 else some (dat 4 (.lit (.bool true))) := by kernel_rfl
theorem t81 (N : Nat) (x0 : D) (x1 : D) (x2 : D) : aU Tryz.prog (ak B8 [] [] []) RX N Tryz.f81 [dat 29 x0, dat 28 x1, dat 67 x2] =
 zN Tryz.prog Tryz.f81 N N x0 x1 x2 0 := by kernel_rfl
/- roadbook/bag.picked -/
def SS : ay := fun i => if i = 3 then some ([1, 2, 3, 4, 6, 7, 8, 9, 10, 14, 15, 16, 17, 18, 19, 20, 21, 22, 23, 24, 25, 26], [10], []) else none
def EL (P : Program) (fn : Func) (N n : Nat) (x0 : D) (x1 : D) (v13 : Int) (b10 : List D) : Option AV := aN (preL SS (sub [1, 1, 0, 1, 0, 0] (ag fn))) (az P (ak B8 [] [] []) SS N (sub [1, 1, 0, 1, 0, 0] (ag fn))) n ⟨[dat 67 x0, dead, dead, dead, dead, bxp 10 67, dead, dead, dead, dead, dead, dat 28 x1, dat 3 (.lit (.int .i64 ((ae x1).length : Int))), dat 3 (.lit (.int .i64 v13)), dead, dead, dead, dead, dead, dead, dead, dead, dead, dead, dead, dead, dead], aZ [(10, some ⟨67, .slice b10 [], 2, none⟩)]⟩ (aG 0 (cZ P (ak B8 [] [] []) SS N (sub [1, 1, 1] (ag fn)) (dJ P fn) ))
theorem KF  (N n : Nat) (x0 : D) (x1 : D) (v13 : Int) (b10 : List D) : EL Tryz.prog Tryz.f75 N (n + 1) x0 x1 v13 b10 =
 bif decide (v13 < ((ae x1).length : Int)) then
  bif (decide (0 <= v13) && decide (v13 < ((ae x1).length : Int))) then
   bif (decide (0 <= (intD ((ae x1).getD (v13).toNat .nil))) && decide ((intD ((ae x1).getD (v13).toNat .nil)) < ((ae x0).length : Int))) then
    bif (decide (0 <= v13) && decide (v13 < (b10.length : Int))) then
     EL Tryz.prog Tryz.f75 N n x0 x1 (IntKind.wrap .i64 (v13 + 1)) (b10.set (v13).toNat ((ae x0).getD (intD ((ae x1).getD (v13).toNat .nil)).toNat .nil))
    else none
   else none
  else none
 else some (dat 67 (.slice b10 [])) := by kernel_rfl
theorem t75 (N : Nat) (x0 : D) (x1 : D) : aU Tryz.prog (ak B8 [] [] []) SS N Tryz.f75 [dat 67 x0, dat 28 x1] =
 bif (decide (0 <= ((ae x1).length : Int)) && decide (((ae x1).length : Int) <= 2147483648)) then
  EL Tryz.prog Tryz.f75 N N x0 x1 0 (List.replicate (((ae x1).length : Int)).toNat (.agg [.lit (.int .i64 0), .lit (.int .i64 0)] : D))
 else none := by kernel_rfl
end
section
open Go.Ev
set_option linter.unusedVariables false
set_option maxRecDepth 10000
set_option linter.unusedSimpArgs false
theorem PS {N : Nat} {x0 : D} {x1 : Int} (hl : (ae x0).length <= maxLen) : ∀ (n i : Nat), i <= (ae x0).length -> (ae x0).length - i < n ->
  Gt Tryz.prog Tryz.f109 N n x0 x1 (i : Int) = some (dat 3 (.lit (.int .i64 (Lib.idxFrom (((ae x0).drop i).map intD) x1 i))))
 | 0, i, _, h => by omega
 | n + 1, i, hi, h => by
  rw [Iq]
  by_cases hlt : i < (ae x0).length
  ·rw [bG hlt, eY hlt, cond_true, cond_true, List.drop_eq_getElem_cons hlt, List.map_cons, Int.toNat_natCast, dA hlt, Lib.idxFrom, fE hl hlt, PS hl n (i + 1) (by omega) (by omega)]
   by_cases he : intD (ae x0)[i] = x1
   ·have : (intD (ae x0)[i] == x1) = true := by simp [he]
    rw [this, cond_true, if_pos he]
   ·have : (intD (ae x0)[i] == x1) = false := by rw [beq_eq_false_iff_ne]; exact he
    rw [this, cond_false, if_neg he]
  ·rw [fB hlt, cond_false, List.drop_of_length_le (by omega)]
   rfl
theorem nX (x : D) : bD Tryz.prog 29 x = x := by kernel_rfl
theorem afZ {n : Nat} {x : D} (hx : Ty Tryz.prog n 29 x) : (ae x).length <= maxLen := by
 cases n with
 | zero => exact hx.elim
 | succ n =>
  unfold Ty at hx
  rw [X.u24] at hx
  split at hx <;> try (exact hx.elim)
  all_goals try (simp_all; done)
  rename_i e es sp heq
  cases heq
  obtain ⟨rfl, hl, _⟩ := hx
  exact hl
theorem afq {N : Nat} {x0 x1 x2 : D} (hl : (ae x0).length <= maxLen) (hN : (ae x0).length < N) : zN Tryz.prog Tryz.f81 N N x0 x1 x2 0 = some (dat 4 (.lit (.bool (nM (ae x0) (ae x1) (ae x2))))) := by
 have := jl (fun n v => zN Tryz.prog Tryz.f81 N n x0 x1 x2 v) (ae x0).length (fun i => !BF ((ae x0).getD i .nil) (ae x1) (ae x2)) (some (dat 4 (.lit (.bool false)))) (some (dat 4 (.lit (.bool true))))
  (fun n i hi => by rw [Ar, bG hi, eY hi, cond_true, cond_true, Int.toNat_natCast, fE hl hi])
  (fun n => by rw [Ar, fB (by omega), cond_false]) N 0 (Nat.zero_le _) (by omega)
 refine this.trans ?_
 rw [Nat.sub_zero, rO (ae x0) (fun e => !BF e (ae x1) (ae x2))]
 have e : nM (ae x0) (ae x1) (ae x2) = !((ae x0).any fun e => !BF e (ae x1) (ae x2)) := by
  unfold nM
  rw [List.all_eq_not_any_not]
 rw [e]
 cases (ae x0).any _ <;> rfl
theorem k81 : FnOK Tryz.prog 81 Tryz.f81 := ⟨Tryz.func81, rfl, by kernel_rfl⟩
theorem c81 : ∀ args d, e81.2.2.2 args = some d -> CallOK Tryz.prog 81 args (aj Tryz.prog 4 d) :=
 O7 k81 fun x y z d h ⟨_, hx⟩ _ _ => by
  cases h
  rw [nX, nI, n28]
  refine aI hm Ym k81 ((t81 ((ae x).length + 1) x y z).trans ?_)
  rw [m4]
  exact afq (afZ hx) (by omega)
theorem DU {N : Nat} {x0 x1 : D} (hb : (ae x1).length <= 2147483648) (hin : ∀ q ∈ ae x1, 0 <= intD q /\ intD q < ((ae x0).length : Int)) : ∀ (n i : Nat) (tl : List D), i <= (ae x1).length -> (ae x1).length - i < n -> tl.length = (ae x1).length - i ->
  EL Tryz.prog Tryz.f75 N n x0 x1 (i : Int) (((ae x1).take i).map (fun q => (ae x0).getD (intD q).toNat .nil) ++ tl) = some (dat 67 (.slice (jZ (ae x0) (ae x1)) []))
 | 0, i, tl, _, h, _ => by omega
 | n + 1, i, tl, hi, h, ht => by
  rw [KF]
  by_cases hlt : i < (ae x1).length
  ·have hl2 : (((ae x1).take i).map (fun q => (ae x0).getD (intD q).toNat .nil) ++ tl).length = (ae x1).length := by simp; omega
   have hc : (decide (0 <= intD (ae x1)[i]) && decide (intD (ae x1)[i] < ((ae x0).length : Int))) = true := by
    simp only [Bool.and_eq_true, decide_eq_true_eq]; exact hin _ (List.getElem_mem hlt)
   have w1 : IntKind.wrap .i64 ((i : Int) + 1) = ((i + 1 : Nat) : Int) := by rw [aH (l_in (by omega) (by omega))]; omega
   rw [hl2, bG hlt, eY hlt, cond_true, cond_true, Int.toNat_natCast, dA hlt, hc, cond_true, cond_true, w1, Gw (fun q => (ae x0).getD (intD q).toNat .nil) hlt ht]
   exact DU hb hin n (i + 1) (tl.drop 1) (by omega) (by omega) (by simp; omega)
  ·have hi2 : i = (ae x1).length := by omega
   have htl : tl = [] := List.length_eq_zero_iff.1 (by omega)
   rw [fB hlt, cond_false, htl, hi2, List.take_length, List.append_nil]
   rfl
theorem k75 : FnOK Tryz.prog 75 Tryz.f75 := ⟨Tryz.func75, rfl, by kernel_rfl⟩
theorem c75 : ∀ args d, e75.2.2.1 args = true -> e75.2.2.2 args = some d -> CallOK Tryz.prog 75 args (aj Tryz.prog 67 d) :=
 qG k75 fun x y d hq h _ _ => by
  cases h
  rw [n28, nI]
  simp only [pX, Bool.and_eq_true, decide_eq_true_eq, List.all_eq_true] at hq
  refine aI hm Ym k75 ((t75 ((ae y).length + 1) x y).trans ?_)
  rw [m28]
  have c1 : (decide (0 <= ((ae y).length : Int)) && decide (((ae y).length : Int) <= 2147483648)) = true := by
   have := hq.1
   simp only [Bool.and_eq_true, decide_eq_true_eq]; omega
  rw [c1, cond_true, Int.toNat_natCast]
  exact DU (N := (ae y).length + 1) hq.1 hq.2 ((ae y).length + 1) 0 _ (Nat.zero_le _) (by omega) (by simp)
theorem aag : EnvOK Tryz.prog (ak B9 [] [] []) := ah (aO Ym c75) c81
end
section
open Go.Ev
set_option linter.unusedVariables false
set_option maxRecDepth 10000
set_option linter.unusedSimpArgs false
theorem BC {N : Nat} {cs rs : List D} {x1 : D} (hc : cs.length <= 2147483648) (hb : rs.length <= 2147483648) (hr : ∀ r ∈ rs, (ae r).length <= 2147483648) : ∀ (n i : Nat) (acc : List D), i <= rs.length -> rs.length - i < n -> acc.length <= i ->
  nG Tryz.prog Tryz.f31 N n (aX cs rs) x1 (i : Int) acc = some (dat 37 (aX cs (acc ++ jX (ae x1) cs (rs.drop i))))
 | 0, i, acc, _, h, _ => by omega
 | n + 1, i, acc, hi, h, ha => by
  rw [uw, show ae (af (aX cs rs) 1) = rs from rfl, show ae (af (aX cs rs) 0) = cs from rfl]
  by_cases hlt : i < rs.length
  ·have w1 : IntKind.wrap .i64 ((i : Int) + 1) = ((i + 1 : Nat) : Int) := by rw [aH (l_in (by omega) (by omega))]; omega
   have g1 : decide ((ae rs[i]).length <= 2147483648) = true := by rw [decide_eq_true_eq]; exact hr _ (List.getElem_mem hlt)
   have g2 : decide (acc.length + 1 <= 2147483648) = true := by rw [decide_eq_true_eq]; omega
   rw [bG hlt, eY hlt, cond_true, cond_true, Int.toNat_natCast, dA hlt, w1, g1, g2]
   simp only [cond_true]
   have hd : rs.drop i = rs[i] :: rs.drop (i + 1) := List.drop_eq_getElem_cons hlt
   cases hk : nM (ae x1) cs (ae rs[i]) with
   | true =>
    rw [cond_true, BC hc hb hr n (i + 1) (acc ++ [rs[i]]) (by omega) (by omega) (by simp; omega), hd]
    have : jX (ae x1) cs (rs[i] :: rs.drop (i + 1)) = rs[i] :: jX (ae x1) cs (rs.drop (i + 1)) := by
     unfold jX
     rw [List.filter_cons, if_pos hk]
    rw [this, List.append_assoc]
    rfl
   | false =>
    rw [cond_false, BC hc hb hr n (i + 1) acc (by omega) (by omega) (by omega), hd]
    have : jX (ae x1) cs (rs[i] :: rs.drop (i + 1)) = jX (ae x1) cs (rs.drop (i + 1)) := by
     unfold jX
     rw [List.filter_cons, if_neg (by rw [hk]; simp)]
    rw [this]
  ·have g1 : decide (cs.length <= 2147483648) = true := by rw [decide_eq_true_eq]; exact hc
   rw [fB hlt, cond_false, g1, cond_true, List.drop_of_length_le (by omega)]
   show _ = some (dat 37 (aX cs (acc ++ [])))
   rw [List.append_nil]
   rfl
theorem k31 : FnOK Tryz.prog 31 Tryz.f31 := ⟨Tryz.func31, rfl, by kernel_rfl⟩
theorem c31 : ∀ args d, e31.2.2.1 args = true -> e31.2.2.2 args = some d -> CallOK Tryz.prog 31 args (aj Tryz.prog 37 d) :=
 qG k31 fun x y d hq h ⟨_, hx⟩ _ => by
  cases h
  rw [nB, nX]
  obtain ⟨cs, rs, rfl, h1, h2, h3, h4⟩ := tyB hx
  simp only [iY, Bool.and_eq_true, decide_eq_true_eq, List.all_eq_true] at hq
  obtain ⟨⟨g1, g2⟩, g3⟩ := hq
  refine aI hm aag k31 ((t31 (rs.length + 1) (aX cs rs) y).trans ?_)
  rw [mB]
  exact BC (N := rs.length + 1) (cs := cs) (rs := rs) (x1 := y) g2 g1 g3 (rs.length + 1) 0 [] (Nat.zero_le _) (by omega) (by simp)
theorem Ny {N : Nat} {cs rs ps : List D} {x1 : D} {v33 : Int} {m0 : Nat} (hc : (ae x1).length <= 2147483648) (hb : rs.length <= 2147483648) (hr : ∀ r ∈ rs, pX (ae r) ps = true) : ∀ (n i : Nat) (tl : List D), i <= rs.length -> rs.length - i < n -> tl.length = rs.length - i ->
  zh Tryz.prog Tryz.f27 N n (aX cs rs) x1 v33 ps m0 (i : Int) ((rs.take i).map (fun r => (DataW.slice (jZ (ae r) ps) [] : D)) ++ tl) =
   some (aL [37, 4] (.agg [.agg [x1, .slice (rs.map fun r => .slice (jZ (ae r) ps) []) []], .lit (.bool true)]))
 | 0, i, tl, _, h, _ => by omega
 | n + 1, i, tl, hi, h, ht => by
  rw [Ii, show ae (af (aX cs rs) 1) = rs from rfl]
  by_cases hlt : i < rs.length
  ·have hl2 : ((rs.take i).map (fun r => (DataW.slice (jZ (ae r) ps) [] : D)) ++ tl).length = rs.length := by simp; omega
   have w1 : IntKind.wrap .i64 ((i : Int) + 1) = ((i + 1 : Nat) : Int) := by rw [aH (l_in (by omega) (by omega))]; omega
   rw [hl2, bG hlt, eY hlt, cond_true, cond_true, Int.toNat_natCast, dA hlt, hr _ (List.getElem_mem hlt), cond_true, cond_true, w1, Gw (fun r => (DataW.slice (jZ (ae r) ps) [] : D)) hlt ht]
   exact Ny hc hb hr n (i + 1) (tl.drop 1) (by omega) (by omega) (by simp; omega)
  ·have hi2 : i = rs.length := by omega
   have htl : tl = [] := List.length_eq_zero_iff.1 (by omega)
   have g1 : decide ((ae x1).length <= 2147483648) = true := by rw [decide_eq_true_eq]; exact hc
   rw [fB hlt, cond_false, g1, cond_true, htl, hi2, List.take_length, List.append_nil]
theorem Ru {N : Nat} {cs rs : List D} {x1 : D} (hN : rs.length < N) (hc : (ae x1).length <= 2147483648) (hb : rs.length <= 2147483648) (hr : ∀ r ∈ rs, pX (ae r) (uL (aX cs rs) (ae x1)) = true) : ∀ (n i : Nat) (tl : List D), i <= (ae x1).length -> (ae x1).length - i < n -> tl.length = (ae x1).length - i ->
  Eu Tryz.prog Tryz.f27 N n (aX cs rs) x1 (i : Int) (((ae x1).take i).map (fun c => fO (bC cs (intD c))) ++ tl) =
   some (aL [37, 4] (.agg [.agg [x1, .slice (rs.map fun r => .slice (jZ (ae r) (uL (aX cs rs) (ae x1))) []) []], .lit (.bool true)]))
 | 0, i, tl, _, h, _ => by omega
 | n + 1, i, tl, hi, h, ht => by
  rw [LY, show ae (af (aX cs rs) 1) = rs from rfl, show ae (af (aX cs rs) 0) = cs from rfl]
  by_cases hlt : i < (ae x1).length
  ·have hl2 : (((ae x1).take i).map (fun c => fO (bC cs (intD c))) ++ tl).length = (ae x1).length := by simp; omega
   have w1 : IntKind.wrap .i64 ((i : Int) + 1) = ((i + 1 : Nat) : Int) := by rw [aH (l_in (by omega) (by omega))]; omega
   have e1 : (DataW.lit (.int .i64 (Lib.idxOf (cs.map intD) (intD (ae x1)[i]))) : D) = (fun c => fO (bC cs (intD c))) (ae x1)[i] := rfl
   rw [hl2, bG hlt, eY hlt, cond_true, cond_true, cond_true, Int.toNat_natCast, dA hlt, w1, e1, Gw (fun c => fO (bC cs (intD c))) hlt ht]
   exact Ru hN hc hb hr n (i + 1) (tl.drop 1) (by omega) (by omega) (by simp; omega)
  ·have hi2 : i = (ae x1).length := by omega
   have htl : tl = [] := List.length_eq_zero_iff.1 (by omega)
   have g2 : (decide (0 <= (rs.length : Int)) && decide ((rs.length : Int) <= 2147483648)) = true := by simp only [Bool.and_eq_true, decide_eq_true_eq]; omega
   rw [fB hlt, cond_false, g2, cond_true, htl, hi2, List.take_length, List.append_nil, Int.toNat_natCast]
   exact Ny (N := N) (cs := cs) (rs := rs) (ps := uL (aX cs rs) (ae x1)) (x1 := x1) hc hb hr N 0 _ (Nat.zero_le _) (by omega) (by simp)
theorem k27 : FnOK Tryz.prog 27 Tryz.f27 := ⟨Tryz.func27, rfl, by kernel_rfl⟩
theorem c27 : ∀ args d, e27.2.2.2 args = some d -> CallOK Tryz.prog 27 args (aj Tryz.prog 43 d) :=
 gD k27 fun x y d h ⟨_, hx⟩ ⟨_, hy⟩ => by
  cases h
  rw [nB, nI]
  obtain ⟨cs, rs, rfl, h1, h2, h3, h4⟩ := tyB hx
  obtain ⟨ys, rfl, _, _⟩ := tyI hy
  refine aI hm aag k27 ((t27 (rs.length + ys.length + 1) (aX cs rs) (.slice ys [])).trans ?_)
  rw [Ua]
  have hys : ae (DataW.slice ys [] : D) = ys := rfl
  rw [show ae (af (aX cs rs) 0) = cs from rfl, hys]
  cases q1 : bn (aX cs rs) with
  | false =>
   have : gy (aX cs rs) ys = false := by unfold gy; rw [q1]; rfl
   rw [gI, this]; rfl
  | true =>
   cases q2 : dm ys with
   | false =>
    have : gy (aX cs rs) ys = false := by unfold gy; rw [q1, q2]; rfl
    rw [gI, this]; rfl
   | true =>
    cases q3 : gG cs ys with
    | false =>
     have : gy (aX cs rs) ys = false := by unfold gy; rw [q1, q2, show aQ (aX cs rs) = cs from rfl, q3]; rfl
     rw [gI, this]; rfl
    | true =>
     have hok : gy (aX cs rs) ys = true := by unfold gy; rw [q1, q2, show aQ (aX cs rs) = cs from rfl, q3]; rfl
     have hmb := AZ q1
     have h16 := pM q2
     have hn := hmb.n
     have g1 : (decide (0 <= (ys.length : Int)) && decide ((ys.length : Int) <= 2147483648)) = true := by simp only [Bool.and_eq_true, decide_eq_true_eq]; omega
     have hr : ∀ r ∈ rs, pX (ae r) (uL (aX cs rs) ys) = true := by
      intro r hr
      simp only [pX, Bool.and_eq_true, decide_eq_true_eq, List.all_eq_true, uL, List.length_map, List.mem_map]
      refine ⟨by omega, ?_⟩
      rintro q ⟨c, hc, rfl⟩
      simp only [gG, List.all_eq_true] at q3
      obtain ⟨a, b⟩ := Ha (q3 _ (List.mem_map_of_mem hc))
      have hl := hmb.l r hr
      show 0 <= bC cs (intD c) /\ bC cs (intD c) < ((ae r).length : Int)
      omega
     rw [g1, gI, hok]
     have key := Ru (N := rs.length + ys.length + 1) (cs := cs) (rs := rs) (x1 := .slice ys []) (by omega) (by rw [hys]; omega) (by omega) hr (rs.length + ys.length + 1) 0 (List.replicate ys.length (.lit (.int .i64 0))) (Nat.zero_le _) (by rw [hys]; omega) (by rw [hys]; simp)
     have e1 : ((ys.length : Int)).toNat = ys.length := Int.toNat_natCast _
     rw [e1]
     exact key
end
section
namespace X
open Go.Ev
set_option linter.unusedVariables false
set_option linter.unusedSimpArgs false
abbrev UP : Tab := U9
theorem JB : EnvOK Tryz.prog (bT UP []) := aem
end X
end
section
namespace X
open Go.Ev
set_option linter.unusedVariables false
/- roadbook/data.below -/
def Qx : ay := fun _ =>  none
theorem t124 (N : Nat) (x0 : Int) (x1 : Int) : aU Tryz.prog (ak UP [] [] []) Qx N Tryz.f124 [dat 3 (.lit (.int .i64 x0)), dat 3 (.lit (.int .i64 x1))] =
 bif ((decide (x0 >= 0)) == true) then
  some (dat 4 (.lit (.bool (decide (x0 < x1)))))
 else some (dat 4 (.lit (.bool false))) := by kernel_rfl
/- roadbook/query.below -/
def aaK : ay := fun _ =>  none
theorem ahl (N : Nat) (x0 : Int) (x1 : Int) : aU Tryz.prog (ak UP [] [] []) aaK N Tryz.f128 [dat 3 (.lit (.int .i64 x0)), dat 3 (.lit (.int .i64 x1))] =
 bif ((decide (x0 >= 0)) == true) then
  some (dat 4 (.lit (.bool (decide (x0 < x1)))))
 else some (dat 4 (.lit (.bool false))) := by kernel_rfl
/- roadbook/data.orZero -/
def PL : ay := fun _ =>  none
theorem t127 (N : Nat) (x0 : D) : aU Tryz.prog (ak UP [] [] []) PL N Tryz.f127 [dat 111 x0] =
 bif ((decide ((intD (af x0 0)) < 1)) == false) then
  bif ((decide ((intD (af x0 0)) > 4)) == false) then
   bif ((decide ((intD (af x0 1)) < 1)) == false) then
    bif decide ((intD (af x0 1)) > 1000000) then
     some (dat 111 (.agg [.lit (.int .i64 0), .lit (.int .i64 0)]))
    else some (dat 111 x0)
   else some (dat 111 (.agg [.lit (.int .i64 0), .lit (.int .i64 0)]))
  else some (dat 111 (.agg [.lit (.int .i64 0), .lit (.int .i64 0)]))
 else some (dat 111 (.agg [.lit (.int .i64 0), .lit (.int .i64 0)])) := by kernel_rfl
/- roadbook/roadbooklaw04.Two -/
def VN : ay := fun _ =>  none
theorem t34 (N : Nat)  : aU Tryz.prog (ak UP [] [] []) VN N Tryz.f34 [] =
 some (aL [24, 27] (.agg [.agg [.slice [.agg [.lit (.int .i64 2), .lit (.int .i64 100)], .agg [.lit (.int .i64 1), .lit (.int .i64 10)]] []], .agg [.slice [.slice [.slice [.agg [.lit (.int .i64 0), .lit (.int .i64 1)], .agg [.lit (.int .i64 0), .lit (.int .i64 2)]] [], .slice [.agg [.lit (.int .i64 0), .lit (.int .i64 3)], .agg [.lit (.int .i64 0), .lit (.int .i64 4)]] []] [], .slice [.slice [.agg [.lit (.int .i64 0), .lit (.int .i64 4)]] []] []] []]])) := by kernel_rfl
/- slices.Contains[[]int,int] -/
def QF : ay := fun _ =>  none
theorem acv (N : Nat) (x0 : D) (x1 : Int) : aU Tryz.prog (ak UP [] [] []) QF N Tryz.f104 [dat 28 x0, dat 3 (.lit (.int .i64 x1))] =
 some (dat 4 (.lit (.bool (decide ((Lib.idxOf ((ae x0).map intD) x1) >= 0))))) := by kernel_rfl
/- roadbook/query.alone -/
/- (roadbook/query.occs).has -/
/- (roadbook/query.occs).has -/
/- roadbook/roadbookref05.Bit -/
/- roadbook/roadbooklaw05.few -/
end X
end
section
namespace X
open Go.Ev
set_option linter.unusedVariables false
set_option maxRecDepth 10000
set_option linter.unusedSimpArgs false
theorem ZB (x : D) : bD Tryz.prog 111 x = x := by kernel_rfl
theorem tX (x : D) : bD Tryz.prog 24 x = x := by kernel_rfl
theorem xX (x : D) : bD Tryz.prog 31 x = x := by kernel_rfl
theorem acf (x : D) : aj Tryz.prog 111 x = dat 111 x := by kernel_rfl
theorem acI (x : D) : aj Tryz.prog 69 x = aL [24, 27] x := by kernel_rfl
theorem aaV (x : D) : aj Tryz.prog 175 x = aL [3, 3, 4] x := by kernel_rfl
theorem WY : Tryz.prog.underlying 22 = some (.slice 111) := by kernel_rfl
theorem aaO : Tryz.prog.underlying 29 = some (.slice 61) := by kernel_rfl
theorem aaA : ∃ f g : Field, Tryz.prog.underlying 111 = some (.struct #[f, g]) /\ f.type = 3 /\ g.type = 3 := ⟨_, _, Tryz.underlying111, rfl, rfl⟩
theorem acx : ∃ f : Field, Tryz.prog.underlying 24 = some (.struct #[f]) /\ f.type = 22 := ⟨_, Tryz.underlying24, rfl⟩
theorem af1 : ∃ f0 f1 f2 f3 f4 f5 : Field, Tryz.prog.underlying 31 = some (.struct #[f0, f1, f2, f3, f4, f5]) /\ f0.type = 28 /\ f1.type = 29 /\ f2.type = 3 /\ f3.type = 28 /\ f4.type = 28 /\ f5.type = 3 :=
 ⟨_, _, _, _, _, _, Tryz.underlying31, rfl, rfl, rfl, rfl, rfl, rfl⟩
theorem X7 {n : Nat} {x : D} (h : Ty Tryz.prog n 111 x) : ∃ c r, x = Oc c r /\ inR c = true /\ inR r = true := by
 obtain ⟨f, g, hu, hf, hg⟩ := aaA
 obtain ⟨m, a, b, rfl, h1, h2⟩ := yC h hu
 rw [hf] at h1
 rw [hg] at h2
 obtain ⟨c, rfl, hc⟩ := iC h1
 obtain ⟨r, rfl, hr⟩ := iC h2
 exact ⟨c, r, rfl, hc, hr⟩
theorem Og {n : Nat} {x : D} (h : Ty Tryz.prog n 24 x) : ∃ ts, x = lV ts /\ ts.length <= maxLen /\ ∀ t ∈ ts, ∃ c r, t = Oc c r /\ inR c = true /\ inR r = true := by
 obtain ⟨f, hu, hf⟩ := acx
 obtain ⟨m, a, rfl, h1⟩ := xH h hu
 rw [hf] at h1
 obtain ⟨m, ts, rfl, hl, hp⟩ := pW h1 WY
 exact ⟨ts, rfl, hl, fun t ht => X7 (hp t ht)⟩
structure QOK (q : D) : Prop where
 eq : q = .agg [.slice (dQ q) [], .slice (qP q) [], fO (qBy q), .slice (kS q) [], .slice (uM q) [], fO (yh q)]
 occ : (dQ q).length <= maxLen
 p : (qP q).length <= maxLen
 sums : (kS q).length <= maxLen
 out : (uM q).length <= maxLen
 e : ∀ e ∈ qP q, ∃ m, Ty Tryz.prog m 61 e
 o : ∀ x ∈ dQ q, ∃ z, x = fO z /\ inR z = true
 s : ∀ x ∈ kS q, ∃ z, x = fO z /\ inR z = true
 u : ∀ x ∈ uM q, ∃ z, x = fO z /\ inR z = true
theorem tyQ {n : Nat} {x : D} (h : Ty Tryz.prog n 31 x) : QOK x := by
 obtain ⟨f0, f1, f2, f3, f4, f5, hu, t0, t1, t2, t3, t4, t5⟩ := af1
 cases n with
 | zero => exact h.elim
 | succ n =>
  unfold Ty at h
  rw [hu] at h
  split at h <;> try (exact h.elim)
  all_goals try (simp_all; done)
  rename_i fs ps heq
  cases heq
  obtain ⟨hl, hp⟩ := h
  have h0 := hp 0 f0 rfl
  have h1 := hp 1 f1 rfl
  have h2 := hp 2 f2 rfl
  have h3 := hp 3 f3 rfl
  have h4 := hp 4 f4 rfl
  have h5 := hp 5 f5 rfl
  rw [t0] at h0
  rw [t1] at h1
  rw [t2] at h2
  rw [t3] at h3
  rw [t4] at h4
  rw [t5] at h5
  match ps, hl, h0, h1, h2, h3, h4, h5 with
  | [a, b, c, d, e, f], _, h0, h1, h2, h3, h4, h5 =>
   obtain ⟨es, rfl, l0, p0⟩ := Zv (show Ty Tryz.prog n 28 a from h0)
   obtain ⟨m, xs, rfl, l1, p1⟩ := pW (show Ty Tryz.prog n 29 b from h1) aaO
   obtain ⟨z, rfl, _⟩ := iC (show Ty Tryz.prog n 3 c from h2)
   obtain ⟨us, rfl, l3, p3⟩ := Zv (show Ty Tryz.prog n 28 d from h3)
   obtain ⟨vs, rfl, l4, p4⟩ := Zv (show Ty Tryz.prog n 28 e from h4)
   obtain ⟨y, rfl, _⟩ := iC (show Ty Tryz.prog n 3 f from h5)
   exact ⟨rfl, l0, l1, l3, l4, fun e he => ⟨m, p1 e he⟩, p0, p3, p4⟩
def Xw : FuncId × TypeId × (List AV -> Bool) × (List AV -> Option D) := (124, 4, yes, ent [3, 3] (f2 fun x y => some (.lit (.bool (bz (intD x) (intD y))))))
theorem Xg : FnOK Tryz.prog 124 Tryz.f124 := ⟨Tryz.func124, rfl, by kernel_rfl⟩
theorem c124 : ∀ args d, Xw.2.2.2 args = some d -> CallOK Tryz.prog 124 args (aj Tryz.prog 4 d) :=
 gD Xg fun x y d h _ _ => by
  cases h
  rw [n3, n3]
  refine aI hm JB Xg ((t124 1 (intD x) (intD y)).trans ?_)
  rw [m4, QS]
  show _ = some (dat 4 (.lit (.bool (bz (intD x) (intD y)))))
  unfold bz
  cases decide (0 <= intD x) <;> rfl
def e128 : FuncId × TypeId × (List AV -> Bool) × (List AV -> Option D) := (128, 4, yes, ent [3, 3] (f2 fun x y => some (.lit (.bool (bz (intD x) (intD y))))))
theorem afh : FnOK Tryz.prog 128 Tryz.f128 := ⟨Tryz.func128, rfl, by kernel_rfl⟩
theorem afW : ∀ args d, e128.2.2.2 args = some d -> CallOK Tryz.prog 128 args (aj Tryz.prog 4 d) :=
 gD afh fun x y d h _ _ => by
  cases h
  rw [n3, n3]
  refine aI hm JB afh ((ahl 1 (intD x) (intD y)).trans ?_)
  rw [m4, QS]
  show _ = some (dat 4 (.lit (.bool (bz (intD x) (intD y)))))
  unfold bz
  cases decide (0 <= intD x) <;> rfl
def e127 : FuncId × TypeId × (List AV -> Bool) × (List AV -> Option D) := (127, 111, yes, ent [111] (f1 fun x => some (lU x)))
theorem WQ : FnOK Tryz.prog 127 Tryz.f127 := ⟨Tryz.func127, rfl, by kernel_rfl⟩
theorem c127 : ∀ args d, e127.2.2.2 args = some d -> CallOK Tryz.prog 127 args (aj Tryz.prog 111 d) :=
 mY WQ fun x d h _ => by
  cases h
  rw [ZB]
  refine aI hm JB WQ ((t127 1 x).trans ?_)
  rw [acf, D6]
  unfold lU
  cases dR x <;> rfl
def e34 : FuncId × TypeId × (List AV -> Bool) × (List AV -> Option D) := (34, 69, yes, ent [] (f0 (some (.agg [kZ, jd]))))
theorem k34 : FnOK Tryz.prog 34 Tryz.f34 := ⟨Tryz.func34, rfl, by kernel_rfl⟩
theorem c34 : ∀ args d, e34.2.2.2 args = some d -> CallOK Tryz.prog 34 args (aj Tryz.prog 69 d) :=
 YP fun d h => by
  cases h
  refine aI hm JB k34 ((t34 1).trans ?_)
  rw [acI]
  rfl
def VI : FuncId × TypeId × (List AV -> Bool) × (List AV -> Option D) := (104, 4, yes, ent [28, 3] (f2 fun x y => some (.lit (.bool (hasB (ae x) (intD y))))))
theorem Wx : FnOK Tryz.prog 104 Tryz.f104 := ⟨Tryz.func104, rfl, by kernel_rfl⟩
theorem aaP : ∀ args d, VI.2.2.2 args = some d -> CallOK Tryz.prog 104 args (aj Tryz.prog 4 d) :=
 gD Wx fun x y d h _ _ => by
  cases h
  rw [n27, n3]
  refine aI hm JB Wx ((acv 1 x (intD y)).trans ?_)
  rw [m4]
  show _ = some (dat 4 (.lit (.bool (hasB (ae x) (intD y)))))
  have : decide (Lib.idxOf ((ae x).map intD) (intD y) >= 0) = hasB (ae x) (intD y) := by
   unfold hasB
   rw [Bool.eq_iff_iff, decide_eq_true_eq]
   have := Lib.idxOf_nonneg_iff ((ae x).map intD) (intD y)
   exact Iff.of_eq this
  rw [this]
def adN : List D -> Option D := f2 fun x y => some (.lit (.bool (MB (intD x) (intD y))))
def e76 : FuncId × TypeId × (List AV -> Bool) × (List AV -> Option D) := (76, 4, yes, fun xs => match ent [3, 3] adN xs with | some d => some d | none => ent [3, 108] adN xs)
def Q1 : Tab := VI :: e34 :: e127 :: e128 :: Xw :: UP
theorem Ox : EnvOK Tryz.prog (bT Q1 []) := ah (ah (ah (ah (ah JB c124) afW) c127) c34) aaP
end X
end
section
namespace X
open Go.Ev
set_option linter.unusedVariables false
/- roadbook/data.Col -/
def VL : ay := fun _ =>  none
theorem t78 (N : Nat) (x0 : Int) (x1 : Int) : aU Tryz.prog (ak Q1 [] [] []) VL N Tryz.f78 [dat 3 (.lit (.int .i64 x0)), dat 3 (.lit (.int .i64 x1))] =
 bif ((!(bz x0 4)) == false) then
  bif (!(bz x1 4)) then
   some (dat 3 (.lit (.int .i64 (-1))))
  else some (dat 3 (.lit (.int .i64 (IntKind.wrap .i64 ((IntKind.wrap .i64 (x0 * 4)) + x1)))))
 else some (dat 3 (.lit (.int .i64 (-1)))) := by kernel_rfl
/- roadbook/data.Split -/
def Qi : ay := fun _ =>  none
theorem abV (N : Nat) (x0 : Int) : aU Tryz.prog (ak Q1 [] [] []) Qi N Tryz.f184 [dat 3 (.lit (.int .i64 x0))] =
 bif (!(bz x0 16)) then
  some (aL [3, 3, 4] (.agg [.lit (.int .i64 0), .lit (.int .i64 0), .lit (.bool false)]))
 else some (aL [3, 3, 4] (.agg [.lit (.int .i64 (IntKind.wrap .i64 (Int.tdiv x0 4))), .lit (.int .i64 (Int.tmod x0 4)), .lit (.bool true)])) := by kernel_rfl
/- roadbook/data.May -/
def zF : ay := fun i => if i = 4 then some ([0, 1, 2, 3, 4, 5, 6, 7, 8, 9, 10, 11, 12, 13, 14, 15, 19, 20, 21, 22, 23, 24, 25, 26], [], []) else none
def lF (P : Program) (fn : Func) (N n : Nat) (x0 : D) (v18 : Int) : Option AV := aN (preL zF (sub [1, 1, 0, 1, 0, 0] (ag fn))) (az P (ak Q1 [] [] []) zF N (sub [1, 1, 0, 1, 0, 0] (ag fn))) n ⟨[dead, dead, dead, dead, dead, dead, dead, dead, dead, dead, dead, dead, dead, dead, dead, dead, dat 22 (af x0 0), dat 3 (.lit (.int .i64 ((ae (af x0 0)).length : Int))), dat 3 (.lit (.int .i64 v18)), dead, dead, dead, dead, dead, dead, dead, dead], aZ []⟩ (aG 0 (cZ P (ak Q1 [] [] []) zF N (sub [1, 1, 1] (ag fn)) (dJ P fn) ))
theorem lH (N n : Nat) (x0 : D) (v18 : Int) : lF Tryz.prog Tryz.f82 N (n + 1) x0 v18 =
 bif decide (v18 < ((ae (af x0 0)).length : Int)) then
  bif (decide (0 <= v18) && decide (v18 < ((ae (af x0 0)).length : Int))) then
   bif (((intD (af (lU ((ae (af x0 0)).getD (v18).toNat .nil)) 0)) == 0) && (((intD (af (lU ((ae (af x0 0)).getD (v18).toNat .nil)) 1)) == 0) && true)) then
    some (dat 4 (.lit (.bool false)))
   else lF Tryz.prog Tryz.f82 N n x0 (IntKind.wrap .i64 (v18 + 1))
  else none
 else some (dat 4 (.lit (.bool true))) := by kernel_rfl
theorem t82 (N : Nat) (x0 : D) : aU Tryz.prog (ak Q1 [] [] []) zF N Tryz.f82 [dat 24 x0] =
 bif ((decide (((ae (af x0 0)).length : Int) < 1)) == false) then
  bif decide (((ae (af x0 0)).length : Int) > 4) then
   some (dat 4 (.lit (.bool false)))
  else lF Tryz.prog Tryz.f82 N N x0 0
 else some (dat 4 (.lit (.bool false))) := by kernel_rfl
/- roadbook/query.occurrencesMay -/
def TC : ay := fun i => if i = 4 then some ([0, 1, 4, 5, 6, 7, 8, 9, 10, 11, 12, 13, 14, 15, 16, 17, 20, 21, 22, 23, 24, 25, 26, 27, 28, 29, 30, 31, 32], [2, 3], []) else none
def Aj (P : Program) (fn : Func) (N n : Nat) (x0 : D) (x1 : D) (v19 : Int) : Option AV := aN (preL TC (sub [1, 1, 0, 1, 0, 0] (ag fn))) (az P (ak Q1 [] [] []) TC N (sub [1, 1, 0, 1, 0, 0] (ag fn))) n ⟨[dead, dead, bxp 2 24, bxp 3 31, dead, dead, dead, dead, dead, dead, dead, dead, dead, dead, dead, dead, dead, dead, dat 3 (.lit (.int .i64 ((ae (af x1 0)).length : Int))), dat 3 (.lit (.int .i64 v19)), dead, dead, dead, dead, dead, dead, dead, dead, dead, dead, dead, dead, dead], aZ [(2, some ⟨24, x0, 0, none⟩), (3, some ⟨31, x1, 0, none⟩)]⟩ (aG 0 (cZ P (ak Q1 [] [] []) TC N (sub [1, 1, 1] (ag fn)) (dJ P fn) ))
theorem AU (N n : Nat) (x0 : D) (x1 : D) (v19 : Int) : Aj Tryz.prog Tryz.f83 N (n + 1) x0 x1 v19 =
 bif decide (v19 < ((ae (af x1 0)).length : Int)) then
  bif (decide (0 <= v19) && decide (v19 < ((ae (af x1 0)).length : Int))) then
   bif (!(bz (intD ((ae (af x1 0)).getD (v19).toNat .nil)) ((ae (af x0 0)).length : Int))) then
    some (dat 4 (.lit (.bool false)))
   else Aj Tryz.prog Tryz.f83 N n x0 x1 (IntKind.wrap .i64 (v19 + 1))
  else none
 else some (dat 4 (.lit (.bool true))) := by kernel_rfl
theorem t83 (N : Nat) (x0 : D) (x1 : D) : aU Tryz.prog (ak Q1 [] [] []) TC N Tryz.f83 [dat 24 x0, dat 31 x1] =
 bif ((decide (((ae (af x1 0)).length : Int) < 1)) == false) then
  bif decide (((ae (af x1 0)).length : Int) > 4) then
   some (dat 4 (.lit (.bool false)))
  else Aj Tryz.prog Tryz.f83 N N x0 x1 0
 else some (dat 4 (.lit (.bool false))) := by kernel_rfl
end X
end
section
namespace X
open Go.Ev
set_option linter.unusedVariables false
set_option maxRecDepth 10000
set_option linter.unusedSimpArgs false
theorem ED (l : List D) (f : D -> Bool) : l.any (fun x => !f x) = !l.all f := by rw [List.all_eq_not_any_not, Bool.not_not]
theorem Lj (ts : List D) : ts.any (fun t => !dR t) = !ts.all dR := ED ts dR
theorem Z7 (k : Nat) {a : Nat} : decide ((a : Int) < (k : Int)) = !decide (k <= a) := by by_cases h : k <= a <;> simp [h] <;> omega
theorem TI (k : Nat) {a : Nat} : decide ((a : Int) > (k : Int)) = !decide (a <= k) := by by_cases h : a <= k <;> simp [h] <;> omega
theorem VR {l : List D} : decide ((l.length : Int) > 0) = !l.isEmpty := by cases l <;> simp
theorem acm {l : List D} : ((l.length : Int) == 0) = l.isEmpty := by
 cases l with
 | nil => rfl
 | cons a l => rw [beq_eq_false_iff_ne.2 (by rw [List.length_cons]; omega)]; rfl
theorem Ld (z : Int) : 0 <= dB z /\ dB z < 4 := by
 by_cases h : 0 <= z /\ z < 16
 ·rw [(vK h).1]; omega
 ·rw [(Bq h).1]; omega
theorem Hw {z : Int} (h : 0 <= z /\ z < 16) : IntKind.wrap .i64 (Int.tdiv z 4) = z / 4 := by
 rw [Int.tdiv_eq_ediv_of_nonneg h.1, aH (l_in (by omega) (by omega))]
def e78 : FuncId × TypeId × (List AV -> Bool) × (List AV -> Option D) := (78, 3, yes, ent [3, 3] (f2 fun x y => some (.lit (.int .i64 (Cj (intD x) (intD y))))))
theorem k78 : FnOK Tryz.prog 78 Tryz.f78 := ⟨Tryz.func78, rfl, by kernel_rfl⟩
theorem c78 : ∀ args d, e78.2.2.2 args = some d -> CallOK Tryz.prog 78 args (aj Tryz.prog 3 d) :=
 gD k78 fun x y d h _ _ => by
  cases h
  rw [n3, n3]
  refine aI hm Ox k78 ((t78 1 (intD x) (intD y)).trans ?_)
  rw [m3]
  show _ = some (dat 3 (.lit (.int .i64 (Cj (intD x) (intD y)))))
  generalize intD x = a
  generalize intD y = b
  cases h1 : bz a 4 with
  | false => rw [yP (by have := mJ.1 h1; omega)]; rfl
  | true =>
   cases h2 : bz b 4 with
   | false => rw [yP (by have := mJ.1 h2; omega)]; rfl
   | true =>
    have a1 := dw.1 h1
    have a2 := dw.1 h2
    rw [EP a1 a2, aH (z := a * 4) (l_in (by omega) (by omega)), aH (l_in (by omega) (by omega))]; rfl
def VM : FuncId × TypeId × (List AV -> Bool) × (List AV -> Option D) := (184, 175, yes, ent [3] (f1 fun x => some (.agg [.lit (.int .i64 (dB (intD x))), .lit (.int .i64 (splitB (intD x))), .lit (.bool (bz (intD x) 16))])))
theorem WS : FnOK Tryz.prog 184 Tryz.f184 := ⟨Tryz.func184, rfl, by kernel_rfl⟩
theorem abt : ∀ args d, VM.2.2.2 args = some d -> CallOK Tryz.prog 184 args (aj Tryz.prog 175 d) :=
 mY WS fun x d h _ => by
  cases h
  rw [n3]
  refine aI hm Ox WS ((abV 1 (intD x)).trans ?_)
  rw [aaV]
  generalize intD x = z
  cases h1 : bz z 16 with
  | false =>
   obtain ⟨a, b⟩ := Bq (z := z) (mJ.1 h1)
   rw [a, b]; rfl
  | true =>
   have h2 := dw.1 h1
   obtain ⟨a, b⟩ := vK h2
   rw [a, b, Hw h2, Int.tmod_eq_emod_of_nonneg h2.1]; rfl
def e82 : FuncId × TypeId × (List AV -> Bool) × (List AV -> Option D) := (82, 4, yes, ent [24] (f1 fun x => some (.lit (.bool (lL x)))))
theorem k82 : FnOK Tryz.prog 82 Tryz.f82 := ⟨Tryz.func82, rfl, by kernel_rfl⟩
theorem c82 : ∀ args d, e82.2.2.2 args = some d -> CallOK Tryz.prog 82 args (aj Tryz.prog 4 d) :=
 mY k82 fun x d h ⟨_, hx⟩ => by
  cases h
  rw [tX]
  obtain ⟨ts, rfl, hl, _⟩ := Og hx
  refine aI hm Ox k82 ((t82 (ts.length + 1) (lV ts)).trans ?_)
  rw [m4, iw]
  have := jl (fun n v => lF Tryz.prog Tryz.f82 (ts.length + 1) n (lV ts) v) ts.length (fun i => !dR (ts.getD i .nil)) (some (dat 4 (.lit (.bool false)))) (some (dat 4 (.lit (.bool true))))
   (fun n i hi => by
    rw [lH, iw, bG hi, eY hi, Int.toNat_natCast, Dx, fE hl hi, cond_true, cond_true])
   (fun n => by rw [lH, iw, fB (by omega), cond_false]) (ts.length + 1) 0 (Nat.zero_le _) (by omega)
  have this : lF Tryz.prog Tryz.f82 (ts.length + 1) (ts.length + 1) (lV ts) 0 = _ := this
  rw [this, Nat.sub_zero, rO ts (fun t => !dR t), Lj]
  show _ = some (dat 4 (.lit (.bool ((decide (1 <= ts.length) && decide (ts.length <= 4)) && ts.all dR))))
  by_cases h1 : 1 <= ts.length
  ·by_cases h4 : ts.length <= 4
   ·rw [dF (show ¬ ((ts.length : Int)) < 1 by omega), dF (show ¬ ((ts.length : Int)) > 4 by omega), dT h1, dT h4]
    cases ts.all dR <;> rfl
   ·rw [dF (show ¬ ((ts.length : Int)) < 1 by omega), dT (show ((ts.length : Int)) > 4 by omega), dT h1, dF h4]
    rfl
  ·rw [dT (show ((ts.length : Int)) < 1 by omega), dF h1]
   rfl
def e83 : FuncId × TypeId × (List AV -> Bool) × (List AV -> Option D) := (83, 4, yes, ent [24, 31] (f2 fun x y => some (.lit (.bool (dn x y)))))
theorem k83 : FnOK Tryz.prog 83 Tryz.f83 := ⟨Tryz.func83, rfl, by kernel_rfl⟩
theorem c83 : ∀ args d, e83.2.2.2 args = some d -> CallOK Tryz.prog 83 args (aj Tryz.prog 4 d) :=
 gD k83 fun x y d h _ ⟨_, hy⟩ => by
  cases h
  rw [tX, xX]
  have hq : (ae (af y 0)).length <= maxLen := (tyQ hy).occ
  refine aI hm Ox k83 ((t83 ((ae (af y 0)).length + 1) x y).trans ?_)
  have lp : Aj Tryz.prog Tryz.f83 ((ae (af y 0)).length + 1) ((ae (af y 0)).length + 1) x y 0 = some (dat 4 (.lit (.bool ((ae (af y 0)).all fun o => bz (intD o) ((ae (af x 0)).length : Int))))) := by
   have := jl (fun n v => Aj Tryz.prog Tryz.f83 ((ae (af y 0)).length + 1) n x y v) (ae (af y 0)).length (fun i => !bz (intD ((ae (af y 0)).getD i .nil)) ((ae (af x 0)).length : Int)) (some (dat 4 (.lit (.bool false)))) (some (dat 4 (.lit (.bool true))))
    (fun n i hi => by rw [AU, bG hi, eY hi, cond_true, cond_true, Int.toNat_natCast, fE hq hi])
    (fun n => by rw [AU, fB (by omega), cond_false]) ((ae (af y 0)).length + 1) 0 (Nat.zero_le _) (by omega)
   refine this.trans ?_
   rw [Nat.sub_zero, rO (ae (af y 0)) (fun o => !bz (intD o) ((ae (af x 0)).length : Int)), ED]
   cases (ae (af y 0)).all fun o => bz (intD o) ((ae (af x 0)).length : Int) <;> rfl
  rw [m4, lp]
  show _ = some (dat 4 (.lit (.bool (dn x y))))
  unfold dn dQ tabs
  rw [show decide (((ae (af y 0)).length : Int) < 1) = _ from Z7 1, show decide (((ae (af y 0)).length : Int) > 4) = _ from TI 4]
  cases decide (1 <= (ae (af y 0)).length) <;> cases decide ((ae (af y 0)).length <= 4) <;> rfl
def Q2 : Tab := e83 :: e82 :: VM :: e78 :: Q1
theorem ZU : EnvOK Tryz.prog (bT Q2 []) := ah (ah (ah (ah Ox c78) abt) c82) c83
end X
end
section
namespace X
open Go.Ev
set_option linter.unusedVariables false
/- roadbook/query.isColumn -/
def aaN : ay := fun _ =>  none
theorem t167 (N : Nat) (x0 : D) (x1 : D) (x2 : Int) : aU Tryz.prog (ak Q2 [] [] []) aaN N Tryz.f167 [dat 24 x0, dat 31 x1, dat 3 (.lit (.int .i64 x2))] =
 bif ((bz x2 16) == true) then
  bif ((decide ((dB x2) < ((ae (af x1 0)).length : Int))) == true) then
   bif (decide (0 <= (dB x2)) && decide ((dB x2) < ((ae (af x1 0)).length : Int))) then
    bif (decide (0 <= (intD ((ae (af x1 0)).getD (dB x2).toNat .nil))) && decide ((intD ((ae (af x1 0)).getD (dB x2).toNat .nil)) < ((ae (af x0 0)).length : Int))) then
     some (dat 4 (.lit (.bool (decide ((splitB x2) < (intD (af ((ae (af x0 0)).getD (intD ((ae (af x1 0)).getD (dB x2).toNat .nil)).toNat .nil) 0)))))))
    else none
   else none
  else some (dat 4 (.lit (.bool false)))
 else some (dat 4 (.lit (.bool false))) := by kernel_rfl
/- roadbook/query.ofColumn -/
end X
end
section
namespace X
open Go.Ev
set_option linter.unusedVariables false
set_option maxRecDepth 10000
set_option linter.unusedSimpArgs false
theorem J5 {c q : D} (h : dn c q = true) {i : Nat} (hi : i < (dQ q).length) : 0 <= intD ((dQ q).getD i .nil) /\ intD ((dQ q).getD i .nil) < ((tabs c).length : Int) := by
 unfold dn at h
 rw [Bool.and_eq_true, List.all_eq_true] at h
 have := h.2 _ (List.getElem_mem hi)
 rw [dA hi]
 exact dw.1 this
def e167 : FuncId × TypeId × (List AV -> Bool) × (List AV -> Option D) := (167, 4, jU (q3 fun x y _ => dn x y), ent [24, 31, 3] (f3 fun x y z => some (.lit (.bool (jT x y (intD z))))))
theorem aew : FnOK Tryz.prog 167 Tryz.f167 := ⟨Tryz.func167, rfl, by kernel_rfl⟩
theorem c167 : ∀ args d, e167.2.2.1 args = true -> e167.2.2.2 args = some d -> CallOK Tryz.prog 167 args (aj Tryz.prog 4 d) :=
 Jd aew fun x y z d hq h _ _ _ => by
  cases h
  rw [tX, xX, n3]
  refine aI hm ZU aew ((t167 1 x y (intD z)).trans ?_)
  rw [m4]
  show _ = some (dat 4 (.lit (.bool (jT x y (intD z)))))
  generalize intD z = v
  unfold jT
  obtain ⟨h0, _⟩ := Ld v
  cases h1 : bz v 16 with
  | false => rfl
  | true =>
   by_cases h2 : dB v < ((dQ y).length : Int)
   ·have h2' : dB v < ((ae (af y 0)).length : Int) := h2
    have hb := J5 hq (i := (dB v).toNat) (by omega)
    have b1 : 0 <= intD ((ae (af y 0)).getD (dB v).toNat .nil) := hb.1
    have b2 : intD ((ae (af y 0)).getD (dB v).toNat .nil) < ((ae (af x 0)).length : Int) := hb.2
    rw [dT h2, dT h2', dT h0, dT b1, dT b2]
    rfl
   ·have h2' : ¬ dB v < ((ae (af y 0)).length : Int) := h2
    rw [dF h2, dF h2']
    rfl
def Q3 : Tab := e167 :: Q2
theorem aar : EnvOK Tryz.prog (bT Q3 []) := aO ZU c167
end X
end
section
namespace X
open Go.Ev
set_option linter.unusedVariables false
/- roadbook/query.areColumns -/
def LD : ay := fun i => if i = 2 then some ([0, 1, 2, 5, 6, 7, 8, 12, 13, 14, 15, 16, 17, 18, 19, 20], [3, 4], []) else none
def zY (P : Program) (fn : Func) (N n : Nat) (x0 : D) (x1 : D) (x2 : D) (v11 : Int) : Option AV := aN (preL LD (sub [1, 0, 1, 0, 0] (ag fn))) (az P (ak Q3 [] [] []) LD N (sub [1, 0, 1, 0, 0] (ag fn))) n ⟨[dead, dead, dead, bxp 3 24, bxp 4 31, dead, dead, dead, dead, dat 28 x2, dat 3 (.lit (.int .i64 ((ae x2).length : Int))), dat 3 (.lit (.int .i64 v11)), dead, dead, dead, dead, dead, dead, dead, dead, dead], aZ [(3, some ⟨24, x0, 0, none⟩), (4, some ⟨31, x1, 0, none⟩)]⟩ (aG 0 (cZ P (ak Q3 [] [] []) LD N (sub [1, 1] (ag fn)) (dJ P fn) ))
theorem xA (N n : Nat) (x0 : D) (x1 : D) (x2 : D) (v11 : Int) : zY Tryz.prog Tryz.f130 N (n + 1) x0 x1 x2 v11 =
 bif decide (v11 < ((ae x2).length : Int)) then
  bif (decide (0 <= v11) && decide (v11 < ((ae x2).length : Int))) then
   bif dn x0 x1 then
    bif (!(jT x0 x1 (intD ((ae x2).getD (v11).toNat .nil)))) then
     some (dat 4 (.lit (.bool false)))
    else zY Tryz.prog Tryz.f130 N n x0 x1 x2 (IntKind.wrap .i64 (v11 + 1))
   else none
  else none
 else some (dat 4 (.lit (.bool true))) := by kernel_rfl
theorem t130 (N : Nat) (x0 : D) (x1 : D) (x2 : D) : aU Tryz.prog (ak Q3 [] [] []) LD N Tryz.f130 [dat 24 x0, dat 31 x1, dat 28 x2] =
 zY Tryz.prog Tryz.f130 N N x0 x1 x2 0 := by kernel_rfl
/- roadbook/query.Of -/
end X
end
section
namespace X
open Go.Ev
set_option linter.unusedVariables false
set_option maxRecDepth 10000
set_option linter.unusedSimpArgs false
def abj : FuncId × TypeId × (List AV -> Bool) × (List AV -> Option D) := (130, 4, jU (q3 fun x y _ => dn x y), ent [24, 31, 28] (f3 fun x y z => some (.lit (.bool (gm x y (ae z))))))
theorem ac1 : FnOK Tryz.prog 130 Tryz.f130 := ⟨Tryz.func130, rfl, by kernel_rfl⟩
theorem c130 : ∀ args d, abj.2.2.1 args = true -> abj.2.2.2 args = some d -> CallOK Tryz.prog 130 args (aj Tryz.prog 4 d) :=
 Jd ac1 fun x y z d hq h _ _ ⟨_, hz⟩ => by
  cases h
  rw [tX, xX, n27]
  have hl := XB hz
  have hq : dn x y = true := hq
  refine aI hm aar ac1 ((t130 ((ae z).length + 1) x y z).trans ?_)
  rw [m4]
  have := jl (fun n v => zY Tryz.prog Tryz.f130 ((ae z).length + 1) n x y z v) (ae z).length (fun i => !jT x y (intD ((ae z).getD i .nil))) (some (dat 4 (.lit (.bool false)))) (some (dat 4 (.lit (.bool true))))
   (fun n i hi => by rw [xA, bG hi, eY hi, hq, cond_true, cond_true, cond_true, Int.toNat_natCast, fE hl hi])
   (fun n => by rw [xA, fB (by omega), cond_false]) ((ae z).length + 1) 0 (Nat.zero_le _) (by omega)
  refine this.trans ?_
  rw [Nat.sub_zero, rO (ae z) (fun o => !jT x y (intD o)), ED]
  show _ = some (dat 4 (.lit (.bool (gm x y (ae z)))))
  unfold gm
  cases (ae z).all fun x_1 => jT x y (intD x_1) <;> rfl
def Q4 : Tab := abj :: Q3
theorem Tj : EnvOK Tryz.prog (bT Q4 []) := aO aar c130
end X
end
end Go.Proofs.YtpceahbengfjeaaGreatDoor
