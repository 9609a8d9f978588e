/- TreeAll: all trees of a set are of it, may be, are no two the same, and any tree that may be, of it, is one of them. Proved for every world, every order, every argument that the statement takes; the tables of strconv and math/bits as the card ties them. -/
import Derived.Test.YtbabfocagkkboaaDoorTE
import Derived.Test.YtbabfocagkkboaaDoorVTa
import Derived.Test.YtbabfocagkkboaaDoorTie
import Derived.Test.YtbabfocagkkboaaDoorCards
import Derived.WalkKit
import Derived.ProofKit
import Derived.OpenShut
import Derived.ShutString
import Derived.ChangeOld
import Derived.Below
import Derived.JoinedOf
import Derived.LaidLaws
import Derived.SevenTiedAt
import Derived.Stop.Joined
import Derived.Lib.AppendIntMem
namespace Go.Proofs.YtbabfocagkkboaaDoor
namespace X
open Go.Ev
set_option linter.unusedVariables false
/- roadbook/roadbooklaw06.TreeAll -/
def t5_h : Hints := fun i => if i = 8 then some ([1, 2, 4, 5, 10, 11, 12, 13, 14, 15, 16, 17, 18, 19, 20, 21, 22, 23, 24, 25, 26, 27, 28, 29, 30, 31, 32, 33, 34, 35, 36, 37, 38, 39, 40, 41, 42, 43, 44, 45, 46, 47, 48, 49, 50, 51, 52, 53, 54, 55, 56, 57, 58, 59, 60, 61, 62, 63, 64, 65, 66, 67, 68, 69, 70, 71, 72, 73, 74, 75, 76, 77, 78, 79, 80, 81, 82, 83, 84, 85, 86, 87, 88, 89, 90, 91, 92, 93, 94, 95, 96, 97, 98, 99, 100, 101, 102, 103, 104, 105, 106, 107, 108, 109, 110, 111, 112, 113, 114, 115, 116, 117, 118, 119, 120, 121, 122, 123, 124, 125, 126, 127, 128, 129, 130, 131, 132, 133, 134, 135, 136, 137, 138, 139, 140, 141, 142, 143], [3], []) else if i = 17 then some ([1, 2, 4, 5, 9, 11, 12, 13, 14, 15, 16, 17, 18, 19, 20, 21, 22, 23, 24, 25, 26, 27, 28, 29, 30, 31, 32, 33, 34, 35, 36, 37, 38, 39, 40, 41, 42, 43, 44, 45, 46, 47, 48, 49, 50, 51, 52, 53, 54, 55, 56, 57, 58, 59, 60, 61, 62, 63, 64, 65, 66, 67, 68, 69, 70, 71, 72, 73, 74, 75, 76, 77, 78, 79, 80, 81, 82, 83, 84, 85, 86, 87, 88, 89, 90, 91, 92, 93, 94, 95, 96, 97, 98, 99, 100, 101, 102, 103, 104, 105, 106, 107, 108, 109, 110, 111, 112, 113, 114, 115, 116, 117, 118, 119, 120, 121, 122, 123, 124, 125, 126, 127, 128, 129, 130, 131, 132, 133, 134, 135, 136, 137, 138, 139, 140, 141, 142, 143], [3], []) else if i = 20 then some ([1, 2, 4, 5, 9, 12, 13, 14, 15, 16, 17, 18, 19, 20, 21, 22, 23, 24, 25, 26, 27, 28, 29, 30, 31, 32, 33, 34, 35, 36, 37, 38, 39, 40, 41, 42, 43, 44, 45, 46, 47, 48, 49, 50, 51, 52, 53, 54, 55, 56, 57, 58, 59, 60, 61, 62, 63, 64, 65, 66, 67, 68, 69, 70, 71, 72, 73, 74, 75, 76, 77, 78, 79, 80, 81, 82, 83, 84, 85, 86, 87, 88, 89, 90, 91, 92, 93, 94, 95, 96, 97, 98, 99, 100, 101, 102, 103, 104, 105, 106, 107, 108, 109, 110, 111, 112, 113, 114, 115, 116, 117, 118, 119, 120, 121, 122, 123, 124, 125, 126, 127, 128, 129, 130, 131, 132, 133, 134, 135, 136, 137, 138, 139, 140, 141, 142, 143], [3], []) else none
def t5_lp8 (P : Program) (fn : Func) (N n : Nat) (x0 : Int) (x1 : D) (v7 : Bool) (v8 : List UInt8) (v9 : Int) : Option AV := evLoop (preL t5_h (sub [1, 1, 1, 1, 1, 1, 0, 1, 0, 0] (bodyOf fn))) (evCode P (envH SL []) t5_h N (sub [1, 1, 1, 1, 1, 1, 0, 1, 0, 0] (bodyOf fn))) n ⟨[dat 3 (.lit (.int .i64 x0)), dead, dead, bxp 3 24, dead, dead, dat 22 (.slice (allT x0) []), dat 4 (.lit (.bool v7)), dat 9 (.lit (.string v8)), dat 3 (.lit (.int .i64 v9)), dead, dead, dead, dead, dead, dead, dead, dead, dead, dead, dead, dead, dead, dead, dead, dead, dead, dead, dead, dead, dead, dead, dead, dead, dead, dead, dead, dead, dead, dead, dead, dead, dead, dead, dead, dead, dead, dead, dead, dead, dead, dead, dead, dead, dead, dead, dead, dead, dead, dead, dead, dead, dead, dead, dead, dead, dead, dead, dead, dead, dead, dead, dead, dead, dead, dead, dead, dead, dead, dead, dead, dead, dead, dead, dead, dead, dead, dead, dead, dead, dead, dead, dead, dead, dead, dead, dead, dead, dead, dead, dead, dead, dead, dead, dead, dead, dead, dead, dead, dead, dead, dead, dead, dead, dead, dead, dead, dead, dead, dead, dead, dead, dead, dead, dead, dead, dead, dead, dead, dead, dead, dead, dead, dead, dead, dead, dead, dead, dead, dead, dead, dead, dead, dead], lookB [(3, some ⟨24, x1, 0, none⟩)]⟩ (blockK 0 (seqC P (envH SL []) t5_h N (sub [1, 1, 1, 1, 1, 1, 1] (bodyOf fn)) (finK P fn) ))
def t5_lp17 (P : Program) (fn : Func) (N n : Nat) (x0 : Int) (x1 : D) (v7 : Bool) (v8 : List UInt8) (v9 : Int) (m0 : Nat) (v10 : Int) : Option AV := evLoop (preL t5_h (sub [1, 1, 1, 1, 1, 1, 1, 0, 1, 0, 0] (bodyOf fn))) (evCode P (envH SL []) t5_h N (sub [1, 1, 1, 1, 1, 1, 1, 0, 1, 0, 0] (bodyOf fn))) n ⟨[dat 3 (.lit (.int .i64 x0)), dead, dead, bxp 3 24, dead, dead, dat 22 (.slice (allT x0) []), dat 4 (.lit (.bool v7)), dat 9 (.lit (.string v8)), dead, dat 3 (.lit (.int .i64 v10)), dead, dead, dead, dead, dead, dead, dead, dead, dead, dead, dead, dead, dead, dead, dead, dead, dead, dead, dead, dead, dead, dead, dead, dead, dead, dead, dead, dead, dead, dead, dead, dead, dead, dead, dead, dead, dead, dead, dead, dead, dead, dead, dead, dead, dead, dead, dead, dead, dead, dead, dead, dead, dead, dead, dead, dead, dead, dead, dead, dead, dead, dead, dead, dead, dead, dead, dead, dead, dead, dead, dead, dead, dead, dead, dead, dead, dead, dead, dead, dead, dead, dead, dead, dead, dead, dead, dead, dead, dead, dead, dead, dead, dead, dead, dead, dead, dead, dead, dead, dead, dead, dead, dead, dead, dead, dead, dead, dead, dead, dead, dead, dead, dead, dead, dead, dead, dead, dead, dead, dead, dead, dead, dead, dead, dead, dead, dead, dead, dead, dead, dead, dead, dead], lookB [(3, some ⟨24, x1, 0, none⟩)]⟩ (blockK 2 (seqC P (envH SL []) t5_h N (sub [1, 1, 1, 1, 1, 1, 1, 1] (bodyOf fn)) (finK P fn) ))
def t5_lp20 (P : Program) (fn : Func) (N n : Nat) (x0 : Int) (x1 : D) (v7 : Bool) (v8 : List UInt8) (v9 : Int) (m0 : Nat) (v10 : Int) (m1 : Nat) (v11 : Int) : Option AV := evLoop (preL t5_h (sub [1, 1, 1, 1, 1, 1, 1, 0, 1, 0, 0, 1, 0, 0, 1, 0, 0] (bodyOf fn))) (evCode P (envH SL []) t5_h N (sub [1, 1, 1, 1, 1, 1, 1, 0, 1, 0, 0, 1, 0, 0, 1, 0, 0] (bodyOf fn))) n ⟨[dat 3 (.lit (.int .i64 x0)), dead, dead, bxp 3 24, dead, dead, dat 22 (.slice (allT x0) []), dat 4 (.lit (.bool v7)), dat 9 (.lit (.string v8)), dead, dat 3 (.lit (.int .i64 v10)), dat 3 (.lit (.int .i64 v11)), dead, dead, dead, dead, dead, dead, dead, dead, dead, dead, dead, dead, dead, dead, dead, dead, dead, dead, dead, dead, dead, dead, dead, dead, dead, dead, dead, dead, dead, dead, dead, dead, dead, dead, dead, dead, dead, dead, dead, dead, dead, dead, dead, dead, dead, dead, dead, dead, dead, dead, dead, dead, dead, dead, dead, dead, dead, dead, dead, dead, dead, dead, dead, dead, dead, dead, dead, dead, dead, dead, dead, dead, dead, dead, dead, dead, dead, dead, dead, dead, dead, dead, dead, dead, dead, dead, dead, dead, dead, dead, dead, dead, dead, dead, dead, dead, dead, dead, dead, dead, dead, dead, dead, dead, dead, dead, dead, dead, dead, dead, dead, dead, dead, dead, dead, dead, dead, dead, dead, dead, dead, dead, dead, dead, dead, dead, dead, dead, dead, dead, dead, dead], lookB [(3, some ⟨24, x1, 0, none⟩)]⟩ (blockK 4 (blockK 3 (seqC P (envH SL []) t5_h N (sub [1, 1, 1, 1, 1, 1, 1, 0, 1, 0, 0, 1, 1] (bodyOf fn)) (seqK (fun s => evLoop (preL t5_h (sub [1, 1, 1, 1, 1, 1, 1, 0, 1, 0, 0] (bodyOf fn))) (evCode P (envH SL []) t5_h N (sub [1, 1, 1, 1, 1, 1, 1, 0, 1, 0, 0] (bodyOf fn))) m1 ((preL t5_h (sub [1, 1, 1, 1, 1, 1, 1, 0, 1, 0, 0] (bodyOf fn))) s) (blockK 2 (seqC P (envH SL []) t5_h N (sub [1, 1, 1, 1, 1, 1, 1, 1] (bodyOf fn)) (finK P fn) ))) (blockK 2 (seqC P (envH SL []) t5_h N (sub [1, 1, 1, 1, 1, 1, 1, 1] (bodyOf fn)) (finK P fn) ))) )))
theorem t5_lp20_step  (N n : Nat) (x0 : Int) (x1 : D) (v7 : Bool) (v8 : List UInt8) (v9 : Int) (m0 : Nat) (v10 : Int) (m1 : Nat) (v11 : Int) : t5_lp20 Tryd.prog Tryd.f5 N (n + 1) x0 x1 v7 v8 v9 m0 v10 m1 v11 =
  bif decide (v11 < v10) then
    bif (decide (0 ≤ v10) && decide (v10 < ((allT x0).length : Int))) then
      bif (decide (0 ≤ v11) && decide (v11 < ((allT x0).length : Int))) then
        bif smT ((allT x0).getD (v10).toNat .nil) then
          bif eqT ((allT x0).getD (v10).toNat .nil) ((allT x0).getD (v11).toNat .nil) then
            some (dat 4 (.lit (.bool false)))
          else t5_lp20 Tryd.prog Tryd.f5 N n x0 x1 v7 v8 v9 m0 v10 m1 (IntKind.wrap .i64 (v11 + 1))
        else none
      else none
    else none
  else t5_lp17 Tryd.prog Tryd.f5 N m1 x0 x1 v7 v8 v9 m0 (IntKind.wrap .i64 (v10 + 1)) := by kernel_rfl
theorem t5_lp17_step  (N n : Nat) (x0 : Int) (x1 : D) (v7 : Bool) (v8 : List UInt8) (v9 : Int) (m0 : Nat) (v10 : Int) : t5_lp17 Tryd.prog Tryd.f5 N (n + 1) x0 x1 v7 v8 v9 m0 v10 =
  bif decide (v10 < ((allT x0).length : Int)) then
    t5_lp20 Tryd.prog Tryd.f5 N N x0 x1 v7 v8 v9 m0 v10 n 0
  else bif (decide (0 ≤ (IntKind.wrap .i64 ((IntKind.wrap .i64 ((IntKind.wrap .i64 ((Int.tmod x0 2) + (Int.tmod (IntKind.wrap .i64 (Int.tdiv x0 2)) 2))) + (Int.tmod (IntKind.wrap .i64 (Int.tdiv x0 4)) 2))) + (Int.tmod (IntKind.wrap .i64 (Int.tdiv x0 8)) 2)))) && decide ((IntKind.wrap .i64 ((IntKind.wrap .i64 ((IntKind.wrap .i64 ((Int.tmod x0 2) + (Int.tmod (IntKind.wrap .i64 (Int.tdiv x0 2)) 2))) + (Int.tmod (IntKind.wrap .i64 (Int.tdiv x0 4)) 2))) + (Int.tmod (IntKind.wrap .i64 (Int.tdiv x0 8)) 2))) < 5)) then
      bif ((((allT x0).length : Int) == (intD ([.lit (.int .i64 0), .lit (.int .i64 1), .lit (.int .i64 2), .lit (.int .i64 12), .lit (.int .i64 120)].getD (IntKind.wrap .i64 ((IntKind.wrap .i64 ((IntKind.wrap .i64 ((Int.tmod x0 2) + (Int.tmod (IntKind.wrap .i64 (Int.tdiv x0 2)) 2))) + (Int.tmod (IntKind.wrap .i64 (Int.tdiv x0 4)) 2))) + (Int.tmod (IntKind.wrap .i64 (Int.tdiv x0 8)) 2))).toNat .nil))) == true) then
        bif ((v7 == ((setT x1) == x0)) == true) then
          some (dat 4 (.lit (.bool (decide ((((v8).length : Nat) : Int) ≥ ((allT x0).length : Int))))))
        else some (dat 4 (.lit (.bool false)))
      else some (dat 4 (.lit (.bool false)))
    else none := by kernel_rfl
theorem t5_lp8_step  (N n : Nat) (x0 : Int) (x1 : D) (v7 : Bool) (v8 : List UInt8) (v9 : Int) : t5_lp8 Tryd.prog Tryd.f5 N (n + 1) x0 x1 v7 v8 v9 =
  bif decide (v9 < ((allT x0).length : Int)) then
    bif (decide (0 ≤ v9) && decide (v9 < ((allT x0).length : Int))) then
      bif ((!(mayT ((allT x0).getD (v9).toNat .nil))) == false) then
        bif (decide (0 ≤ v9) && decide (v9 < ((allT x0).length : Int))) then
          bif ((setT ((allT x0).getD (v9).toNat .nil)) != x0) then
            some (dat 4 (.lit (.bool false)))
          else bif ((decide (v9 > 0)) == true) then
              bif (decide (0 ≤ v9) && decide (v9 < ((allT x0).length : Int))) then
                bif (decide (0 ≤ (IntKind.wrap .i64 (v9 - 1))) && decide ((IntKind.wrap .i64 (v9 - 1)) < ((allT x0).length : Int))) then
                  bif ((textT ((allT x0).getD (v9).toNat .nil)) == (textT ((allT x0).getD (IntKind.wrap .i64 (v9 - 1)).toNat .nil))) then
                    some (dat 4 (.lit (.bool false)))
                  else bif (decide (0 ≤ v9) && decide (v9 < ((allT x0).length : Int))) then
                      bif decide ((v8).length + (textT ((allT x0).getD (v9).toNat .nil)).length ≤ 4294967296) then
                        bif decide (((v8 ++ (textT ((allT x0).getD (v9).toNat .nil)))).length + (([32] : List UInt8)).length ≤ 4294967296) then
                          bif (v7 == false) then
                            bif (decide (0 ≤ v9) && decide (v9 < ((allT x0).length : Int))) then
                              bif smT ((allT x0).getD (v9).toNat .nil) then
                                t5_lp8 Tryd.prog Tryd.f5 N n x0 x1 (eqT ((allT x0).getD (v9).toNat .nil) x1) ((v8 ++ (textT ((allT x0).getD (v9).toNat .nil))) ++ ([32] : List UInt8)) (IntKind.wrap .i64 (v9 + 1))
                              else none
                            else none
                          else t5_lp8 Tryd.prog Tryd.f5 N n x0 x1 true ((v8 ++ (textT ((allT x0).getD (v9).toNat .nil))) ++ ([32] : List UInt8)) (IntKind.wrap .i64 (v9 + 1))
                        else none
                      else none
                    else none
                else none
              else none
            else bif (decide (0 ≤ v9) && decide (v9 < ((allT x0).length : Int))) then
                bif decide ((v8).length + (textT ((allT x0).getD (v9).toNat .nil)).length ≤ 4294967296) then
                  bif decide (((v8 ++ (textT ((allT x0).getD (v9).toNat .nil)))).length + (([32] : List UInt8)).length ≤ 4294967296) then
                    bif (v7 == false) then
                      bif (decide (0 ≤ v9) && decide (v9 < ((allT x0).length : Int))) then
                        bif smT ((allT x0).getD (v9).toNat .nil) then
                          t5_lp8 Tryd.prog Tryd.f5 N n x0 x1 (eqT ((allT x0).getD (v9).toNat .nil) x1) ((v8 ++ (textT ((allT x0).getD (v9).toNat .nil))) ++ ([32] : List UInt8)) (IntKind.wrap .i64 (v9 + 1))
                        else none
                      else none
                    else t5_lp8 Tryd.prog Tryd.f5 N n x0 x1 true ((v8 ++ (textT ((allT x0).getD (v9).toNat .nil))) ++ ([32] : List UInt8)) (IntKind.wrap .i64 (v9 + 1))
                  else none
                else none
              else none
        else none
      else some (dat 4 (.lit (.bool false)))
    else none
  else t5_lp17 Tryd.prog Tryd.f5 N N x0 x1 v7 v8 v9 n 0 := by kernel_rfl
theorem t5 (N : Nat) (x0 : Int) (x1 : D) : evFn Tryd.prog (envH SL []) t5_h N Tryd.f5 [dat 3 (.lit (.int .i64 x0)), dat 24 x1] =
  bif ((decide (x0 < 1)) == false) then
    bif ((decide (x0 > 15)) == false) then
      bif (decide (0 ≤ 100) && decide (100 < ((101 : Nat) : Int)) && decide (101 ≤ 101)) then
        bif decide ((szK 101 x1 100) > 100) then
          some (dat 4 (.lit (.bool true)))
        else t5_lp8 Tryd.prog Tryd.f5 N N x0 x1 false ([] : List UInt8) 0
      else none
    else some (dat 4 (.lit (.bool true)))
  else some (dat 4 (.lit (.bool true))) := by kernel_rfl

end X
end Go.Proofs.YtbabfocagkkboaaDoor

namespace Go.Proofs.YtbabfocagkkboaaDoor
namespace X
open Go.Ev
set_option linter.unusedVariables false
set_option linter.unusedSimpArgs false

theorem k5 : FnOK Tryd.prog 5 Tryd.f5 := ⟨Tryd.func5, rfl, by kernel_rfl⟩
theorem pre100 : (decide (0 ≤ 100) && decide (100 < ((101 : Nat) : Int)) && decide (101 ≤ 101)) = true := rfl
/-- What is known of all trees of a set. -/
structure AllOK (x : Int) : Prop where
  one : ∀ t ∈ allT x, mayT t = true ∧ setT t = x ∧ smT t = true ∧ (textT t).length ≤ 10
  pair : ∀ i k, i < (allT x).length → k < i → eqT ((allT x).getD i .nil) ((allT x).getD k .nil) = false
  next : ∀ i, i < (allT x).length → 0 < i → (textT ((allT x).getD i .nil) == textT ((allT x).getD (i - 1) .nil)) = false
  cnt : cntChk x = true
  len : lenChk x = true
  few : (allT x).length ≤ 120
theorem all_of {x : Int} (h1 : 1 ≤ x) (h2 : x ≤ 15) : AllOK x := by
  have h := all_ok h1 h2
  simp only [allChk, Bool.and_eq_true, decide_eq_true_eq] at h
  obtain ⟨⟨⟨⟨⟨a, b⟩, c⟩, d⟩, e⟩, f⟩ := h
  refine ⟨fun t ht => ?_, fun i k hi hk => ?_, fun i hi h0 => ?_, d, e, f⟩
  · rw [List.all_eq_true] at a
    have := a t ht
    simp only [oneChk, Bool.and_eq_true, decide_eq_true_eq, beq_iff_eq] at this
    exact ⟨this.1.1.1.1, this.1.1.1.2, this.1.1.2, this.2⟩
  · unfold pairChk at b
    rw [List.all_eq_true] at b
    have := b i (List.mem_range.2 hi)
    rw [List.all_eq_true] at this
    have := this k (List.mem_range.2 hk)
    simpa using this
  · unfold nextChk at c
    rw [List.all_eq_true] at c
    have := c i (List.mem_range.2 hi)
    rw [Bool.or_eq_true] at this
    rcases this with h | h
    · have : i = 0 := by simpa using h
      omega
    · cases hh : (textT ((allT x).getD i .nil) == textT ((allT x).getD (i - 1) .nil)) with
      | false => rfl
      | true => rw [hh] at h; cases h
theorem in_loop {N m0 m1 : Nat} {x0 : Int} {x1 : D} {v7 : Bool} {v8 : List UInt8} {v9 : Int} (A : AllOK x0) {i : Nat} (hi : i < (allT x0).length) : ∀ (n k : Nat), k ≤ i → i - k < n →
    t5_lp20 Tryd.prog Tryd.f5 N n x0 x1 v7 v8 v9 m0 (i : Int) m1 (k : Int) = t5_lp17 Tryd.prog Tryd.f5 N m1 x0 x1 v7 v8 v9 m0 (IntKind.wrap .i64 ((i : Int) + 1))
  | 0, k, _, h => by omega
  | n + 1, k, hk, h => by
    have hf := A.few
    rw [t5_lp20_step]
    by_cases hlt : k < i
    · have h1 : decide ((k : Int) < (i : Int)) = true := by rw [decide_eq_true_eq]; omega
      have hsm := (A.one _ (List.getElem_mem hi)).2.2.1
      rw [h1, cond_true, idx_ok hi, cond_true, idx_ok (show k < (allT x0).length by omega), cond_true, Int.toNat_natCast, Int.toNat_natCast, A.pair i k hi hlt, getD_lt hi, hsm, cond_true, cond_false, wrap_step (n := (allT x0).length) (by unfold maxLen; omega) (show k < (allT x0).length by omega)]
      exact in_loop A hi n (k + 1) (by omega) (by omega)
    · have h1 : decide ((k : Int) < (i : Int)) = false := by rw [decide_eq_false_iff_not]; omega
      rw [h1, cond_false]
theorem out_loop {N m0 : Nat} {x0 : Int} {x1 : D} {v7 : Bool} {v8 : List UInt8} {v9 : Int} (A : AllOK x0) (hN : 121 ≤ N) (h7 : v7 = (setT x1 == x0)) (h8 : (allT x0).length ≤ v8.length) : ∀ (n i : Nat), i ≤ (allT x0).length → (allT x0).length - i < n →
    t5_lp17 Tryd.prog Tryd.f5 N n x0 x1 v7 v8 v9 m0 (i : Int) = some (dat 4 (.lit (.bool true)))
  | 0, i, _, h => by omega
  | n + 1, i, hi, h => by
    have hf := A.few
    rw [t5_lp17_step]
    by_cases hlt : i < (allT x0).length
    · have h1 : decide ((i : Int) < ((allT x0).length : Int)) = true := by simpa using hlt
      have hin := in_loop (N := N) (m0 := m0) (m1 := n) (x1 := x1) (v7 := v7) (v8 := v8) (v9 := v9) A hlt N 0 (Nat.zero_le _) (by omega)
      rw [wrap_step (n := (allT x0).length) (by unfold maxLen; omega) hlt] at hin
      rw [h1, cond_true]
      refine Eq.trans hin ?_
      exact out_loop A hN h7 h8 n (i + 1) (by omega) (by omega)
    · have h1 : decide ((i : Int) < ((allT x0).length : Int)) = false := by simpa using hlt
      have hc := A.cnt
      have hl := A.len
      unfold cntChk at hc
      unfold lenChk at hl
      have h9 : decide (((v8.length : Nat) : Int) ≥ ((allT x0).length : Int)) = true := by rw [decide_eq_true_eq]; omega
      have h10 : (v7 == (setT x1 == x0)) = true := by rw [h7]; simp
      rw [h1, cond_false]
      refine Eq.trans (congrArg (fun b => bif b then _ else _) hc) ?_
      rw [cond_true, hl, h10, h9]
      rfl
theorem first_loop {N : Nat} {x0 : Int} {x1 : D} (A : AllOK x0) (hN : 121 ≤ N) (h7 : ((allT x0).any fun y => eqT y x1) = (setT x1 == x0)) : ∀ (n i : Nat) (v8 : List UInt8), i ≤ (allT x0).length → (allT x0).length - i < n → v8.length ≤ 11 * i → i ≤ v8.length →
    t5_lp8 Tryd.prog Tryd.f5 N n x0 x1 (((allT x0).take i).any fun y => eqT y x1) v8 (i : Int) = some (dat 4 (.lit (.bool true)))
  | 0, i, v8, _, h, _, _ => by omega
  | n + 1, i, v8, hi, h, hv, hv2 => by
    have hf := A.few
    rw [t5_lp8_step]
    by_cases hlt : i < (allT x0).length
    · have h1 : decide ((i : Int) < ((allT x0).length : Int)) = true := by simpa using hlt
      obtain ⟨g1, g2, g3, g4⟩ := A.one _ (List.getElem_mem hlt)
      have hg : (allT x0).getD i .nil = (allT x0)[i] := getD_lt hlt
      have hne : (setT (allT x0)[i] != x0) = false := by rw [g2]; simp
      have d1 : decide (v8.length + (textT (allT x0)[i]).length ≤ 4294967296) = true := by rw [decide_eq_true_eq]; omega
      have d2 : decide ((v8 ++ textT (allT x0)[i]).length + (([32] : List UInt8)).length ≤ 4294967296) = true := by rw [decide_eq_true_eq]; simp only [List.length_append, List.length_cons, List.length_nil]; omega
      have hany : (((allT x0).take (i + 1)).any fun y => eqT y x1) = ((((allT x0).take i).any fun y => eqT y x1) || eqT (allT x0)[i] x1) := by
        rw [List.take_succ_eq_append_getElem hlt, List.any_append]
        simp
      have hrest : ∀ b : Bool, b = (((allT x0).take (i + 1)).any fun y => eqT y x1) → t5_lp8 Tryd.prog Tryd.f5 N n x0 x1 b (v8 ++ textT (allT x0)[i] ++ ([32] : List UInt8)) ((i + 1 : Nat) : Int) = some (dat 4 (.lit (.bool true))) := by
        intro b hb
        rw [hb]
        exact first_loop A hN h7 n (i + 1) _ (by omega) (by omega) (by simp only [List.length_append, List.length_cons, List.length_nil]; omega) (by simp only [List.length_append, List.length_cons, List.length_nil]; omega)
      have hw := wrap_step (n := (allT x0).length) (by unfold maxLen; omega) hlt
      have hA : (bif ((((allT x0).take i).any fun y => eqT y x1) == false) then
                      bif smT (allT x0)[i] then
                        t5_lp8 Tryd.prog Tryd.f5 N n x0 x1 (eqT (allT x0)[i] x1) (v8 ++ textT (allT x0)[i] ++ ([32] : List UInt8)) ((i + 1 : Nat) : Int)
                      else none
                    else t5_lp8 Tryd.prog Tryd.f5 N n x0 x1 true (v8 ++ textT (allT x0)[i] ++ ([32] : List UInt8)) ((i + 1 : Nat) : Int)) = some (dat 4 (.lit (.bool true))) := by
        cases hb : ((allT x0).take i).any fun y => eqT y x1 with
        | true =>
          rw [show (true == false) = false from rfl, cond_false]
          exact hrest true (by rw [hany, hb]; rfl)
        | false =>
          rw [show (false == false) = true from rfl, cond_true, g3, cond_true]
          exact hrest _ (by rw [hany, hb, Bool.false_or])
      rw [idx_ok hlt, h1, cond_true, cond_true, Int.toNat_natCast, hg, g1, hne, d1, d2, hw]
      simp only [Bool.not_true, beq_self_eq_true, cond_true, cond_false]
      by_cases h0 : 0 < i
      · have e0 : decide ((i : Int) > 0) = true := by rw [decide_eq_true_eq]; omega
        have ew : IntKind.wrap .i64 ((i : Int) - 1) = ((i - 1 : Nat) : Int) := by rw [wrap_in (by rw [inR_iff]; omega)]; omega
        have hnx := A.next i hlt h0
        rw [hg] at hnx
        rw [e0, ew, idx_ok (show i - 1 < (allT x0).length by omega), Int.toNat_natCast, hnx]
        simp only [beq_self_eq_true, cond_true, cond_false]
        exact hA
      · have e0 : decide ((i : Int) > 0) = false := by rw [decide_eq_false_iff_not]; omega
        rw [e0, show (false == true) = false from rfl, cond_false]
        exact hA
    · have h1 : decide ((i : Int) < ((allT x0).length : Int)) = false := by simpa using hlt
      have hi2 : i = (allT x0).length := by omega
      rw [h1, cond_false]
      refine out_loop (m0 := n) A hN ?_ (by omega) N 0 (Nat.zero_le _) (by omega)
      rw [hi2, List.take_length]
      exact h7
theorem law5 (x0 x1 : D) : CallOK Tryd.prog 5 [dat 3 x0, dat 24 x1] (dat 4 (.lit (.bool true))) := by
  refine CallOK.typed k5.ex (.inl rfl) fun hty => ?_
  obtain ⟨_, ty0⟩ := hty (dat 3 x0) (by simp)
  obtain ⟨_, ty1⟩ := hty (dat 24 x1) (by simp)
  have ty0 : Ty Tryd.prog _ 3 x0 := ty0
  have ty1 : Ty Tryd.prog _ 24 x1 := ty1
  obtain ⟨z, rfl, hz⟩ := ty3' ty0
  refine fn_ok (t := 4) (d := .lit (.bool true)) hm envSL k5 ((t5 200 z x1).trans ?_)
  rw [m4]
  show _ = some (dat 4 (.lit (.bool true)))
  rw [pre100]
  by_cases h1 : z < 1
  · have d : decide (z < 1) = true := by simpa using h1
    rw [d]; rfl
  · have d : decide (z < 1) = false := by simpa using h1
    rw [d, show (false == false) = true from rfl, cond_true]
    by_cases h2 : z > 15
    · have d : decide (z > 15) = true := by simpa using h2
      rw [d]; rfl
    · have d : decide (z > 15) = false := by simpa using h2
      rw [d, show (false == false) = true from rfl, cond_true, cond_true]
      by_cases ha : szK 101 x1 100 > 100
      · have d : decide (szK 101 x1 100 > 100) = true := by simpa using ha
        rw [d]; rfl
      · have d : decide (szK 101 x1 100 > 100) = false := by simpa using ha
        have hok := (few_small (t := x1) (by omega)).1
        have c1 := ty_cano ty1 hok
        have hfound := all_found (x := z) (by omega) (by omega) c1 (by omega) (okT_le hok (by omega))
        rw [d, cond_false]
        have := first_loop (N := 200) (all_of (x := z) (by omega) (by omega)) (by omega) hfound 200 0 [] (Nat.zero_le _) (by have := (all_of (x := z) (by omega) (by omega)).few; omega) (by simp) (by simp)
        exact this
end X
end Go.Proofs.YtbabfocagkkboaaDoor

namespace Go.Proofs.YtbabfocagkkboaaDoor
open Go.Ev
open Go.ChangeShapes Go.WideShapes Go.ChangeAt Go.RowKit
set_option linter.unusedVariables false

namespace treeAllLaw

theorem own : ownKnob Tryd.prog.godebug = none := by kernel_rfl
theorem laidOut : laidOutB Tryd.prog = true := by kernel_rfl
theorem types : okTypes Tryd.prog [3, 22, 24] = true := by kernel_rfl

def valsOf (d : DataW Unit) : Array Value := match d with
  | .agg l => (l.filterMap fun x => match x with | .lit (.int k z) => some (Value.int k z) | _ => none).toArray
  | _ => #[]
/-- A world in which the tables are laid. -/
noncomputable def laidWorld (os : Os) : World :=
  let w0 := World.holding Tryd.prog os ⟨#[], #[], []⟩
  let put (h : Array Obj) (g : Nat) (cs : Array Value) : Array Obj := h.modify g fun
    | .cells _ t frozen => .cells cs t frozen
    | o => o
  { w0 with heap := put (put (put w0.heap 2 (valsOf Rows.laid_internal_strconv_uint64pow10)) 0 (valsOf Rows.laid_math_bits_deBruijn32tab)) 1 (valsOf Rows.laid_math_bits_deBruijn64tab) }
theorem laid_met (os : Os) (args : Array Value) : laidMetH Tryd.prog Rows.treeAllRow.laid ((laidWorld os).forCall (fun _ _ => 0) ⟨#[], args, []⟩).memory :=
  show laidMet _ _ _ from laidMet_of_run' 8 (by kernel_rfl) (by kernel_rfl)

/-- What the row's condition gives: the tables. -/
theorem tab_of {W : World} (h : laidMetH Tryd.prog Rows.treeAllRow.laid W) : TabOn Tryd.prog (fun _ => False) W := by
  have h' : laidMet Tryd.prog [("math/bits.deBruijn32tab", Rows.laid_math_bits_deBruijn32tab), ("math/bits.deBruijn64tab", Lib.tabData .u8 deBruijn), ("internal/strconv.uint64pow10", Lib.tabData .u64 ((List.range 20).map fun i => (10 : Int) ^ i))] W := h
  obtain ⟨ps, ⟨_, _, _, _, _, _, _, _, _, _, ⟨g1, t1, cs1, fuel1, p1, q1, hg1, ht1, hvar1, hd1, ⟨g', t', cs, fuel, p, q, hg', ht', hvar, hd, _, _⟩, _⟩, _⟩, _⟩ := h'
  obtain rfl := Option.some.inj ((show Tryd.prog.globalNamed "internal/strconv.uint64pow10" = some 2 by kernel_rfl).symm.trans hg')
  obtain rfl := Option.some.inj ((show (Tryd.prog.globals[2]?).map (·.type) = some 69 by kernel_rfl).symm.trans ht')
  obtain rfl := Option.some.inj ((show Tryd.prog.globalNamed "math/bits.deBruijn64tab" = some 1 by kernel_rfl).symm.trans hg1)
  obtain rfl := Option.some.inj ((show (Tryd.prog.globals[1]?).map (·.type) = some 62 by kernel_rfl).symm.trans ht1)
  have hT : Lib.TabIs Tryd.prog W "internal/strconv.uint64pow10" .u64 ((List.range 20).map fun i => (10 : Int) ^ i) := by
    unfold Lib.TabIs
    rw [hvar, ← Lib.cells_of_tab Tryd.underlying69 Tryd.underlying60 (by kernel_rfl) (by kernel_rfl) hd]
  have hT1 : Lib.TabIs Tryd.prog W "math/bits.deBruijn64tab" .u8 deBruijn := by
    unfold Lib.TabIs
    rw [hvar1, ← Lib.cells_of_tab Tryd.underlying62 Tryd.underlying5 (by kernel_rfl) (by kernel_rfl) hd1]
  have hB := Lib.tabBelow_of_tabIs hT
  have hB1 := Lib.tabBelow_of_tabIs hT1
  intro w' hw x hx hv
  rcases List.mem_cons.1 hx with hx | hx
  · subst hx
    exact hB w' (hw.plain (fun _ h => h))
  · have hx := List.mem_singleton.1 hx
    subst hx
    exact hB1 w' (hw.plain (fun _ h => h))

set_option maxRecDepth 100000 in
theorem lifted (os : Os) (started : os.Started) (H : Type) (enc : TypeId × Value → H) :
    ReturnsInHanded {} Tryd.checked os 5 .any (fun w args => (Rows.treeAllSpec.pre enc Tryd.prog Tryd.f5 Rows.treeAllRow.domain false w args ∧ laidMetH Tryd.prog Rows.treeAllRow.laid w) ∧ sizedMet enc Tryd.prog Tryd.f5 (OpenSpec.ofChange Rows.treeAllSpec) false w args)
      (Rows.treeAllSpec.post enc Tryd.prog Tryd.f5 false true false false) := by
  refine returnsInHanded_of_change_and (C := Tryd.checked) (X := fun w _ => laidMetH Tryd.prog Rows.treeAllRow.laid w) (fun _ _ _ hh h => h.of_heap hh) own started (by kernel_rfl) Tryd.func5
    (ChangeSpec.witness_at (enc := enc) (C := Tryd.checked) (os := os) (X := fun w _ => laidMetH Tryd.prog Rows.treeAllRow.laid w) false (laidWorld os) #[.int .i64 0, .agg #[.int .i64 0, .slice none 0 0]] 8 rfl (by kernel_rfl) (by kernel_rfl) (by kernel_rfl) (by kernel_rfl) (by kernel_rfl) (laid_met os _)) ?_
  intro W base args ds gs before hval0 hW _ _ hL _
  have hval : ∀ (j : Nat) t v, Tryd.f5.params[j]? = some t → args[j]? = some v → Value.okWide Tryd.prog W .any base t v := hval0
  have hW' := hW
  obtain ⟨p, q, hA0, hV, rfl, hfz, hnd⟩ := hW
  have hA : DataW.TrodAll enc Tryd.prog W 0 (fun _ => true) true Tryd.f5.params.toList args.toList ds p := hA0
  rw [Tryd.params5] at hA hval
  obtain ⟨v0, vs0, d0, ds0, p0, q0, hargs, rfl, rfl, h0, r0⟩ := trodAll_cons hA
  obtain ⟨v1, vs1, d1, ds1, p1, q1, rfl, rfl, rfl, h1, r1⟩ := trodAll_cons r0
  obtain ⟨rfl, rfl, rfl⟩ := trodAll_nil r1
  obtain rfl : args = #[v0, v1] := by cases args; simp_all
  obtain ⟨rfl, rfl⟩ := trodVars_none hV
  have lt0 : ∀ x ∈ p0, x.block < W.heap.size := by obtain ⟨m, hm⟩ := h0; exact DataW.trod_lt m _ _ _ hm
  obtain ⟨n0, x0, ty0, rep0⟩ := arg_rep types (by decide) (hval 0 3 v0 rfl rfl) h0
  have lt1 : ∀ x ∈ p1, x.block < W.heap.size := by obtain ⟨m, hm⟩ := h1; exact DataW.trod_lt m _ _ _ hm
  obtain ⟨n1, x1, ty1, rep1⟩ := arg_rep types (by decide) (hval 1 24 v1 rfl rfl) h1
  clear hA0 hval0
  refine (calls_true Tryd.underlying4 (tab_of hL) (X.law5 x0 x1) (w := W) (vs := [v0, v1]) ⟨⟨rfl, rep0⟩, ⟨rfl, rep1⟩, trivial⟩).mono fun e W' ⟨he, bel⟩ => ?_
  subst he
  exact ⟨_, rfl, _, _, _, [], _, [], hW', trodAll_mk1 (shut_bool Tryd.underlying4 _), (trodAll_cons_mk (Below.trod laidOut (by kernel_rfl) (of_decide_eq_true (by kernel_rfl)) h0 bel lt0) (trodAll_cons_mk (Below.trod laidOut (by kernel_rfl) (of_decide_eq_true (by kernel_rfl)) h1 bel lt1) trodAll_mk0)), rfl, bel.frame _, fun h => by cases h⟩

theorem over : Rows.treeAllRow.holds Tryd.pinned (OpenSpec.ofChange Rows.treeAllSpec) :=
  OpenClaim.holds_of_wide 5 Tryd.f5 rfl rfl rfl rfl rfl rfl rfl ⟨rfl, rfl, rfl, rfl, rfl⟩ rfl rfl rfl rfl rfl (by kernel_rfl) Tryd.func5 (by kernel_rfl)
    (of_decide_eq_true (by kernel_rfl)) (by unfold Func.isWrapper; first | (rw [if_pos (by decide +kernel)]; kernel_rfl) | (rw [if_neg (by decide +kernel)]; exact ⟨rfl, rfl⟩))
    (fun os started H enc _ => lifted os started H enc)

end treeAllLaw

/-- The statement. -/
theorem treeAllProved : Rows.TreeAllCardSaid :=
  Claim7.holds_tied_plain_at .later [] [.data, .data, .data] true (true, "9bc0f571c8058ed4b83d555bdca7df4b328b4fcd7765dacf30626d61e2885453") false
    treeAllLaw.over (fun _ h => by cases h) (by kernel_rfl) (fun _ h => by cases h) treeAll_row_tie rfl ⟨rfl, rfl⟩ (by kernel_rfl) rfl
    (fun f fn hf hfn => by
      obtain rfl : f = 5 := Option.some.inj ((show Tryd.prog.funcNamed "roadbook/roadbooklaw06.TreeAll" = some 5 by kernel_rfl).symm.trans hf) |>.symm
      obtain rfl : fn = Tryd.f5 := (Option.some.inj (Tryd.func5.symm.trans hfn)).symm
      exact ⟨by kernel_rfl, fun j t ht => by
        rw [Tryd.params5] at ht
        rcases j with _ | _ | j
        · obtain rfl : t = 3 := by simpa using ht.symm
          exact (show Tryd.prog.wantsStandIn 3 = false by kernel_rfl)
        · obtain rfl : t = 24 := by simpa using ht.symm
          exact (show Tryd.prog.wantsStandIn 24 = false by kernel_rfl)
        · simp at ht⟩)
    (by kernel_rfl)

end Go.Proofs.YtbabfocagkkboaaDoor
