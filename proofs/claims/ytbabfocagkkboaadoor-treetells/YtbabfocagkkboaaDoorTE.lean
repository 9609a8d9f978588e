/- What the evaluator comes to, function by function: by the kernel. Nothing here is trusted. -/
import Derived.Test.YtbabfocagkkboaaDoorTD
namespace Go.Proofs.YtbabfocagkkboaaDoor
namespace X
open Go.Ev
set_option linter.unusedVariables false
/- roadbook/tree.All -/
def t27_h : Hints := fun i => if i = 7 then some ([1, 2, 5, 6, 7, 8, 9, 10, 11, 12, 13, 14, 15, 16, 17, 18, 19, 20, 21, 22, 23, 24, 25, 26, 27, 28, 29, 30, 31, 32, 33, 34, 35, 36, 37, 38], [3], []) else none
def t27_lp7 (P : Program) (fn : Func) (K : Nat) (N n : Nat) (x0 : Int) (v4 : Int) (b3 : List D) : Option AV := evLoop (preL t27_h (sub [1, 1, 1, 1, 0, 1, 0, 0] (bodyOf fn))) (evCode P (envH (SA K) []) t27_h N (sub [1, 1, 1, 1, 0, 1, 0, 0] (bodyOf fn))) n ⟨[dat 3 (.lit (.int .i64 x0)), dead, dead, bxp 3 22, dat 3 (.lit (.int .i64 v4)), dead, dead, dead, dead, dead, dead, dead, dead, dead, dead, dead, dead, dead, dead, dead, dead, dead, dead, dead, dead, dead, dead, dead, dead, dead, dead, dead, dead, dead, dead, dead, dead, dead, dead], lookB [(3, some ⟨22, .slice b3 [], 1, none⟩)]⟩ (blockK 0 (seqC P (envH (SA K) []) t27_h N (sub [1, 1, 1, 1, 1] (bodyOf fn)) (finK P fn) ))
theorem t27_lp7_step (K : Nat) (N n : Nat) (x0 : Int) (v4 : Int) (b3 : List D) : t27_lp7 Tryd.prog Tryd.f27 K N (n + 1) x0 v4 b3 =
  bif decide (v4 < x0) then
    bif ((andNotI .i64 v4 x0) == 0) then
      bif (decide (1 ≤ v4) && decide (v4 < (K : Int))) then
        bif (decide (1 ≤ (andNotI .i64 x0 v4)) && decide ((andNotI .i64 x0 v4) < (K : Int))) then
          bif joinPre (allT v4) (allT (andNotI .i64 x0 v4)) then
            bif decide ((b3).length + (joinL (allT v4) (allT (andNotI .i64 x0 v4))).length ≤ 2147483648) then
              t27_lp7 Tryd.prog Tryd.f27 K N n x0 (IntKind.wrap .i64 (v4 + 1)) (b3 ++ (joinL (allT v4) (allT (andNotI .i64 x0 v4))))
            else none
          else none
        else none
      else none
    else t27_lp7 Tryd.prog Tryd.f27 K N n x0 (IntKind.wrap .i64 (v4 + 1)) b3
  else some (dat 22 (.slice b3 [])) := by kernel_rfl
theorem t27 (K : Nat) (N : Nat) (x0 : Int) : evFn Tryd.prog (envH (SA K) []) t27_h N Tryd.f27 [dat 3 (.lit (.int .i64 x0))] =
  bif ((decide (x0 < 1)) == false) then
    bif decide (x0 ≥ 16) then
      some (dat 22 (.slice [] []))
    else bif (decide (0 ≤ (IntKind.wrap .u64 x0)) && decide ((IntKind.wrap .u64 x0) < 16)) then
        bif ((popI (IntKind.wrap .u64 x0)) == 1) then
          bif tzPre (IntKind.wrap .u64 x0) then
            some (dat 22 (.slice [leafD (tzI (IntKind.wrap .u64 x0))] []))
          else none
        else t27_lp7 Tryd.prog Tryd.f27 K N N x0 1 []
      else none
  else some (dat 22 (.slice [] [])) := by kernel_rfl

end X
end Go.Proofs.YtbabfocagkkboaaDoor

namespace Go.Proofs.YtbabfocagkkboaaDoor
namespace X
open Go.Ev
set_option linter.unusedVariables false
set_option linter.unusedSimpArgs false
set_option maxRecDepth 100000

theorem k27 : FnOK Tryd.prog 27 Tryd.f27 := ⟨Tryd.func27, rfl, by kernel_rfl⟩
theorem t27_1 : evFn Tryd.prog (envH (SA 1) []) t27_h 20 Tryd.f27 [dat 3 (.lit (.int .i64 1))] = some (dat 22 (.slice (allT 1) [])) := by kernel_rfl
theorem t27_2 : evFn Tryd.prog (envH (SA 2) []) t27_h 20 Tryd.f27 [dat 3 (.lit (.int .i64 2))] = some (dat 22 (.slice (allT 2) [])) := by kernel_rfl
theorem t27_3 : evFn Tryd.prog (envH (SA 3) []) t27_h 20 Tryd.f27 [dat 3 (.lit (.int .i64 3))] = some (dat 22 (.slice (allT 3) [])) := by kernel_rfl
theorem t27_4 : evFn Tryd.prog (envH (SA 4) []) t27_h 20 Tryd.f27 [dat 3 (.lit (.int .i64 4))] = some (dat 22 (.slice (allT 4) [])) := by kernel_rfl
theorem t27_5 : evFn Tryd.prog (envH (SA 5) []) t27_h 20 Tryd.f27 [dat 3 (.lit (.int .i64 5))] = some (dat 22 (.slice (allT 5) [])) := by kernel_rfl
theorem t27_6 : evFn Tryd.prog (envH (SA 6) []) t27_h 20 Tryd.f27 [dat 3 (.lit (.int .i64 6))] = some (dat 22 (.slice (allT 6) [])) := by kernel_rfl
theorem t27_7 : evFn Tryd.prog (envH (SA 7) []) t27_h 20 Tryd.f27 [dat 3 (.lit (.int .i64 7))] = some (dat 22 (.slice (allT 7) [])) := by kernel_rfl
theorem t27_8 : evFn Tryd.prog (envH (SA 8) []) t27_h 20 Tryd.f27 [dat 3 (.lit (.int .i64 8))] = some (dat 22 (.slice (allT 8) [])) := by kernel_rfl
theorem t27_9 : evFn Tryd.prog (envH (SA 9) []) t27_h 20 Tryd.f27 [dat 3 (.lit (.int .i64 9))] = some (dat 22 (.slice (allT 9) [])) := by kernel_rfl
theorem t27_10 : evFn Tryd.prog (envH (SA 10) []) t27_h 20 Tryd.f27 [dat 3 (.lit (.int .i64 10))] = some (dat 22 (.slice (allT 10) [])) := by kernel_rfl
theorem t27_11 : evFn Tryd.prog (envH (SA 11) []) t27_h 20 Tryd.f27 [dat 3 (.lit (.int .i64 11))] = some (dat 22 (.slice (allT 11) [])) := by kernel_rfl
theorem t27_12 : evFn Tryd.prog (envH (SA 12) []) t27_h 20 Tryd.f27 [dat 3 (.lit (.int .i64 12))] = some (dat 22 (.slice (allT 12) [])) := by kernel_rfl
theorem t27_13 : evFn Tryd.prog (envH (SA 13) []) t27_h 20 Tryd.f27 [dat 3 (.lit (.int .i64 13))] = some (dat 22 (.slice (allT 13) [])) := by kernel_rfl
theorem t27_14 : evFn Tryd.prog (envH (SA 14) []) t27_h 20 Tryd.f27 [dat 3 (.lit (.int .i64 14))] = some (dat 22 (.slice (allT 14) [])) := by kernel_rfl
theorem t27_15 : evFn Tryd.prog (envH (SA 15) []) t27_h 20 Tryd.f27 [dat 3 (.lit (.int .i64 15))] = some (dat 22 (.slice (allT 15) [])) := by kernel_rfl
theorem allT_out {n : Int} (h : n < 1 ∨ 15 < n) : allT n = [] := by
  unfold allT
  have : (decide (1 ≤ n) && decide (n ≤ 15)) = false := by
    rw [Bool.and_eq_false_iff, decide_eq_false_iff_not, decide_eq_false_iff_not]
    omega
  rw [this, cond_false]
theorem all_out {K : Nat} (henv : EnvOK Tryd.prog (envH (SA K) [])) {z : Int} (h : z < 1 ∨ 15 < z) : CallOK Tryd.prog 27 [dat 3 (.lit (.int .i64 z))] (mkRes Tryd.prog 22 (.slice (allT z) [])) := by
  refine fn_ok hm henv k27 ((t27 K 20 z).trans ?_)
  rw [allT_out h, m22]
  by_cases h1 : z < 1
  · have d : decide (z < 1) = true := by simpa using h1
    rw [d]
    rfl
  · have d : decide (z < 1) = false := by simpa using h1
    have d2 : decide (z ≥ 16) = true := by rw [decide_eq_true_eq]; omega
    rw [d, d2]
    rfl
theorem all_at (K : Nat) (h0 : 1 ≤ K) (h1 : K ≤ 15) (henv : EnvOK Tryd.prog (envH (SA K) [])) : CallOK Tryd.prog 27 [dat 3 (.lit (.int .i64 (K : Int)))] (mkRes Tryd.prog 22 (.slice (allT (K : Int)) [])) := by
  match K, h0, h1, henv with
  | 1, _, _, henv => exact fn_ok hm henv k27 t27_1
  | 2, _, _, henv => exact fn_ok hm henv k27 t27_2
  | 3, _, _, henv => exact fn_ok hm henv k27 t27_3
  | 4, _, _, henv => exact fn_ok hm henv k27 t27_4
  | 5, _, _, henv => exact fn_ok hm henv k27 t27_5
  | 6, _, _, henv => exact fn_ok hm henv k27 t27_6
  | 7, _, _, henv => exact fn_ok hm henv k27 t27_7
  | 8, _, _, henv => exact fn_ok hm henv k27 t27_8
  | 9, _, _, henv => exact fn_ok hm henv k27 t27_9
  | 10, _, _, henv => exact fn_ok hm henv k27 t27_10
  | 11, _, _, henv => exact fn_ok hm henv k27 t27_11
  | 12, _, _, henv => exact fn_ok hm henv k27 t27_12
  | 13, _, _, henv => exact fn_ok hm henv k27 t27_13
  | 14, _, _, henv => exact fn_ok hm henv k27 t27_14
  | 15, _, _, henv => exact fn_ok hm henv k27 t27_15
  | K + 16, _, h, _ => omega
theorem all_lt : ∀ (K : Nat), K ≤ 16 → ∀ z : Int, 1 ≤ z → z < (K : Int) → CallOK Tryd.prog 27 [dat 3 (.lit (.int .i64 z))] (mkRes Tryd.prog 22 (.slice (allT z) []))
  | 0, _, z, h0, h1 => by omega
  | K + 1, hK, z, h0, h1 => by
    by_cases h : z < (K : Int)
    · exact all_lt K (by omega) z h0 h
    · obtain rfl : z = (K : Int) := by omega
      refine all_at K (by omega) (by omega) (envOK_cons' envSC ?_)
      exact ent1p k27 fun x d hq hd ⟨_, hx⟩ => by
        cases hd
        obtain ⟨u, rfl, hu⟩ := ty3' hx
        rw [n3]
        have hq : (decide (1 ≤ u) && decide (u < (K : Int))) = true := hq
        rw [Bool.and_eq_true, decide_eq_true_eq, decide_eq_true_eq] at hq
        exact all_lt K (by omega) u hq.1 hq.2
def eAll : FuncId × TypeId × (List AV → Bool) × (List AV → Option D) := (27, 22, yes, ent [3] (f1 fun x => some (.slice (allT (intD x)) [])))
theorem envSA1 : EnvOK Tryd.prog (envH (SA 1) []) := envOK_cons' envSC (ent1p k27 fun x d hq hd ⟨_, hx⟩ => by
  exfalso
  have hq : (decide (1 ≤ intD x) && decide (intD x < ((1 : Nat) : Int))) = true := hq
  rw [Bool.and_eq_true, decide_eq_true_eq, decide_eq_true_eq] at hq
  omega)
theorem cAll : ∀ args d, eAll.2.2.2 args = some d → CallOK Tryd.prog 27 args (mkRes Tryd.prog 22 d) :=
  ent1 k27 fun x d hd ⟨_, hx⟩ => by
    cases hd
    obtain ⟨z, rfl, hz⟩ := ty3' hx
    rw [n3]
    show CallOK Tryd.prog 27 [dat 3 (.lit (.int .i64 z))] (mkRes Tryd.prog 22 (.slice (allT z) []))
    by_cases h : 1 ≤ z ∧ z < 16
    · exact all_lt 16 (Nat.le_refl _) z h.1 h.2
    · exact all_out envSA1 (by omega)
/-- All that the laws call. -/
def SD : Tab := eAll :: e21 :: e11 :: e10 101 :: S8
theorem envSD : EnvOK Tryd.prog (envH SD []) := envOK_cons (envOK_cons (envOK_cons (envOK_cons' envS8 (c10 100 (envS9 100))) c11) c21) cAll
theorem k9 : FnOK Tryd.prog 9 Tryd.f9 := ⟨Tryd.func9, rfl, by kernel_rfl⟩
theorem t9 : evFn Tryd.prog (envH SD []) noH 1 Tryd.f9 [] = some (dat 4 (.lit (.bool true))) := by kernel_rfl
def e9 : FuncId × TypeId × (List AV → Bool) × (List AV → Option D) := (9, 4, yes, ent [] (f0 (some (.lit (.bool true)))))
theorem c9 : ∀ args d, e9.2.2.2 args = some d → CallOK Tryd.prog 9 args (mkRes Tryd.prog 4 d) :=
  ent0 fun d h => by
    cases h
    exact fn_ok hm envSD k9 t9
def SL : Tab := e9 :: SD
theorem envSL : EnvOK Tryd.prog (envH SL []) := envOK_cons envSD c9
end X
end Go.Proofs.YtbabfocagkkboaaDoor
