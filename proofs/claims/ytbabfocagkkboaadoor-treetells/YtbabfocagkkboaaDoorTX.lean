/- All: the parts of a set, in plain data. Nothing here is trusted. -/
import Derived.Test.YtbabfocagkkboaaDoorTY
namespace Go.Proofs.YtbabfocagkkboaaDoor
namespace X
open Go.Ev
set_option maxRecDepth 100000
def restC (n : Int) : Bool := eq2 eqT (restA n 14 1) (allT n)
theorem rest_3 : restC 3 = true := by kernel_rfl
theorem rest_5 : restC 5 = true := by kernel_rfl
theorem rest_6 : restC 6 = true := by kernel_rfl
theorem rest_7 : restC 7 = true := by kernel_rfl
theorem rest_9 : restC 9 = true := by kernel_rfl
theorem rest_10 : restC 10 = true := by kernel_rfl
theorem rest_11 : restC 11 = true := by kernel_rfl
theorem rest_12 : restC 12 = true := by kernel_rfl
theorem rest_13 : restC 13 = true := by kernel_rfl
theorem rest_14 : restC 14 = true := by kernel_rfl
theorem rest_15 : restC 15 = true := by kernel_rfl
theorem allT_cano {n : Int} {t : D} (h : t ∈ allT n) : cano 129 t := by
  unfold allT at h
  cases hb : (decide (1 ≤ n) && decide (n ≤ 15)) with
  | false => rw [hb] at h; cases h
  | true =>
    rw [hb, cond_true] at h
    exact cano_le (all_cano 16 _ t h) (by omega)
theorem rest_cano {n : Int} : ∀ (k p : Nat) (t : D), t ∈ restA n k p → cano 130 t
  | 0, p, t, h => by cases h
  | k + 1, p, t, h => by
    have hR : restA n (k + 1) p = (bif (andI .i64 (p : Int) n != (p : Int)) || ((p : Int) == n) then [] else joinL (allT (p : Int)) (allT (n - (p : Int)))) ++ restA n k (p + 1) := rfl
    rw [hR] at h
    rcases List.mem_append.1 h with h | h
    · cases hb : ((andI .i64 (p : Int) n != (p : Int)) || ((p : Int) == n)) with
      | true => rw [hb] at h; cases h
      | false =>
        rw [hb, cond_false] at h
        obtain ⟨a, ha, b, hb, rfl⟩ := mem_joinL.1 h
        exact cano_node (allT_cano ha) (allT_cano hb)
    · exact rest_cano k (p + 1) t h
theorem rest_eq {n : Int} (h : restC n = true) : restA n 14 1 = allT n :=
  eq2_eq (fun x hx y hy he => eqK_eq (rest_cano 14 1 x hx) (cano_le (allT_cano hy) (by omega : 129 ≤ 130)) he) h
end X
end Go.Proofs.YtbabfocagkkboaaDoor

namespace Go.Proofs.YtbabfocagkkboaaDoor
namespace X
open Go.Ev
set_option linter.unusedVariables false
set_option linter.unusedSimpArgs false
set_option maxRecDepth 100000

theorem t28_1 : evFn Tryd.prog (envH (R8 1) []) t28_h 20 Tryd.f28 [dat 3 (.lit (.int .i64 1))] = some (dat 22 (.slice (allT 1) [])) := by kernel_rfl
theorem t28_2 : evFn Tryd.prog (envH (R8 2) []) t28_h 20 Tryd.f28 [dat 3 (.lit (.int .i64 2))] = some (dat 22 (.slice (allT 2) [])) := by kernel_rfl
theorem t28_4 : evFn Tryd.prog (envH (R8 4) []) t28_h 20 Tryd.f28 [dat 3 (.lit (.int .i64 4))] = some (dat 22 (.slice (allT 4) [])) := by kernel_rfl
theorem t28_8 : evFn Tryd.prog (envH (R8 8) []) t28_h 20 Tryd.f28 [dat 3 (.lit (.int .i64 8))] = some (dat 22 (.slice (allT 8) [])) := by kernel_rfl
theorem t28_n {K : Nat} (h0 : 1 ≤ K) (h15 : K ≤ 15) (hp : (popI (K : Int) == 1) = false) (hr : restC (K : Int) = true) : evFn Tryd.prog (envH (R8 K) []) t28_h 2000 Tryd.f28 [dat 3 (.lit (.int .i64 (K : Int)))] = some (dat 22 (.slice (allT (K : Int)) [])) := by
  refine (t28 K 2000 (K : Int)).trans ?_
  have h1 : (decide ((K : Int) < 1) == false) = true := by
    have : decide ((K : Int) < 1) = false := by rw [decide_eq_false_iff_not]; omega
    rw [this]; rfl
  have h2 : decide ((K : Int) > 15) = false := by rw [decide_eq_false_iff_not]; omega
  have h3 : (decide (0 ≤ (K : Int)) && decide ((K : Int) < 16)) = true := by
    rw [Bool.and_eq_true, decide_eq_true_eq, decide_eq_true_eq]; omega
  rw [h1, h2, h3, hp, cond_true, cond_false, cond_true, cond_false]
  have := allr_top (K := K) (N := 2000) rfl h0 h15 (by omega) 2000 14 1 [] rfl (by omega) (by omega) (by simp)
  rw [rest_eq hr, List.nil_append] at this
  exact this
theorem allr_out {K : Nat} (henv : EnvOK Tryd.prog (envH (R8 K) [])) {z : Int} (h : z < 1 ∨ 15 < z) : CallOK Tryd.prog 28 [dat 3 (.lit (.int .i64 z))] (mkRes Tryd.prog 22 (.slice (allT z) [])) := by
  refine fn_ok hm henv k28 ((t28 K 20 z).trans ?_)
  rw [allT_out h, m22]
  by_cases h1 : z < 1
  · have d : decide (z < 1) = true := by simpa using h1
    rw [d]
    rfl
  · have d : decide (z < 1) = false := by simpa using h1
    have d2 : decide (z > 15) = true := by rw [decide_eq_true_eq]; omega
    rw [d, d2]
    rfl
theorem allr_at (K : Nat) (h0 : 1 ≤ K) (h1 : K ≤ 15) (henv : EnvOK Tryd.prog (envH (R8 K) [])) : CallOK Tryd.prog 28 [dat 3 (.lit (.int .i64 (K : Int)))] (mkRes Tryd.prog 22 (.slice (allT (K : Int)) [])) := by
  have gen := fun (hp : (popI (K : Int) == 1) = false) (hr : restC (K : Int) = true) => (fn_ok hm henv k28 ((t28_n h0 h1 hp hr).trans (by rw [m22])) : CallOK Tryd.prog 28 [dat 3 (.lit (.int .i64 (K : Int)))] (mkRes Tryd.prog 22 (.slice (allT (K : Int)) [])))
  match K, h0, h1, henv, gen with
  | 1, _, _, henv, _ => exact fn_ok hm henv k28 t28_1
  | 2, _, _, henv, _ => exact fn_ok hm henv k28 t28_2
  | 3, _, _, _, gen => exact gen rfl rest_3
  | 4, _, _, henv, _ => exact fn_ok hm henv k28 t28_4
  | 5, _, _, _, gen => exact gen rfl rest_5
  | 6, _, _, _, gen => exact gen rfl rest_6
  | 7, _, _, _, gen => exact gen rfl rest_7
  | 8, _, _, henv, _ => exact fn_ok hm henv k28 t28_8
  | 9, _, _, _, gen => exact gen rfl rest_9
  | 10, _, _, _, gen => exact gen rfl rest_10
  | 11, _, _, _, gen => exact gen rfl rest_11
  | 12, _, _, _, gen => exact gen rfl rest_12
  | 13, _, _, _, gen => exact gen rfl rest_13
  | 14, _, _, _, gen => exact gen rfl rest_14
  | 15, _, _, _, gen => exact gen rfl rest_15
  | K + 16, _, h, _, _ => omega
theorem allr_lt : ∀ (K : Nat), K ≤ 16 → ∀ z : Int, 1 ≤ z → z < (K : Int) → CallOK Tryd.prog 28 [dat 3 (.lit (.int .i64 z))] (mkRes Tryd.prog 22 (.slice (allT z) []))
  | 0, _, z, h0, h1 => by omega
  | K + 1, hK, z, h0, h1 => by
    by_cases h : z < (K : Int)
    · exact allr_lt K (by omega) z h0 h
    · obtain rfl : z = (K : Int) := by omega
      refine allr_at K (by omega) (by omega) (envOK_cons' envR8c ?_)
      exact ent1p k28 fun x d hq hd ⟨_, hx⟩ => by
        cases hd
        obtain ⟨u, rfl, hu⟩ := ty3' hx
        rw [n3]
        have hq : (decide (1 ≤ u) && decide (u < (K : Int))) = true := hq
        rw [Bool.and_eq_true, decide_eq_true_eq, decide_eq_true_eq] at hq
        exact allr_lt K (by omega) u hq.1 hq.2
def eAr : FuncId × TypeId × (List AV → Bool) × (List AV → Option D) := (28, 22, yes, ent [3] (f1 fun x => some (.slice (allT (intD x)) [])))
theorem envR81 : EnvOK Tryd.prog (envH (R8 1) []) := envOK_cons' envR8c (ent1p k28 fun x d hq hd ⟨_, hx⟩ => by
  exfalso
  have hq : (decide (1 ≤ intD x) && decide (intD x < ((1 : Nat) : Int))) = true := hq
  rw [Bool.and_eq_true, decide_eq_true_eq, decide_eq_true_eq] at hq
  omega)
theorem cAr : ∀ args d, eAr.2.2.2 args = some d → CallOK Tryd.prog 28 args (mkRes Tryd.prog 22 d) :=
  ent1 k28 fun x d hd ⟨_, hx⟩ => by
    cases hd
    obtain ⟨z, rfl, hz⟩ := ty3' hx
    rw [n3]
    show CallOK Tryd.prog 28 [dat 3 (.lit (.int .i64 z))] (mkRes Tryd.prog 22 (.slice (allT z) []))
    by_cases h : 1 ≤ z ∧ z < 16
    · exact allr_lt 16 (Nat.le_refl _) z h.1 h.2
    · exact allr_out envR81 (by omega)
end X
end Go.Proofs.YtbabfocagkkboaaDoor
