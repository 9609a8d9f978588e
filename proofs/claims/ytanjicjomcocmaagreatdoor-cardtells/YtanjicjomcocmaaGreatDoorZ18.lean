/- Trees of functions, and lemmas. Nothing here is trusted. -/
import Derived.Test.YtanjicjomcocmaaGreatDoorZ17
namespace Go.Proofs.YtanjicjomcocmaaGreatDoor
open Go.Ev
set_option linter.unusedVariables false
set_option linter.unusedSimpArgs false
theorem total_cons (y : D) (l : List D) : total (y :: l) = nn y + total l := by simp [total]

theorem step_int {i : Nat} {l : List D} (hl : l.length <= maxLen) (h : i < l.length) : IntKind.wrap .i64 ((i : Int) + 1) = ((i + 1 : Nat) : Int) := by
 rw [wrap_in]
 ·omega
 ·rw [inR_iff]; unfold maxLen at hl; omega

theorem elems_nn {n : Nat} {x : D} (hx : Ty Tryz.prog n 53 x) : ∀ y ∈ elemsD x, inR (nn y) = true := by
 obtain ⟨es, rfl, _, hall⟩ := ty28 hx
 intro y hy
 obtain ⟨k, m, rfl, _, h⟩ := hall y hy
 exact h
/-! ### The document's own: by parts of 2^32 -/
def cnt (l : List D) : Nat := (l.filter isNum).length

theorem nul_nn {y : D} (hy : ∃ k m, y = vv k m /\ inR k = true /\ inR m = true) (h2 : (kk (readD y) == 2) = false) (h0 : (kk (readD y) == 0) = false) : isNum y = false /\ nn y = 0 := by
 obtain ⟨k, m, rfl, _, _⟩ := hy
 rcases read_cases k m with ⟨_, e⟩ | ⟨rfl, rfl, e⟩ | ⟨_, _, e⟩
 ·rw [e] at h0; simp [kk_vv] at h0
 ·exact ⟨rfl, rfl⟩
 ·rw [e] at h2; simp [kk_vv] at h2

theorem num_read {y : D} (hy : ∃ k m, y = vv k m /\ inR k = true /\ inR m = true) (h0 : (kk (readD y) == 0) = true) : isNum y = true /\ readD y = y := by
 obtain ⟨k, m, rfl, _, _⟩ := hy
 rcases read_cases k m with ⟨rfl, e⟩ | ⟨_, _, e⟩ | ⟨_, _, e⟩
 ·exact ⟨rfl, e⟩
 ·rw [e] at h0; simp [kk_vv] at h0
 ·rw [e] at h0; simp [kk_vv] at h0

theorem parts32 {b : Int} (hb : inR b = true) : ∃ q p : Int, 0 <= p /\ p < 4294967296 /\ b = q * 4294967296 + p /\ -2147483648 <= q /\ q <= 2147483647 /\
  ((Int.tmod b 4294967296 < 0 /\ IntKind.wrap .i64 (Int.tmod b 4294967296 + 4294967296) = p) \/ (¬ Int.tmod b 4294967296 < 0 /\ Int.tmod b 4294967296 = p)) /\
  IntKind.wrap .i64 (Int.tdiv (IntKind.wrap .i64 (b - p)) 4294967296) = q := by
 have hr := Int.mul_tdiv_add_tmod b 4294967296
 have hrm : (b.tmod 4294967296).natAbs < 4294967296 := by
  rw [Int.natAbs_tmod]
  exact Nat.mod_lt _ (by decide)
 rw [inR_iff] at hb
 refine ⟨b / 4294967296, b % 4294967296, by omega, by omega, by omega, by omega, by omega, ?_, ?_⟩
 ·by_cases hneg : b.tmod 4294967296 < 0
  ·left
   refine ⟨hneg, ?_⟩
   rw [wrap_in (by rw [inR_iff]; omega)]
   omega
  ·right
   exact ⟨hneg, by omega⟩
 ·have e1 : IntKind.wrap .i64 (b - b % 4294967296) = b / 4294967296 * 4294967296 := by rw [wrap_in (by rw [inR_iff]; omega)]; omega
  rw [e1, Int.mul_tdiv_cancel _ (by decide)]
  exact wrap_in (by rw [inR_iff]; omega)

theorem ref_sum_end {h l m : Int} {T : Int} (hl0 : 0 <= l) (hl1 : l <= 4294967296000) (hh : -2147483648000 <= h) (hh' : h <= 2147483648000) (hT : h * 4294967296 + l = T) :
  (bif ((decide ((IntKind.wrap .i64 (h + (IntKind.wrap .i64 (Int.tdiv l 4294967296)))) > 2147483647)) == false) then
    bif decide ((IntKind.wrap .i64 (h + (IntKind.wrap .i64 (Int.tdiv l 4294967296)))) < (-2147483648)) then
     some (dat 40 (.agg [.lit (.int .i64 2), .lit (.int .i64 0)]))
    else some (dat 40 (.agg [.lit (.int .i64 0), .lit (.int .i64 (IntKind.wrap .i64 ((IntKind.wrap .i64 ((IntKind.wrap .i64 (h + (IntKind.wrap .i64 (Int.tdiv l 4294967296)))) * 4294967296)) + (Int.tmod l 4294967296))))]))
   else some (dat 40 (.agg [.lit (.int .i64 2), .lit (.int .i64 0)]))) = bif inR T then some (dat 40 (vv 0 T)) else some (dat 40 (vv 2 0)) := by
 have e1 : Int.tdiv l 4294967296 = l / 4294967296 := Int.tdiv_eq_ediv_of_nonneg hl0
 have e2 : Int.tmod l 4294967296 = l % 4294967296 := Int.tmod_eq_emod_of_nonneg hl0
 have e3 : IntKind.wrap .i64 (l / 4294967296) = l / 4294967296 := wrap_in (by rw [inR_iff]; omega)
 have e4 : IntKind.wrap .i64 (h + l / 4294967296) = h + l / 4294967296 := wrap_in (by rw [inR_iff]; omega)
 rw [e1, e2, e3, e4]
 by_cases c1 : h + l / 4294967296 > 2147483647
 ·have d1 : decide (h + l / 4294967296 > 2147483647) = true := by simpa using c1
  have hin : inR T = false := by rw [inR_not]; omega
  rw [d1, hin]; rfl
 ·have d1 : decide (h + l / 4294967296 > 2147483647) = false := by simpa using c1
  by_cases c2 : h + l / 4294967296 < -2147483648
  ·have d2 : decide (h + l / 4294967296 < (-2147483648)) = true := by simpa using c2
   have hin : inR T = false := by rw [inR_not]; omega
   rw [d1, d2, hin]; rfl
  ·have d2 : decide (h + l / 4294967296 < (-2147483648)) = false := by simpa using c2
   have hin : inR T = true := by rw [inR_iff]; omega
   have e5 : IntKind.wrap .i64 ((h + l / 4294967296) * 4294967296) = (h + l / 4294967296) * 4294967296 := wrap_in (by rw [inR_iff]; omega)
   have e6 : (h + l / 4294967296) * 4294967296 + l % 4294967296 = T := by omega
   rw [d1, d2, hin, e5, e6, wrap_in hin]
   rfl

theorem cnt_any (l : List D) : ((0 : Int) + (cnt l : Int) == 0) = !(l.any isNum) := by
 unfold cnt
 induction l with
 | nil => rfl
 | cons y l ih =>
  rw [List.filter_cons, List.any_cons]
  cases isNum y with
  | true =>
   simp
   omega
  | false => simpa using ih

theorem env5 : EnvOK Tryz.prog (envOf T5) := (envOK_cons env4 c107)
theorem k102 : FnOK Tryz.prog 102 Tryz.f102 := ⟨Tryz.func102, rfl, by kernel_rfl⟩
theorem u40 : Tryz.prog.underlying 107 = some (.func #[3, 3] #[3, 4] false) := by kernel_rfl

theorem reckon_of {fits : Bool} {v w : Int} {x y : D} (hw : fits = true -> w = v) :
  (bif (!(isNum (ifNum 0 [x, y]))) then some (dat 40 (ifNum 0 [x, y]))
   else bif (!fits) then some (dat 40 (.agg [.lit (.int .i64 2), .lit (.int .i64 0)])) else some (dat 40 (.agg [.lit (.int .i64 0), .lit (.int .i64 w)]))) = some (dat 40 (reck fits v x y)) := by
 unfold ifNum reck
 cases [x, y].any isErr <;> cases [x, y].any isNul <;> cases fits <;> try rfl
 rw [hw rfl]
 rfl

theorem c102 : ∀ args d, e102.2.2.2 args = some d -> CallOK Tryz.prog 102 args (mkRes Tryz.prog 40 d) :=
 ent3 k102 fun x y z d h ⟨_, hx⟩ _ _ => by
  rw [n40, n23, n23]
  split at h
  ·rename_i hf
   cases h
   rw [ty25 u40 hx hf]
   refine fn_ok hm env5 k102 ((t102_103 1 y z).trans ?_)
   rw [m23]
   exact reckon_of wrap_in
  ·rename_i hf
   cases h
   rw [ty25 u40 hx hf]
   refine fn_ok hm env5 k102 ((t102_104 1 y z).trans ?_)
   rw [m23]
   exact reckon_of wrap_in
  ·rename_i hf
   cases h
   rw [ty25 u40 hx hf]
   refine fn_ok hm env5 k102 ((t102_105 1 y z).trans ?_)
   rw [m23]
   exact reckon_of wrap_in
  ·rename_i hf
   cases h
   rw [ty25 u40 hx hf]
   refine fn_ok hm env5 k102 ((t102_106 1 y z).trans ?_)
   rw [m23]
   exact reckon_of fun _ => rfl
  ·cases h

theorem k91 : FnOK Tryz.prog 91 Tryz.f91 := ⟨Tryz.func91, rfl, by kernel_rfl⟩
theorem c91 : ∀ args d, e91.2.2.2 args = some d -> CallOK Tryz.prog 91 args (mkRes Tryz.prog 40 d) :=
 ent2 k91 fun x y d h _ _ => by
  cases h
  rw [n23, n23]
  refine fn_ok hm env5 k91 ((t91 1 x y).trans ?_)
  rw [m23]
  rfl
theorem k92 : FnOK Tryz.prog 92 Tryz.f92 := ⟨Tryz.func92, rfl, by kernel_rfl⟩
theorem c92 : ∀ args d, e92.2.2.2 args = some d -> CallOK Tryz.prog 92 args (mkRes Tryz.prog 40 d) :=
 ent2 k92 fun x y d h _ _ => by
  cases h
  rw [n23, n23]
  refine fn_ok hm env5 k92 ((t92 1 x y).trans ?_)
  rw [m23]
  rfl
theorem k93 : FnOK Tryz.prog 93 Tryz.f93 := ⟨Tryz.func93, rfl, by kernel_rfl⟩
theorem c93 : ∀ args d, e93.2.2.2 args = some d -> CallOK Tryz.prog 93 args (mkRes Tryz.prog 40 d) :=
 ent1 k93 fun x d h _ => by
  cases h
  rw [n28]
  refine fn_ok hm env5 k93 ((t93 1 x).trans ?_)
  rw [m23]
  unfold andD
  cases (elemsD x).any isFal <;> rfl
theorem k94 : FnOK Tryz.prog 94 Tryz.f94 := ⟨Tryz.func94, rfl, by kernel_rfl⟩
theorem c94 : ∀ args d, e94.2.2.2 args = some d -> CallOK Tryz.prog 94 args (mkRes Tryz.prog 40 d) :=
 ent1 k94 fun x d h _ => by
  cases h
  rw [n28]
  refine fn_ok hm env5 k94 ((t94 1 x).trans ?_)
  rw [m23]
  unfold orD
  cases (elemsD x).any isTru <;> rfl
theorem k95 : FnOK Tryz.prog 95 Tryz.f95 := ⟨Tryz.func95, rfl, by kernel_rfl⟩
theorem c95 : ∀ args d, e95.2.2.2 args = some d -> CallOK Tryz.prog 95 args (mkRes Tryz.prog 40 d) :=
 ent1 k95 fun x d h _ => by
  cases h
  rw [n23]
  refine fn_ok hm env5 k95 ((t95 1 x).trans ?_)
  rw [m23]
  rfl

theorem env6 : EnvOK Tryz.prog (envOf T6) := (envOK_cons (envOK_cons (envOK_cons (envOK_cons (envOK_cons (envOK_cons env5 c95) c94) c93) c92) c91) c102)

theorem k87 : FnOK Tryz.prog 87 Tryz.f87 := ⟨Tryz.func87, rfl, by kernel_rfl⟩
theorem c87 : ∀ args d, e87.2.2.2 args = some d -> CallOK Tryz.prog 87 args (mkRes Tryz.prog 40 d) :=
 ent2 k87 fun x y d h _ _ => by
  cases h
  rw [n23, n23]
  refine fn_ok hm env6 k87 ((t87 1 x y).trans ?_)
  rw [m23]
theorem k88 : FnOK Tryz.prog 88 Tryz.f88 := ⟨Tryz.func88, rfl, by kernel_rfl⟩
theorem c88 : ∀ args d, e88.2.2.2 args = some d -> CallOK Tryz.prog 88 args (mkRes Tryz.prog 40 d) :=
 ent2 k88 fun x y d h _ _ => by
  cases h
  rw [n23, n23]
  refine fn_ok hm env6 k88 ((t88 1 x y).trans ?_)
  rw [m23]
theorem k89 : FnOK Tryz.prog 89 Tryz.f89 := ⟨Tryz.func89, rfl, by kernel_rfl⟩
theorem c89 : ∀ args d, e89.2.2.2 args = some d -> CallOK Tryz.prog 89 args (mkRes Tryz.prog 40 d) :=
 ent2 k89 fun x y d h _ _ => by
  cases h
  rw [n23, n23]
  refine fn_ok hm env6 k89 ((t89 1 x y).trans ?_)
  rw [m23]
theorem k90 : FnOK Tryz.prog 90 Tryz.f90 := ⟨Tryz.func90, rfl, by kernel_rfl⟩
theorem c90 : ∀ args d, e90.2.2.2 args = some d -> CallOK Tryz.prog 90 args (mkRes Tryz.prog 40 d) :=
 ent2 k90 fun x y d h _ _ => by
  cases h
  rw [n23, n23]
  refine fn_ok hm env6 k90 ((t90 1 x y).trans ?_)
  rw [m23]

theorem env7 : EnvOK Tryz.prog (envOf T7) := (envOK_cons (envOK_cons (envOK_cons (envOK_cons env6 c90) c89) c88) c87)

theorem env8 : EnvOK Tryz.prog (envOf T8) := env7
end Go.Proofs.YtanjicjomcocmaaGreatDoor
