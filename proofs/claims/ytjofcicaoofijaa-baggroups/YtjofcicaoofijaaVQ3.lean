/- Layer 1: the sums. Nothing here is trusted. -/
import Derived.Test.YtjofcicaoofijaaVQ2
namespace Go.Proofs.Ytjofcicaoofijaa
open Go.Ev
set_option linter.unusedVariables false
set_option linter.unusedSimpArgs false

theorem total_cons (y : D) (l : List D) : total (y :: l) = nn y + total l := by simp [total]

theorem step_int {i : Nat} {l : List D} (hl : l.length ≤ maxLen) (h : i < l.length) : IntKind.wrap .i64 ((i : Int) + 1) = ((i + 1 : Nat) : Int) := by
  rw [wrap_in]
  · omega
  · rw [inR_iff]; unfold maxLen at hl; omega

/-- How often the total has gone round: only what is left of that at last is an error. -/
theorem sum_loop {N : Nat} {x : D} (hl : (elemsD x).length ≤ maxLen) (hall : ∀ y ∈ elemsD x, inR (nn y) = true) (T : Int) : ∀ (n i : Nat) (v c : Int), i ≤ (elemsD x).length → (elemsD x).length - i < n →
    inR v = true → -(i : Int) ≤ c → c ≤ (i : Int) → v + c * 18446744073709551616 + total ((elemsD x).drop i) = T →
    t31_lp7 Try.prog Try.f31 N n x v c (i : Int) = bif inR T then some (dat 34 (vv 0 T)) else some (dat 34 (vv 2 0))
  | 0, i, _, _, _, h, _, _, _, _ => by omega
  | n + 1, i, v, c, hi, h, hv, hc1, hc2, hT => by
    rw [t31_lp7_step]
    by_cases hlt : i < (elemsD x).length
    · have h1 : decide ((i : Int) < ((elemsD x).length : Int)) = true := by simpa using hlt
      rw [idx_ok hlt, h1, cond_true, cond_true, Int.toNat_natCast]
      have h2 : (elemsD x).getD i .nil = (elemsD x)[i] := by simp [List.getD, hlt]
      rw [h2, step_int hl hlt]
      rw [List.drop_eq_getElem_cons hlt, total_cons] at hT
      have hy := hall (elemsD x)[i] (List.getElem_mem hlt)
      have hmax : ((elemsD x).length : Int) ≤ 9223372036854775807 := by unfold maxLen at hl; omega
      generalize (elemsD x)[i] = y at *
      have hnn : intD (fieldD y 1) = nn y := rfl
      rw [hnn]
      generalize nn y = b at *
      have hs := wrap_inR (v + b)
      have hvb := hv
      have hbb := hy
      rw [inR_iff] at hvb hbb
      cases ho : addOK v b with
      | true =>
        have ho' : inR (v + b) = true := ho
        rw [wrap_in ho']
        refine Eq.trans ?_ (sum_loop (N := N) hl hall T n (i + 1) (v + b) c (by omega) (by omega) ho' (by omega) (by omega) (by omega))
        rfl
      | false =>
        have ho' : inR (v + b) = false := ho
        rw [inR_not] at ho'
        by_cases hb0 : b > 0
        · have d : decide (b > 0) = true := by simpa using hb0
          have hw : IntKind.wrap .i64 (v + b) = v + b - 18446744073709551616 := by rw [wrap64_eq]; omega
          have hc : IntKind.wrap .i64 (c + 1) = c + 1 := wrap_in (by rw [inR_iff]; omega)
          rw [d, hc]
          refine Eq.trans ?_ (sum_loop (N := N) hl hall T n (i + 1) (IntKind.wrap .i64 (v + b)) (c + 1) (by omega) (by omega) hs (by omega) (by omega) (by rw [hw]; omega))
          rfl
        · have d : decide (b > 0) = false := by simpa using hb0
          have hw : IntKind.wrap .i64 (v + b) = v + b + 18446744073709551616 := by rw [wrap64_eq]; omega
          have hc : IntKind.wrap .i64 (c - 1) = c - 1 := wrap_in (by rw [inR_iff]; omega)
          rw [d, hc]
          refine Eq.trans ?_ (sum_loop (N := N) hl hall T n (i + 1) (IntKind.wrap .i64 (v + b)) (c - 1) (by omega) (by omega) hs (by omega) (by omega) (by rw [hw]; omega))
          rfl
    · have h1 : decide ((i : Int) < ((elemsD x).length : Int)) = false := by simpa using hlt
      have h2 : (elemsD x).drop i = [] := List.drop_of_length_le (by omega)
      rw [h1, cond_false]
      rw [h2] at hT
      have ht0 : total [] = 0 := rfl
      rw [ht0] at hT
      rw [inR_iff] at hv
      by_cases hc0 : c = 0
      · subst hc0
        have hTv : T = v := by omega
        have hin : inR T = true := by rw [inR_iff]; omega
        rw [hin, hTv]
        rfl
      · have hin : inR T = false := by rw [inR_not]; omega
        have hne : (c != 0) = true := by simpa using hc0
        rw [hin, hne]
        rfl

theorem k31 : FnOK Try.prog 31 Try.f31 := ⟨Try.func31, rfl, by kernel_rfl⟩
theorem elems_nn {n : Nat} {x : D} (hx : Ty Try.prog n 32 x) : ∀ y ∈ elemsD x, inR (nn y) = true := by
  obtain ⟨es, rfl, _, hall⟩ := ty28 hx
  intro y hy
  obtain ⟨k, m, rfl, _, h⟩ := hall y hy
  exact h
theorem c31 : ∀ args d, e31.2.2.2 args = some d → CallOK Try.prog 31 args (mkRes Try.prog 34 d) :=
  ent1 k31 fun x d h ⟨_, hx⟩ => by
    cases h
    rw [n28]
    refine fn_ok (fuel := (elemsD x).length + 1) hm env4 k31 ((t31 ((elemsD x).length + 1) x).trans ?_)
    have hs := sum_loop (N := (elemsD x).length + 1) (elems_len hx) (elems_nn hx) (total (elemsD x)) ((elemsD x).length + 1) 0 0 0 (Nat.zero_le _) (by omega) (by decide) (by omega) (by omega) (by rw [List.drop_zero]; omega)
    have hs' : t31_lp7 Try.prog Try.f31 ((elemsD x).length + 1) ((elemsD x).length + 1) x 0 0 0 = _ := hs
    rw [hs', m23]
    unfold sumD
    cases (elemsD x).any isErr <;> cases (elemsD x).any isNum <;> cases inR (total (elemsD x)) <;> rfl

/-! ### The document's own: by parts of 2^32 -/
def cnt (l : List D) : Nat := (l.filter isNum).length

theorem nul_nn {y : D} (hy : ∃ k m, y = vv k m ∧ inR k = true ∧ inR m = true) (h2 : (kk (readD y) == 2) = false) (h0 : (kk (readD y) == 0) = false) : isNum y = false ∧ nn y = 0 := by
  obtain ⟨k, m, rfl, _, _⟩ := hy
  rcases read_cases k m with ⟨_, e⟩ | ⟨rfl, rfl, e⟩ | ⟨_, _, e⟩
  · rw [e] at h0; simp [kk_vv] at h0
  · exact ⟨rfl, rfl⟩
  · rw [e] at h2; simp [kk_vv] at h2

theorem num_read {y : D} (hy : ∃ k m, y = vv k m ∧ inR k = true ∧ inR m = true) (h0 : (kk (readD y) == 0) = true) : isNum y = true ∧ readD y = y := by
  obtain ⟨k, m, rfl, _, _⟩ := hy
  rcases read_cases k m with ⟨rfl, e⟩ | ⟨_, _, e⟩ | ⟨_, _, e⟩
  · exact ⟨rfl, e⟩
  · rw [e] at h0; simp [kk_vv] at h0
  · rw [e] at h0; simp [kk_vv] at h0

theorem parts32 {b : Int} (hb : inR b = true) : ∃ q p : Int, 0 ≤ p ∧ p < 4294967296 ∧ b = q * 4294967296 + p ∧ -2147483648 ≤ q ∧ q ≤ 2147483647 ∧
    ((Int.tmod b 4294967296 < 0 ∧ IntKind.wrap .i64 (Int.tmod b 4294967296 + 4294967296) = p) ∨ (¬ Int.tmod b 4294967296 < 0 ∧ Int.tmod b 4294967296 = p)) ∧
    IntKind.wrap .i64 (Int.tdiv (IntKind.wrap .i64 (b - p)) 4294967296) = q := by
  have hr := Int.mul_tdiv_add_tmod b 4294967296
  have hrm : (b.tmod 4294967296).natAbs < 4294967296 := by
    rw [Int.natAbs_tmod]
    exact Nat.mod_lt _ (by decide)
  rw [inR_iff] at hb
  refine ⟨b / 4294967296, b % 4294967296, by omega, by omega, by omega, by omega, by omega, ?_, ?_⟩
  · by_cases hneg : b.tmod 4294967296 < 0
    · left
      refine ⟨hneg, ?_⟩
      rw [wrap_in (by rw [inR_iff]; omega)]
      omega
    · right
      exact ⟨hneg, by omega⟩
  · have e1 : IntKind.wrap .i64 (b - b % 4294967296) = b / 4294967296 * 4294967296 := by rw [wrap_in (by rw [inR_iff]; omega)]; omega
    rw [e1, Int.mul_tdiv_cancel _ (by decide)]
    exact wrap_in (by rw [inR_iff]; omega)

theorem ref_sum_end {h l m : Int} {T : Int} (hl0 : 0 ≤ l) (hl1 : l ≤ 4294967296000) (hh : -2147483648000 ≤ h) (hh' : h ≤ 2147483648000) (hT : h * 4294967296 + l = T) :
    (bif ((decide ((IntKind.wrap .i64 (h + (IntKind.wrap .i64 (Int.tdiv l 4294967296)))) > 2147483647)) == false) then
        bif decide ((IntKind.wrap .i64 (h + (IntKind.wrap .i64 (Int.tdiv l 4294967296)))) < (-2147483648)) then
          some (dat 34 (.agg [.lit (.int .i64 2), .lit (.int .i64 0)]))
        else some (dat 34 (.agg [.lit (.int .i64 0), .lit (.int .i64 (IntKind.wrap .i64 ((IntKind.wrap .i64 ((IntKind.wrap .i64 (h + (IntKind.wrap .i64 (Int.tdiv l 4294967296)))) * 4294967296)) + (Int.tmod l 4294967296))))]))
      else some (dat 34 (.agg [.lit (.int .i64 2), .lit (.int .i64 0)]))) = bif inR T then some (dat 34 (vv 0 T)) else some (dat 34 (vv 2 0)) := by
  have e1 : Int.tdiv l 4294967296 = l / 4294967296 := Int.tdiv_eq_ediv_of_nonneg hl0
  have e2 : Int.tmod l 4294967296 = l % 4294967296 := Int.tmod_eq_emod_of_nonneg hl0
  have e3 : IntKind.wrap .i64 (l / 4294967296) = l / 4294967296 := wrap_in (by rw [inR_iff]; omega)
  have e4 : IntKind.wrap .i64 (h + l / 4294967296) = h + l / 4294967296 := wrap_in (by rw [inR_iff]; omega)
  rw [e1, e2, e3, e4]
  by_cases c1 : h + l / 4294967296 > 2147483647
  · have d1 : decide (h + l / 4294967296 > 2147483647) = true := by simpa using c1
    have hin : inR T = false := by rw [inR_not]; omega
    rw [d1, hin]; rfl
  · have d1 : decide (h + l / 4294967296 > 2147483647) = false := by simpa using c1
    by_cases c2 : h + l / 4294967296 < -2147483648
    · have d2 : decide (h + l / 4294967296 < (-2147483648)) = true := by simpa using c2
      have hin : inR T = false := by rw [inR_not]; omega
      rw [d1, d2, hin]; rfl
    · have d2 : decide (h + l / 4294967296 < (-2147483648)) = false := by simpa using c2
      have hin : inR T = true := by rw [inR_iff]; omega
      have e5 : IntKind.wrap .i64 ((h + l / 4294967296) * 4294967296) = (h + l / 4294967296) * 4294967296 := wrap_in (by rw [inR_iff]; omega)
      have e6 : (h + l / 4294967296) * 4294967296 + l % 4294967296 = T := by omega
      rw [d1, d2, hin, e5, e6, wrap_in hin]
      rfl

theorem cnt_any (l : List D) : ((0 : Int) + (cnt l : Int) == 0) = !(l.any isNum) := by
  unfold cnt
  induction l with
  | nil => rfl
  | cons y l ih =>
    rw [List.filter_cons, List.any_cons]
    cases isNum y with
    | true =>
      simp
      omega
    | false => simpa using ih

theorem env5 : EnvOK Try.prog (envOf T5) := (envOK_cons env4 c31)

end Go.Proofs.Ytjofcicaoofijaa
