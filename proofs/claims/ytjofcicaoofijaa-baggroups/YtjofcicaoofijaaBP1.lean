/- Layer 3: lists, ranks, columns. Nothing here is trusted. -/
import Derived.Test.YtjofcicaoofijaaBT1
import Derived.Test.YtjofcicaoofijaaVL
namespace Go.Proofs.Ytjofcicaoofijaa
open Go.Ev
set_option linter.unusedVariables false
set_option linter.unusedSimpArgs false

theorem nI (x : D) : normD Try.prog 22 x = x := by kernel_rfl
theorem nB (x : D) : normD Try.prog 25 x = x := by kernel_rfl
theorem nR (x : D) : normD Try.prog 23 x = x := by kernel_rfl
theorem nK (x : D) : normD Try.prog 46 x = x := by kernel_rfl
theorem nE (x : D) : normD Try.prog 49 x = x := by kernel_rfl
theorem mI (x : D) : mkRes Try.prog 22 x = dat 22 x := by kernel_rfl
theorem mB (x : D) : mkRes Try.prog 25 x = dat 25 x := by kernel_rfl
theorem mK (x : D) : mkRes Try.prog 46 x = dat 46 x := by kernel_rfl
theorem mTBB (x : D) : mkRes Try.prog 28 x = tupA [25, 4] x := by kernel_rfl
theorem uI : Try.prog.underlying 22 = some (.slice 3) := by kernel_rfl
theorem uV : Try.prog.underlying 32 = some (.slice 34) := by kernel_rfl
theorem uR : Try.prog.underlying 23 = some (.slice 32) := by kernel_rfl
theorem uB : ∃ f g : Field, Try.prog.underlying 25 = some (.struct #[f, g]) ∧ f.type = 22 ∧ g.type = 23 := ⟨_, _, Try.underlying25, rfl, rfl⟩

def OKr (r : D) : Prop := ∃ vs, r = .slice vs [] ∧ vs.length ≤ maxLen ∧ ∀ v ∈ vs, ∃ k m, v = vv k m ∧ inR k = true ∧ inR m = true
theorem tyI {n : Nat} {x : D} (h : Ty Try.prog n 22 x) : ∃ es, x = .slice es [] ∧ es.length ≤ maxLen ∧ ∀ y ∈ es, ∃ z, y = litI z ∧ inR z = true := by
  cases n with
  | zero => exact h.elim
  | succ n =>
    unfold Ty at h
    rw [uI] at h
    split at h <;> try (exact h.elim)
    all_goals try (simp_all; done)
    rename_i e es sp heq
    cases heq
    obtain ⟨rfl, hl, hp⟩ := h
    exact ⟨es, rfl, hl, fun y hy => ty3' (hp y hy)⟩
theorem tyR {n : Nat} {x : D} (h : Ty Try.prog n 23 x) : ∃ es, x = .slice es [] ∧ es.length ≤ maxLen ∧ ∀ y ∈ es, OKr y := by
  cases n with
  | zero => exact h.elim
  | succ n =>
    unfold Ty at h
    rw [uR] at h
    split at h <;> try (exact h.elim)
    all_goals try (simp_all; done)
    rename_i e es sp heq
    cases heq
    obtain ⟨rfl, hl, hp⟩ := h
    exact ⟨es, rfl, hl, fun y hy => ty28 (hp y hy)⟩
structure OKb (x : D) (cs rs : List D) : Prop where
  eq : x = bagD cs rs
  cl : cs.length ≤ maxLen
  rl : rs.length ≤ maxLen
  c : ∀ y ∈ cs, ∃ z, y = litI z ∧ inR z = true
  r : ∀ y ∈ rs, OKr y
theorem tyB {n : Nat} {x : D} (h : Ty Try.prog n 25 x) : ∃ cs rs, OKb x cs rs := by
  obtain ⟨f, g, hu, hf, hg⟩ := uB
  cases n with
  | zero => exact h.elim
  | succ n =>
    unfold Ty at h
    rw [hu] at h
    split at h <;> try (exact h.elim)
    all_goals try (simp_all; done)
    rename_i fs ps heq
    cases heq
    obtain ⟨hl, hp⟩ := h
    have hl : ps.length = 2 := hl
    have h0 := hp 0 f (by rfl)
    have h1 := hp 1 g (by rfl)
    rw [hf] at h0
    rw [hg] at h1
    match ps, hl, h0, h1 with
    | [a, b], _, h0, h1 =>
      obtain ⟨cs, rfl, h2, h3⟩ := tyI (show Ty Try.prog n 22 a from h0)
      obtain ⟨rs, rfl, h4, h5⟩ := tyR (show Ty Try.prog n 23 b from h1)
      exact ⟨cs, rs, rfl, h2, h4, h3, h5⟩
theorem lenI {n : Nat} {x : D} (hx : Ty Try.prog n 22 x) : (elemsD x).length ≤ maxLen := by
  obtain ⟨es, rfl, hl, _⟩ := tyI hx
  exact hl
theorem lenR {n : Nat} {x : D} (hx : Ty Try.prog n 23 x) : (elemsD x).length ≤ maxLen := by
  obtain ⟨es, rfl, hl, _⟩ := tyR hx
  exact hl
theorem bagR (cs rs : List D) : elemsD (fieldD (bagD cs rs) 1) = rs := rfl
theorem bagC (cs rs : List D) : elemsD (fieldD (bagD cs rs) 0) = cs := rfl
/-- Rounds enough for each row, and for all of them. -/
def fuelB (rs : List D) : Nat := rs.length + (rs.map fun r => (elemsD r).length).sum + 1
theorem fuel_row {rs : List D} {r : D} (h : r ∈ rs) : (elemsD r).length < fuelB rs := by
  have : (elemsD r).length ≤ (rs.map fun r => (elemsD r).length).sum := le_sum _ _ (List.mem_map.2 ⟨r, h, rfl⟩)
  unfold fuelB; omega

/-! ### slices.Index -/
theorem idx_loop {N : Nat} {x0 : D} {x1 : Int} (hl : (elemsD x0).length ≤ maxLen) : ∀ (n i : Nat), i ≤ (elemsD x0).length → (elemsD x0).length - i < n →
    t14_lp2 Try.prog Try.f14 N n x0 x1 (i : Int) = some (dat 3 (.lit (.int .i64 (Lib.idxFrom (((elemsD x0).drop i).map intD) x1 i))))
  | 0, i, _, h => by omega
  | n + 1, i, hi, h => by
    rw [t14_lp2_step]
    by_cases hlt : i < (elemsD x0).length
    · rw [l_idx hlt, l_lt hlt, cond_true, cond_true, List.drop_eq_getElem_cons hlt, List.map_cons, Int.toNat_natCast, l_get hlt, Lib.idxFrom]
      rw [l_wrap hl hlt, idx_loop hl n (i + 1) (by omega) (by omega)]
      by_cases he : intD (elemsD x0)[i] = x1
      · have : (x1 == intD (elemsD x0)[i]) = true := by simp [he]
        rw [this, cond_true, if_pos he]
      · have : (x1 == intD (elemsD x0)[i]) = false := by
          rw [beq_eq_false_iff_ne]; exact fun hh => he hh.symm
        rw [this, cond_false, if_neg he]
    · have h2 : (elemsD x0).drop i = [] := List.drop_of_length_le (by omega)
      rw [l_ge hlt, h2, cond_false]
      rfl
def e14 : FuncId × TypeId × (List AV → Bool) × (List AV → Option D) := (14, 3, yes, ent [22, 3] (f2 fun x y => some (.lit (.int .i64 (Lib.idxOf ((elemsD x).map intD) (intD y))))))
theorem k14 : FnOK Try.prog 14 Try.f14 := ⟨Try.func14, rfl, by kernel_rfl⟩
theorem c14 : ∀ args d, e14.2.2.2 args = some d → CallOK Try.prog 14 args (mkRes Try.prog 3 d) :=
  ent2 k14 fun x y d h ⟨_, hx⟩ _ => by
    cases h
    rw [nI, n3]
    refine fn_ok hm env8 k14 ((t14 ((elemsD x).length + 1) x (intD y)).trans ?_)
    rw [m3]
    have := idx_loop (N := (elemsD x).length + 1) (x1 := intD y) (lenI hx) ((elemsD x).length + 1) 0 (Nat.zero_le _) (by omega)
    simpa [Lib.idxOf, intD] using this

/-! ### rankAt, value -/
def e18 : FuncId × TypeId × (List AV → Bool) × (List AV → Option D) := (18, 46, yes, ent [32, 3] (f2 fun x y => some (rankD (elemsD x) (intD y))))
theorem k18 : FnOK Try.prog 18 Try.f18 := ⟨Try.func18, rfl, by kernel_rfl⟩
theorem c18 : ∀ args d, e18.2.2.2 args = some d → CallOK Try.prog 18 args (mkRes Try.prog 46 d) :=
  ent2 k18 fun x y d h ⟨_, hx⟩ _ => by
    cases h
    rw [n28, n3]
    refine fn_ok hm env8 k18 ((t18 1 x (intD y)).trans ?_)
    rw [mK]
    unfold rankD
    by_cases h1 : intD y < 0
    · have : decide (intD y < 0) = true := by simpa using h1
      rw [this]; rfl
    · have e1 : decide (intD y < 0) = false := by simpa using h1
      rw [e1]
      by_cases h2 : intD y ≥ ((elemsD x).length : Int)
      · have : decide (intD y ≥ ((elemsD x).length : Int)) = true := by simpa using h2
        rw [this]; rfl
      · have e2 : decide (intD y ≥ ((elemsD x).length : Int)) = false := by simpa using h2
        have e3 : (decide (0 ≤ intD y) && decide (intD y < ((elemsD x).length : Int))) = true := by
          simp only [Bool.and_eq_true, decide_eq_true_eq]; omega
        rw [e2, e3]
        cases mayB ((elemsD x).getD (intD y).toNat .nil) <;> rfl
def e36 : FuncId × TypeId × (List AV → Bool) × (List AV → Option D) := (36, 34, yes, ent [46] (f1 fun x => some (valueD x)))
theorem k36 : FnOK Try.prog 36 Try.f36 := ⟨Try.func36, rfl, by kernel_rfl⟩
theorem c36 : ∀ args d, e36.2.2.2 args = some d → CallOK Try.prog 36 args (mkRes Try.prog 34 d) :=
  ent1 k36 fun x d h _ => by
    cases h
    rw [nK]
    refine fn_ok hm env8 k36 ((t36 1 x).trans ?_)
    rw [m23]
    rfl

/-! ### Ints, Row -/
def e24 : FuncId × TypeId × (List AV → Bool) × (List AV → Option D) := (24, 4, yes, ent [22, 22] (f2 fun x y => some (.lit (.bool (intsB (elemsD x) (elemsD y))))))
theorem k24 : FnOK Try.prog 24 Try.f24 := ⟨Try.func24, rfl, by kernel_rfl⟩
theorem c24 : ∀ args d, e24.2.2.2 args = some d → CallOK Try.prog 24 args (mkRes Try.prog 4 d) :=
  ent2 k24 fun x y d h ⟨_, hx⟩ ⟨_, hy⟩ => by
    cases h
    rw [nI, nI]
    refine fn_ok hm env8 k24 ((t24 ((elemsD x).length + 1) x y).trans ?_)
    rw [m4]
    by_cases hl : (elemsD x).length = (elemsD y).length
    · have e1 : (((elemsD x).length : Int) != ((elemsD y).length : Int)) = false := by simp [hl]
      rw [e1, cond_false]
      have := l_loop (fun n v => t24_lp4 Try.prog Try.f24 ((elemsD x).length + 1) n x y v) (elemsD x).length (fun i => !(intD ((elemsD x).getD i .nil) == intD ((elemsD y).getD i .nil))) (some (dat 4 (.lit (.bool false)))) (some (dat 4 (.lit (.bool true))))
        (fun n i hi => by
          rw [t24_lp4_step, l_idx hi, l_lt hi, l_idx (by omega : i < (elemsD y).length), cond_true, cond_true, cond_true, l_wrap (lenI hx) hi, Int.toNat_natCast]
          rfl)
        (fun n => by rw [t24_lp4_step, l_ge (by omega), cond_false]) ((elemsD x).length + 1) 0 (Nat.zero_le _) (by omega)
      refine this.trans ?_
      have h2 := l_any2 intD (elemsD x) (elemsD y) hl
      show _ = some (dat 4 (.lit (.bool (intsB (elemsD x) (elemsD y)))))
      unfold intsB
      rw [← h2, Nat.sub_zero]
      cases (List.range' 0 (elemsD x).length).any _ <;> rfl
    · have e1 : (((elemsD x).length : Int) != ((elemsD y).length : Int)) = true := by simp; omega
      rw [e1, cond_true]
      have : intsB (elemsD x) (elemsD y) = false := by
        unfold intsB
        rw [beq_eq_false_iff_ne]
        intro hh
        exact hl (by simpa using congrArg List.length hh)
      show _ = some (dat 4 (.lit (.bool (intsB (elemsD x) (elemsD y)))))
      rw [this]
def e25 : FuncId × TypeId × (List AV → Bool) × (List AV → Option D) := (25, 4, yes, ent [32, 32] (f2 fun x y => some (.lit (.bool (rowEqB (elemsD x) (elemsD y))))))
theorem k25 : FnOK Try.prog 25 Try.f25 := ⟨Try.func25, rfl, by kernel_rfl⟩
theorem pair_beq (a b : D) : ((intD (fieldD a 0) == intD (fieldD b 0)) && ((intD (fieldD a 1) == intD (fieldD b 1)) && true)) = (pairI a == pairI b) := by
  unfold pairI kk nn
  rw [Bool.and_true]
  rfl
theorem c25 : ∀ args d, e25.2.2.2 args = some d → CallOK Try.prog 25 args (mkRes Try.prog 4 d) :=
  ent2 k25 fun x y d h ⟨_, hx⟩ ⟨_, hy⟩ => by
    cases h
    rw [n28, n28]
    refine fn_ok hm env8 k25 ((t25 ((elemsD x).length + 1) x y).trans ?_)
    rw [m4]
    by_cases hl : (elemsD x).length = (elemsD y).length
    · have e1 : (((elemsD x).length : Int) != ((elemsD y).length : Int)) = false := by simp [hl]
      rw [e1, cond_false]
      have := l_loop (fun n v => t25_lp4 Try.prog Try.f25 ((elemsD x).length + 1) n x y v) (elemsD x).length (fun i => !(pairI ((elemsD x).getD i .nil) == pairI ((elemsD y).getD i .nil))) (some (dat 4 (.lit (.bool false)))) (some (dat 4 (.lit (.bool true))))
        (fun n i hi => by
          rw [t25_lp4_step, l_idx hi, l_lt hi, l_idx (by omega : i < (elemsD y).length), cond_true, cond_true, cond_true, l_wrap (elems_len hx) hi, Int.toNat_natCast, pair_beq])
        (fun n => by rw [t25_lp4_step, l_ge (by omega), cond_false]) ((elemsD x).length + 1) 0 (Nat.zero_le _) (by omega)
      refine this.trans ?_
      have h2 := l_any2 pairI (elemsD x) (elemsD y) hl
      show _ = some (dat 4 (.lit (.bool (rowEqB (elemsD x) (elemsD y)))))
      unfold rowEqB
      rw [← h2, Nat.sub_zero]
      cases (List.range' 0 (elemsD x).length).any _ <;> rfl
    · have e1 : (((elemsD x).length : Int) != ((elemsD y).length : Int)) = true := by simp; omega
      rw [e1, cond_true]
      have : rowEqB (elemsD x) (elemsD y) = false := by
        unfold rowEqB
        rw [beq_eq_false_iff_ne]
        intro hh
        exact hl (by simpa using congrArg List.length hh)
      show _ = some (dat 4 (.lit (.bool (rowEqB (elemsD x) (elemsD y)))))
      rw [this]

/-! ### colsMay -/
theorem cols_loop {N : Nat} {x0 : D} (hl : (elemsD x0).length ≤ maxLen) : ∀ (n i : Nat) (s : List Int), i ≤ (elemsD x0).length → (elemsD x0).length - i < n →
    t28_lp3 Try.prog Try.f28 N n x0 (i : Int) (seenD s) = some (dat 4 (.lit (.bool (colsFrom s (((elemsD x0).drop i).map intD)))))
  | 0, i, s, _, h => by omega
  | n + 1, i, s, hi, h => by
    rw [t28_lp3_step]
    by_cases hlt : i < (elemsD x0).length
    · rw [l_idx hlt, l_lt hlt, cond_true, cond_true, List.drop_eq_getElem_cons hlt, List.map_cons, Int.toNat_natCast, l_get hlt, colsFrom, l_wrap hl hlt]
      by_cases h0 : intD (elemsD x0)[i] < 0
      · have a1 : decide (intD (elemsD x0)[i] < 0) = true := by simpa using h0
        have a2 : decide (0 ≤ intD (elemsD x0)[i]) = false := by simpa using h0
        rw [a1, a2]; rfl
      · have a1 : decide (intD (elemsD x0)[i] < 0) = false := by simpa using h0
        have a2 : decide (0 ≤ intD (elemsD x0)[i]) = true := by simp; omega
        by_cases h15 : intD (elemsD x0)[i] > 15
        · have b1 : decide (intD (elemsD x0)[i] > 15) = true := by simpa using h15
          have b2 : decide (intD (elemsD x0)[i] ≤ 15) = false := by simp; omega
          rw [a1, a2, b1, b2]; rfl
        · have b1 : decide (intD (elemsD x0)[i] > 15) = false := by simpa using h15
          have b2 : decide (intD (elemsD x0)[i] ≤ 15) = true := by simp; omega
          have b3 : decide (intD (elemsD x0)[i] < (16 : Int)) = true := by simp; omega
          rw [a1, a2, b1, b2, b3, seen_get (by omega) (by omega), seen_set (by omega) (by omega), cols_loop hl n (i + 1) _ (by omega) (by omega)]
          cases s.contains (intD (elemsD x0)[i]) <;> rfl
    · have h2 : (elemsD x0).drop i = [] := List.drop_of_length_le (by omega)
      rw [l_ge hlt, h2, cond_false]
      rfl
def e28 : FuncId × TypeId × (List AV → Bool) × (List AV → Option D) := (28, 4, yes, ent [22] (f1 fun x => some (.lit (.bool (colsMayB (elemsD x))))))
theorem k28 : FnOK Try.prog 28 Try.f28 := ⟨Try.func28, rfl, by kernel_rfl⟩
theorem c28 : ∀ args d, e28.2.2.2 args = some d → CallOK Try.prog 28 args (mkRes Try.prog 4 d) :=
  ent1 k28 fun x d h ⟨_, hx⟩ => by
    cases h
    rw [nI]
    refine fn_ok hm env8 k28 ((t28 ((elemsD x).length + 1) x).trans ?_)
    rw [m4, ← seen_nil]
    have := cols_loop (N := (elemsD x).length + 1) (lenI hx) ((elemsD x).length + 1) 0 [] (Nat.zero_le _) (by omega)
    refine this.trans ?_
    rw [List.drop_zero, cols_all]
    rfl

/-! ### rowsMay -/
theorem rows_in {N : Nat} {x0 : D} {v10 : Int} {m0 : Nat} (r : D) (hr : (elemsD (fieldD x0 1)).getD v10.toNat .nil = r) (hl : (elemsD r).length ≤ maxLen) (hN : (elemsD r).length < N) :
    t29_lp7 Try.prog Try.f29 N N x0 v10 m0 0 = bif (elemsD r).all mayB then t29_lp2 Try.prog Try.f29 N m0 x0 (IntKind.wrap .i64 (v10 + 1)) else some (dat 4 (.lit (.bool false))) := by
  have := l_loop (fun n v => t29_lp7 Try.prog Try.f29 N n x0 v10 m0 v) (elemsD r).length (fun i => !mayB ((elemsD r).getD i .nil)) (some (dat 4 (.lit (.bool false)))) (t29_lp2 Try.prog Try.f29 N m0 x0 (IntKind.wrap .i64 (v10 + 1)))
    (fun n i hi => by
      rw [t29_lp7_step, hr, l_idx hi, l_lt hi, cond_true, cond_true, l_wrap hl hi, Int.toNat_natCast])
    (fun n => by rw [t29_lp7_step, hr, l_ge (by omega), cond_false]) N 0 (Nat.zero_le _) (by omega)
  refine this.trans ?_
  rw [Nat.sub_zero, l_any0 (elemsD r) (fun v => !mayB v)]
  have : (elemsD r).any (fun v => !mayB v) = !(elemsD r).all mayB := by
    rw [List.all_eq_not_any_not, Bool.not_not]
  rw [this]
  cases (elemsD r).all mayB <;> rfl
def e29 : FuncId × TypeId × (List AV → Bool) × (List AV → Option D) := (29, 4, yes, ent [25] (f1 fun x => some (.lit (.bool (rowsMayB x)))))
theorem k29 : FnOK Try.prog 29 Try.f29 := ⟨Try.func29, rfl, by kernel_rfl⟩
theorem c29 : ∀ args d, e29.2.2.2 args = some d → CallOK Try.prog 29 args (mkRes Try.prog 4 d) :=
  ent1 k29 fun x d h ⟨_, hx⟩ => by
    cases h
    rw [nB]
    obtain ⟨cs, rs, rfl, h1, h2, h3, h4⟩ := tyB hx
    refine fn_ok hm env8 k29 ((t29 (fuelB rs) (bagD cs rs)).trans ?_)
    rw [m4]
    have := l_loop (fun n v => t29_lp2 Try.prog Try.f29 (fuelB rs) n (bagD cs rs) v) rs.length (fun i => !(((elemsD (rs.getD i .nil)).length == cs.length) && (elemsD (rs.getD i .nil)).all mayB)) (some (dat 4 (.lit (.bool false)))) (some (dat 4 (.lit (.bool true))))
      (fun n i hi => by
        have hmem : rs.getD i .nil ∈ rs := by rw [l_get hi]; exact List.getElem_mem hi
        obtain ⟨vs, hvs, hvl, _⟩ := h4 _ hmem
        have hvl' : (elemsD (rs.getD i .nil)).length ≤ maxLen := by rw [hvs]; exact hvl
        rw [t29_lp2_step, bagR, bagC, l_idx hi, l_lt hi, cond_true, cond_true, Int.toNat_natCast, rows_in (rs.getD i .nil) (by rw [bagR, Int.toNat_natCast]) hvl' (fuel_row hmem), l_wrap h2 hi]
        by_cases he : (elemsD (rs.getD i .nil)).length = cs.length
        · have q1 : (((elemsD (rs.getD i .nil)).length : Int) != (cs.length : Int)) = false := l_nef he
          have q2 : ((elemsD (rs.getD i .nil)).length == cs.length) = true := l_eqt he
          rw [q1, q2]
          cases (elemsD (rs.getD i .nil)).all mayB <;> rfl
        · have q1 : (((elemsD (rs.getD i .nil)).length : Int) != (cs.length : Int)) = true := l_net he
          have q2 : ((elemsD (rs.getD i .nil)).length == cs.length) = false := l_eqf he
          rw [q1, q2]; rfl)
      (fun n => by rw [t29_lp2_step, bagR, l_ge (by omega), cond_false]) (fuelB rs) 0 (Nat.zero_le _) (by unfold fuelB; omega)
    refine this.trans ?_
    rw [Nat.sub_zero, l_any0 rs (fun r => !(((elemsD r).length == cs.length) && (elemsD r).all mayB))]
    have e : rowsMayB (bagD cs rs) = !(rs.any fun r => !(((elemsD r).length == cs.length) && (elemsD r).all mayB)) := by
      unfold rowsMayB
      rw [List.all_eq_not_any_not]
      rfl
    show _ = some (dat 4 (.lit (.bool (rowsMayB (bagD cs rs)))))
    rw [e]
    cases rs.any _ <;> rfl

/-! ### column -/
theorem column_loop {N : Nat} {cs rs : List D} {x1 : Int} (hl : rs.length ≤ maxLen) (h0 : 0 ≤ x1) (hin : ∀ r ∈ rs, x1 < ((elemsD r).length : Int)) : ∀ (n i : Nat) (tl : List D), i ≤ rs.length → rs.length - i < n → tl.length = rs.length - i →
    t32_lp3 Try.prog Try.f32 N n (bagD cs rs) x1 (i : Int) ((rs.take i).map (fun r => (elemsD r).getD x1.toNat .nil) ++ tl) = some (dat 32 (.slice (columnL rs x1) []))
  | 0, i, tl, _, h, _ => by omega
  | n + 1, i, tl, hi, h, htl => by
    rw [t32_lp3_step, bagR]
    by_cases hlt : i < rs.length
    · have hlen : ((rs.take i).map (fun r => (elemsD r).getD x1.toNat .nil) ++ tl).length = rs.length := by simp; omega
      have hc : (decide (0 ≤ x1) && decide (x1 < ((elemsD rs[i]).length : Int))) = true := by
        simp only [Bool.and_eq_true, decide_eq_true_eq]; exact ⟨h0, hin _ (List.getElem_mem hlt)⟩
      rw [hlen, l_idx hlt, l_lt hlt, cond_true, cond_true, Int.toNat_natCast, l_get hlt, hc, cond_true, cond_true, l_wrap hl hlt, l_set (fun r => (elemsD r).getD x1.toNat .nil) hlt htl]
      exact column_loop hl h0 hin n (i + 1) (tl.drop 1) (by omega) (by omega) (by simp; omega)
    · have hi2 : i = rs.length := by omega
      have htl0 : tl = [] := List.length_eq_zero_iff.1 (by omega)
      subst htl0 hi2
      rw [l_ge (by omega), cond_false, List.take_length, List.append_nil]
      rfl
def e32 : FuncId × TypeId × (List AV → Bool) × (List AV → Option D) := (32, 32, preD (q2 fun x y => colOK (bRows x) (intD y)), ent [25, 3] (f2 fun x y => some (.slice (columnL (bRows x) (intD y)) [])))
theorem k32 : FnOK Try.prog 32 Try.f32 := ⟨Try.func32, rfl, by kernel_rfl⟩
theorem c32 : ∀ args d, e32.2.2.1 args = true → e32.2.2.2 args = some d → CallOK Try.prog 32 args (mkRes Try.prog 32 d) :=
  ent2p k32 fun x y d hq h ⟨_, hx⟩ _ => by
    cases h
    rw [nB, n3]
    obtain ⟨cs, rs, rfl, h1, h2, h3, h4⟩ := tyB hx
    simp only [colOK, Bool.and_eq_true, decide_eq_true_eq, List.all_eq_true] at hq
    obtain ⟨⟨g1, g2⟩, g3⟩ := hq
    have g2 : rs.length ≤ 2147483648 := g2
    refine fn_ok hm env8 k32 ((t32 (rs.length + 1) (bagD cs rs) (intD y)).trans ?_)
    rw [m28, bagR]
    have c1 : (decide (0 ≤ (rs.length : Int)) && decide ((rs.length : Int) ≤ 2147483648)) = true := by
      simp only [Bool.and_eq_true, decide_eq_true_eq]; omega
    rw [c1, cond_true, Int.toNat_natCast]
    exact column_loop (N := rs.length + 1) (cs := cs) h2 g1 g3 (rs.length + 1) 0 _ (Nat.zero_le _) (by omega) (by simp)

/-! ### few, Three -/
def e5 : FuncId × TypeId × (List AV → Bool) × (List AV → Option D) := (5, 4, yes, ent [25, 3] (f2 fun x y => some (.lit (.bool (fewBagB x (intD y))))))
theorem k5 : FnOK Try.prog 5 Try.f5 := ⟨Try.func5, rfl, by kernel_rfl⟩
theorem c5 : ∀ args d, e5.2.2.2 args = some d → CallOK Try.prog 5 args (mkRes Try.prog 4 d) :=
  ent2 k5 fun x y d h ⟨_, hx⟩ _ => by
    cases h
    rw [nB, n3]
    obtain ⟨cs, rs, rfl, h1, h2, h3, h4⟩ := tyB hx
    refine fn_ok hm env8 k5 ((t5 (rs.length + 1) (bagD cs rs) (intD y)).trans ?_)
    rw [m4, bagR, bagC]
    have := l_loop (fun n v => t5_lp4 Try.prog Try.f5 (rs.length + 1) n (bagD cs rs) (intD y) v) rs.length (fun i => decide (((elemsD (rs.getD i .nil)).length : Int) > 20)) (some (dat 4 (.lit (.bool false)))) (some (dat 4 (.lit (.bool true))))
      (fun n i hi => by rw [t5_lp4_step, bagR, l_idx hi, l_lt hi, cond_true, cond_true, Int.toNat_natCast, l_wrap h2 hi])
      (fun n => by rw [t5_lp4_step, bagR, l_ge (by omega), cond_false]) (rs.length + 1) 0 (Nat.zero_le _) (by omega)
    have this : t5_lp4 Try.prog Try.f5 (rs.length + 1) (rs.length + 1) (bagD cs rs) (intD y) 0 = _ := this
    rw [this, Nat.sub_zero, l_any0 rs (fun r => decide (((elemsD r).length : Int) > 20))]
    show _ = some (dat 4 (.lit (.bool (fewBagB (bagD cs rs) (intD y)))))
    have e : fewBagB (bagD cs rs) (intD y) = (decide ((rs.length : Int) ≤ intD y) && decide (cs.length ≤ 20) && !(rs.any fun r => decide (((elemsD r).length : Int) > 20))) := by
      unfold fewBagB
      show (_ && _ && rs.all _) = _
      rw [List.all_eq_not_any_not]
      have : (fun r => !decide ((elemsD r).length ≤ 20)) = (fun r => decide (((elemsD r).length : Int) > 20)) := by
        funext r
        rw [Bool.eq_iff_iff]
        simp
        omega
      rw [this]
      rfl
    rw [e]
    have e1 : decide ((rs.length : Int) ≤ intD y) = !decide ((rs.length : Int) > intD y) := by
      rw [Bool.eq_iff_iff]; simp
    have e2 : decide (cs.length ≤ 20) = !decide ((cs.length : Int) > 20) := by
      rw [Bool.eq_iff_iff]; simp; omega
    rw [e1, e2]
    cases decide ((rs.length : Int) > intD y) <;> cases decide ((cs.length : Int) > 20) <;> cases rs.any _ <;> rfl
def e10 : FuncId × TypeId × (List AV → Bool) × (List AV → Option D) := (10, 25, yes, ent [] (f0 (some threeD)))
theorem k10 : FnOK Try.prog 10 Try.f10 := ⟨Try.func10, rfl, by kernel_rfl⟩
theorem c10 : ∀ args d, e10.2.2.2 args = some d → CallOK Try.prog 10 args (mkRes Try.prog 25 d) :=
  ent0 fun d h => by
    cases h
    refine fn_ok hm env8 k10 ((t10 1).trans ?_)
    rw [mB]
    rfl

/-! ### groupCols -/
theorem gcols_loop {N : Nat} {x0 : Int} {m : Nat} (hm1 : m ≤ 1000) : ∀ (n i : Nat) (l : List D), 1 ≤ i → i ≤ m + 1 → m + 1 - i < n → l = groupColsL x0 ((i - 1 : Nat) : Int) →
    t17_lp3b Try.prog Try.f17 N n x0 (m : Int) (i : Int) l = some (dat 22 (.slice (groupColsL x0 (m : Int)) []))
  | 0, i, l, _, _, h, _ => by omega
  | n + 1, i, l, h1, hi, h, hl => by
    have hw : IntKind.wrap .i64 (1 + (m : Int)) = ((m + 1 : Nat) : Int) := by rw [l_wrapI (l_in (by omega) (by omega))]; omega
    rw [t17_lp3b_step, hw]
    by_cases hlt : i < m + 1
    · have hlen : l.length = i + 1 := by rw [hl]; simp [groupColsL]; omega
      have c1 : decide (l.length + 1 ≤ 2147483648) = true := by simp; omega
      have w1 : IntKind.wrap .i64 ((i : Int) + 1) = ((i + 1 : Nat) : Int) := by rw [l_wrapI (l_in (by omega) (by omega))]; omega
      have w2 : IntKind.wrap .i64 (16 + (i : Int)) = 16 + (i : Int) := l_wrapI (l_in (by omega) (by omega))
      rw [l_lt hlt, cond_true, c1, cond_true, w1, w2]
      refine gcols_loop hm1 n (i + 1) _ (by omega) (by omega) (by omega) ?_
      rw [hl]
      unfold groupColsL
      have e1 : (((i - 1 : Nat) : Int)).toNat + 1 = i := by omega
      have e2 : (((i + 1 - 1 : Nat) : Int)).toNat + 1 = i + 1 := by omega
      rw [e1, e2, List.range_succ, List.map_append]
      rfl
    · have : i = m + 1 := by omega
      subst this
      rw [l_ge (by omega), cond_false, hl]
      rfl
def e17 : FuncId × TypeId × (List AV → Bool) × (List AV → Option D) := (17, 22, preD (q2 fun _ y => decide (0 ≤ intD y) && decide (intD y ≤ 1000)), ent [3, 3] (f2 fun x y => some (.slice (groupColsL (intD x) (intD y)) [])))
theorem k17 : FnOK Try.prog 17 Try.f17 := ⟨Try.func17, rfl, by kernel_rfl⟩
theorem c17 : ∀ args d, e17.2.2.1 args = true → e17.2.2.2 args = some d → CallOK Try.prog 17 args (mkRes Try.prog 22 d) :=
  ent2p k17 fun x y d hq h _ _ => by
    cases h
    rw [n3, n3]
    simp only [Bool.and_eq_true, decide_eq_true_eq] at hq
    obtain ⟨m, hmy⟩ : ∃ m : Nat, intD y = (m : Int) := ⟨(intD y).toNat, by omega⟩
    refine fn_ok hm env8 k17 ((t17 (m + 3) (intD x) (intD y)).trans ?_)
    rw [mI, hmy, t17_lp3_step]
    have hw : IntKind.wrap .i64 (1 + (m : Int)) = ((m + 1 : Nat) : Int) := by rw [l_wrapI (l_in (by omega) (by omega))]; omega
    have c0 : decide ((0 : Int) < ((m + 1 : Nat) : Int)) = true := by rw [decide_eq_true_eq]; omega
    rw [hw, c0, cond_true]
    have := gcols_loop (N := m + 3) (x0 := intD x) (m := m) (by omega) (m + 2) 1 (groupColsL (intD x) 0) (by omega) (by omega) (by omega) rfl
    exact this

/-! ### Clone -/
theorem c23' {n : Nat} {x : D} (hx : Ty Try.prog n 22 x) (hl : (elemsD x).length ≤ 2147483648) : CallOK Try.prog 23 [dat 22 x] (dat 22 x) := by
  obtain ⟨es, rfl, _, _⟩ := tyI hx
  refine evFnM_sound hm env8 uI (fn := Try.f23) Try.func23 (by kernel_rfl) (.inl rfl) (hh := t23_n_h) (fuel := 1) (fun he => ?_) ?_
  · rw [he]; exact t23_n 1
  · have h := t23_s 1 (.slice es [])
    have c1 : decide ((0 : Nat) + (elemsD (.slice es [] : D)).length ≤ 2147483648) = true := by simpa using hl
    exact (show evFnM _ _ _ _ _ _ = evFnM _ _ _ _ _ _ from rfl).trans (h.trans (by first | (rw [c1]; rfl) | (simp only [c1]; rfl)))
theorem c22' {n : Nat} {x : D} (hx : Ty Try.prog n 32 x) (hl : (elemsD x).length ≤ 2147483648) : CallOK Try.prog 22 [dat 32 x] (dat 32 x) := by
  obtain ⟨es, rfl, _, _⟩ := ty28 hx
  refine evFnM_sound hm env8 uV (fn := Try.f22) Try.func22 (by kernel_rfl) (.inl rfl) (hh := t22_n_h) (fuel := 1) (fun he => ?_) ?_
  · rw [he]; exact t22_n 1
  · have h := t22_s 1 (.slice es [])
    have c1 : decide ((0 : Nat) + (elemsD (.slice es [] : D)).length ≤ 2147483648) = true := by simpa using hl
    exact (show evFnM _ _ _ _ _ _ = evFnM _ _ _ _ _ _ from rfl).trans (h.trans (by first | (rw [c1]; rfl) | (simp only [c1]; rfl)))
def e23 : FuncId × TypeId × (List AV → Bool) × (List AV → Option D) := (23, 22, preD (q1 fun x => decide ((elemsD x).length ≤ 2147483648)), ent [22] (f1 fun x => some x))
theorem k23 : FnOK Try.prog 23 Try.f23 := ⟨Try.func23, rfl, by kernel_rfl⟩
theorem c23 : ∀ args d, e23.2.2.1 args = true → e23.2.2.2 args = some d → CallOK Try.prog 23 args (mkRes Try.prog 22 d) :=
  ent1p k23 fun x d hq h ⟨_, hx⟩ => by
    cases h
    rw [nI, mI]
    exact c23' hx (by simpa using hq)
def e22 : FuncId × TypeId × (List AV → Bool) × (List AV → Option D) := (22, 32, preD (q1 fun x => decide ((elemsD x).length ≤ 2147483648)), ent [32] (f1 fun x => some x))
theorem k22 : FnOK Try.prog 22 Try.f22 := ⟨Try.func22, rfl, by kernel_rfl⟩
theorem c22 : ∀ args d, e22.2.2.1 args = true → e22.2.2.2 args = some d → CallOK Try.prog 22 args (mkRes Try.prog 32 d) :=
  ent1p k22 fun x d hq h ⟨_, hx⟩ => by
    cases h
    rw [n28, m28]
    exact c22' hx (by simpa using hq)

def B1 : Tab := e14 :: e18 :: e36 :: e24 :: e25 :: e28 :: e29 :: e32 :: e5 :: e10 :: e17 :: e23 :: e22 :: T8
theorem envB1 : EnvOK Try.prog (envR B1 [] [] []) :=
  envOK_cons (envOK_cons (envOK_cons (envOK_cons (envOK_cons (envOK_cons (envOK_cons (envOK_cons' (envOK_cons (envOK_cons (envOK_cons' (envOK_cons' (envOK_cons' env8 c22) c23) c17) c10) c5) c32) c29) c28) c25) c24) c36) c18) c14

end Go.Proofs.Ytjofcicaoofijaa
