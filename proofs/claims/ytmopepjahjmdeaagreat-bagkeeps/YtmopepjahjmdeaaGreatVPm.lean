/- Rows kept one behind the other, and of bags that are crossed, in plain data. Nothing here is trusted. -/
import Derived.Test.YtmopepjahjmdeaaGreatV3
import Derived.Test.YtmopepjahjmdeaaGreatVC
namespace Go.Ev
set_option linter.unusedVariables false
set_option linter.unusedSimpArgs false

theorem allKeep_app (l k cs row : List D) : allKeepB (l ++ k) cs row = (allKeepB l cs row && allKeepB k cs row) := by
  unfold allKeepB
  rw [List.all_append]
theorem keep_keep (b : D) (l k : List D) : keepBag (keepBag b l) k = keepBag b (l ++ k) := by
  show bagD (bCols b) ((((bRows b).filter fun r => allKeepB l (bCols b) (elemsD r))).filter fun r => allKeepB k (bCols b) (elemsD r)) = bagD (bCols b) ((bRows b).filter fun r => allKeepB (l ++ k) (bCols b) (elemsD r))
  rw [List.filter_filter]
  congr 1
  refine List.filter_congr fun r _ => ?_
  rw [allKeep_app, Bool.and_comm]
theorem keep_swap (b : D) (l k : List D) : keepBag (keepBag b l) k = keepBag (keepBag b k) l := by
  rw [keep_keep, keep_keep]
  show bagD (bCols b) ((bRows b).filter fun r => allKeepB (l ++ k) (bCols b) (elemsD r)) = bagD (bCols b) ((bRows b).filter fun r => allKeepB (k ++ l) (bCols b) (elemsD r))
  congr 1
  refine List.filter_congr fun r _ => ?_
  rw [allKeep_app, allKeep_app, Bool.and_comm]
theorem keep_len (b : D) (l : List D) : (bRows (keepBag b l)).length ≤ (bRows b).length := List.length_filter_le _ _
theorem keep_sort {b : D} (l : List D) (h : sortOK b = true) : sortOK (keepBag b l) = true := by
  simp only [sortOK, Bool.and_eq_true, decide_eq_true_eq, List.all_eq_true] at h ⊢
  obtain ⟨⟨h1, h2⟩, h3⟩ := h
  exact ⟨⟨Nat.le_trans (keep_len b l) h1, h2⟩, fun r hr => h3 r (List.mem_filter.1 hr).1⟩
theorem few_sort {b : D} {n : Int} (hn : n ≤ 1000) (h : fewBagB b n = true) : sortOK b = true := by
  simp only [fewBagB, Bool.and_eq_true, decide_eq_true_eq, List.all_eq_true] at h
  simp only [sortOK, Bool.and_eq_true, decide_eq_true_eq, List.all_eq_true]
  refine ⟨⟨by omega, by omega⟩, fun r hr => ?_⟩
  have := h.2 r hr
  omega

theorem idxFrom_app (z : Int) : ∀ (l m : List Int) (i : Nat), l.contains z = true → Lib.idxFrom (l ++ m) z i = Lib.idxFrom l z i
  | [], m, i, h => by simp at h
  | x :: l, m, i, h => by
    rw [List.cons_append, Lib.idxFrom, Lib.idxFrom]
    by_cases hx : x = z
    · rw [if_pos hx, if_pos hx]
    · rw [if_neg hx, if_neg hx]
      refine idxFrom_app z l m (i + 1) ?_
      rw [List.contains_cons, Bool.or_eq_true] at h
      rcases h with h | h
      · rw [beq_iff_eq] at h; exact absurd h.symm hx
      · exact h
theorem at_app {cs cs' x y : List D} {z : Int} (h : hasB cs z = true) (hl : x.length = cs.length) : atD z (cs ++ cs') (x ++ y) = atD z cs x := by
  obtain ⟨a, b⟩ := place_in h
  unfold placeI at a b
  have e1 : Lib.idxOf ((cs ++ cs').map intD) z = Lib.idxOf (cs.map intD) z := by
    rw [List.map_append]
    exact idxFrom_app z _ _ 0 h
  have e2 : (x ++ y).getD (Lib.idxOf (cs.map intD) z).toNat .nil = x.getD (Lib.idxOf (cs.map intD) z).toNat .nil := by
    rw [l_get (by rw [List.length_append]; omega), l_get (by omega), List.getElem_append_left]
  unfold atD
  have f2 : decide (Lib.idxOf (cs.map intD) z < 0) = false := by rw [decide_eq_false_iff_not]; omega
  have f3 : decide (Lib.idxOf (cs.map intD) z ≥ ((x ++ y).length : Int)) = false := by rw [decide_eq_false_iff_not, List.length_append]; omega
  have f4 : decide (Lib.idxOf (cs.map intD) z ≥ (x.length : Int)) = false := by rw [decide_eq_false_iff_not]; omega
  rw [e1, f2, f3, f4, e2]
theorem cross_filter {ys : List D} {p q : D → Bool} : ∀ {xs : List D}, (∀ x ∈ xs, ∀ y ∈ ys, p (crossRow x y) = q x) → (crossRows xs ys).filter p = crossRows (xs.filter q) ys
  | [], _ => rfl
  | x :: xs, h => by
    have ih := cross_filter (ys := ys) (p := p) (q := q) (xs := xs) fun x hx => h x (List.mem_cons_of_mem _ hx)
    have h0 := h x (List.mem_cons_self ..)
    unfold crossRows at ih ⊢
    rw [List.flatMap_cons, List.filter_append, ih, List.filter_cons]
    cases hq : q x with
    | true =>
      rw [if_pos rfl, List.flatMap_cons]
      congr 1
      rw [List.filter_eq_self]
      intro r hr
      obtain ⟨y, hy, rfl⟩ := List.mem_map.1 hr
      rw [h0 y hy, hq]
    | false =>
      rw [if_neg (by simp)]
      have : (ys.map (crossRow x)).filter p = [] := by
        rw [List.filter_eq_nil_iff]
        intro r hr
        obtain ⟨y, hy, rfl⟩ := List.mem_map.1 hr
        rw [h0 y hy, hq]
        simp
      rw [this, List.nil_append]
theorem cross_ok {a b : D} (h : crossOK a b = true) : mayBagB a = true ∧ mayBagB b = true ∧ meetB (bCols a) (bCols b) = false ∧ (bRows a).length * (bRows b).length ≤ 5000 := by
  unfold crossOK at h
  rw [Bool.and_eq_true, Bool.and_eq_true, Bool.and_eq_true, Bool.not_eq_true', decide_eq_true_eq] at h
  exact ⟨h.1, h.2.1, h.2.2.1, h.2.2.2⟩
theorem cross_mk {a b : D} (h1 : mayBagB a = true) (h2 : mayBagB b = true) (h3 : meetB (bCols a) (bCols b) = false) (h4 : (bRows a).length * (bRows b).length ≤ 5000) : crossOK a b = true := by
  unfold crossOK
  rw [h1, h2, h3, decide_eq_true h4]
  rfl
theorem cross_eq {a b : D} (h : crossOK a b = true) : crossBag a b = bagD (bCols a ++ bCols b) (crossRows (bRows a) (bRows b)) := by
  unfold crossBag
  rw [h, cond_true]
theorem cross_sort {cs rs cs' rs' : List D} (h : crossOK (bagD cs rs) (bagD cs' rs') = true) : sortOK (crossBag (bagD cs rs) (bagD cs' rs')) = true := by
  obtain ⟨h1, h2, h3, h4⟩ := cross_ok h
  have m1 := may_bag h1
  have m2 := may_bag h2
  have f1 := cols_few (mayBag_cols h1)
  have f2 := cols_few (mayBag_cols h2)
  have f1 : cs.length ≤ 16 := f1
  have f2 : cs'.length ≤ 16 := f2
  have h4 : rs.length * rs'.length ≤ 5000 := h4
  rw [cross_eq h]
  simp only [sortOK, Bool.and_eq_true, decide_eq_true_eq, List.all_eq_true]
  refine ⟨⟨?_, ?_⟩, fun r hr => ?_⟩
  · show (crossRows rs rs').length ≤ _
    rw [crossRows_len]; omega
  · show (cs ++ cs').length ≤ _
    rw [List.length_append]; omega
  · have hr : r ∈ crossRows rs rs' := hr
    unfold crossRows at hr
    rw [List.mem_flatMap] at hr
    obtain ⟨x, hx, hr⟩ := hr
    obtain ⟨y, hy, rfl⟩ := List.mem_map.1 hr
    have l1 := m1.l x hx
    have l2 := m2.l y hy
    show (elemsD x ++ elemsD y).length ≤ _
    rw [List.length_append]; omega
end Go.Ev
