/- Bags crossed, in plain data. Nothing here is trusted. -/
import Derived.Test.YtbidfbpaeemhhaaDoorV2
import Derived.Test.YtbidfbpaeemhhaaDoorVX
namespace Go.Ev
set_option linter.unusedVariables false
set_option linter.unusedSimpArgs false

/-- Where the first one is that is a column of a. -/
def ixFrom (a : List D) : List D → Nat → Int
  | [], _ => -1
  | c :: l, i => bif hasB a (intD c) then (i : Int) else ixFrom a l (i + 1)
def meetB (a b : List D) : Bool := b.any fun c => hasB a (intD c)
theorem ix_meet (a : List D) : ∀ (l : List D) (i : Nat), decide (ixFrom a l i ≥ 0) = meetB a l
  | [], i => rfl
  | c :: l, i => by
    unfold ixFrom meetB
    rw [List.any_cons]
    cases hasB a (intD c) with
    | true => rw [cond_true, Bool.true_or, decide_eq_true_eq]; omega
    | false => rw [cond_false, Bool.false_or]; exact ix_meet a l (i + 1)
def lenSum (ls : List D) : Nat := (ls.map fun r => (elemsD r).length).sum
def flatD (ls : List D) : List D := ls.flatMap elemsD
theorem flat_len (ls : List D) : (flatD ls).length = lenSum ls := by
  unfold flatD lenSum
  rw [List.length_flatMap]
def catOK (ls : List D) : Bool := decide (ls.length ≤ 1000) && decide (lenSum ls ≤ 1000000)
def crossOK (a b : D) : Bool := mayBagB a && (mayBagB b && (!meetB (bCols a) (bCols b) && decide ((bRows a).length * (bRows b).length ≤ 5000)))
def crossRow (x y : D) : D := .slice (elemsD x ++ elemsD y) []
def crossRows (xs ys : List D) : List D := xs.flatMap fun x => ys.map (crossRow x)
def crossBag (a b : D) : D := bif crossOK a b then bagD (bCols a ++ bCols b) (crossRows (bRows a) (bRows b)) else bagD [] []
theorem crossRows_len (xs ys : List D) : (crossRows xs ys).length = xs.length * ys.length := by
  unfold crossRows
  rw [List.length_flatMap]
  induction xs with
  | nil => simp
  | cons x xs ih =>
    rw [List.map_cons, List.sum_cons, ih, List.length_cons, List.length_map, Nat.succ_mul, Nat.add_comm]
theorem lenSum_take (ls : List D) (k : Nat) : lenSum (ls.take k) ≤ lenSum ls := by
  unfold lenSum
  conv => rhs; rw [← List.take_append_drop k ls, List.map_append, List.sum_append]
  omega
theorem lenSum_succ {ls : List D} {i : Nat} (h : i < ls.length) : lenSum (ls.take (i + 1)) = lenSum (ls.take i) + (elemsD ls[i]).length := by
  unfold lenSum
  rw [List.take_succ_eq_append_getElem h, List.map_append, List.sum_append]
  simp
theorem flatD_succ {ls : List D} {i : Nat} (h : i < ls.length) : flatD (ls.take (i + 1)) = flatD (ls.take i) ++ elemsD ls[i] := by
  unfold flatD
  rw [List.take_succ_eq_append_getElem h, List.flatMap_append]
  simp
def growP (n : Int) : Bool := decide (0 < n) && decide (n ≤ 2147483648)
def growZ (n : Int) : Bool := n == 0
/-- Nil, and a number that is asked something. -/
def preG (t : TypeId) (q : Int → Bool) (as : List AV) : Bool := match as with
  | [x, y] => x.ix == 2 && (y.ty == t && q (intD y.d))
  | _ => false
theorem flat_two (x y : D) : flatD [x, y] = elemsD x ++ elemsD y := by simp [flatD]
theorem lenSum_two (x y : D) : lenSum [x, y] = (elemsD x).length + (elemsD y).length := by simp [lenSum]
end Go.Ev

namespace Go.Ev
set_option linter.unusedVariables false

def pickedL (row ps : List D) : List D := ps.map fun q => row.getD (intD q).toNat .nil
def pickedOK (row ps : List D) : Bool := decide (ps.length ≤ 2147483648) && ps.all fun q => decide (0 ≤ intD q) && decide (intD q < (row.length : Int))
def pickOK (b : D) (cols : List D) : Bool := mayBagB b && colsMayB cols && hasAllB (bCols b) cols
def pickPs (b : D) (cols : List D) : List D := cols.map fun c => litI (placeI (bCols b) (intD c))
def pickBag (b : D) (cols : List D) : D := bif pickOK b cols then bagD cols ((bRows b).map fun r => .slice (pickedL (elemsD r) (pickPs b cols)) []) else bagD [] []
def fewE (e : D) (n : Int) : Bool := decide (sizeK 1001 e n ≤ n)
def lightB (es : List D) : Bool := decide (es.length ≤ 4) && es.all fun e => fewE e 60
def allKeepB (es cols row : List D) : Bool := es.all fun e => keepsE e cols row
def keepRows (es cols rows : List D) : List D := rows.filter fun r => allKeepB es cols (elemsD r)
def keepBag (b : D) (es : List D) : D := bagD (bCols b) (keepRows es (bCols b) (bRows b))
end Go.Ev

namespace Go.Ev
set_option linter.unusedVariables false
set_option linter.unusedSimpArgs false

theorem idxFrom_at (x : Int) : ∀ (zs : List Int) (i : Nat), zs.contains x = true → (i : Int) ≤ Lib.idxFrom zs x i ∧ zs.getD ((Lib.idxFrom zs x i).toNat - i) 0 = x
  | [], i, h => by simp at h
  | z :: zs, i, h => by
    rw [Lib.idxFrom]
    by_cases hz : z = x
    · rw [if_pos hz]
      exact ⟨Int.le_refl _, by simp [hz]⟩
    · rw [if_neg hz]
      have h' : zs.contains x = true := by
        rw [List.contains_cons, Bool.or_eq_true] at h
        rcases h with h | h
        · rw [beq_iff_eq] at h; exact absurd h.symm hz
        · exact h
      obtain ⟨a, b⟩ := idxFrom_at x zs (i + 1) h'
      refine ⟨by omega, ?_⟩
      have e : (Lib.idxFrom zs x (i + 1)).toNat - i = ((Lib.idxFrom zs x (i + 1)).toNat - (i + 1)) + 1 := by omega
      rw [e, List.getD_cons_succ]
      exact b
theorem getD_mapI (cols : List D) (k : Nat) : (cols.map intD).getD k 0 = intD (cols.getD k .nil) := by
  by_cases h : k < cols.length
  · simp [List.getD, h]
  · simp [List.getD, h, intD]
/-- At its place a column is. -/
theorem place_at {cols : List D} {c : Int} (h : hasB cols c = true) : intD (cols.getD (placeI cols c).toNat .nil) = c := by
  obtain ⟨_, b⟩ := idxFrom_at c (cols.map intD) 0 h
  rw [← getD_mapI]
  exact b
theorem place_has {cols : List D} {c : Int} (h : 0 ≤ placeI cols c) : hasB cols c = true := by
  have := Lib.idxOf_nonneg_iff (cols.map intD) c
  unfold placeI at h
  rw [this] at h
  exact h

def pickR (cs cols row : List D) : List D := cols.map fun c => row.getD (placeI cs (intD c)).toNat .nil
theorem picked_eq (b : D) (cols row : List D) : pickedL row (pickPs b cols) = pickR (bCols b) cols row := by
  unfold pickedL pickPs pickR
  rw [List.map_map]
  rfl
theorem pickBag_eq {b : D} {cols : List D} (h : pickOK b cols = true) : pickBag b cols = bagD cols ((bRows b).map fun r => .slice (pickR (bCols b) cols (elemsD r)) []) := by
  unfold pickBag
  rw [h, cond_true]
  simp only [picked_eq]
theorem pickR_len (cs cols row : List D) : (pickR cs cols row).length = cols.length := by unfold pickR; simp
theorem pickR_at {cs cols row : List D} {c : Int} (h : hasB cols c = true) : (pickR cs cols row).getD (placeI cols c).toNat .nil = row.getD (placeI cs c).toNat .nil := by
  obtain ⟨a, b⟩ := place_in h
  have hk : (placeI cols c).toNat < cols.length := by omega
  have e := place_at h
  rw [l_get hk] at e
  rw [l_get (by rw [pickR_len]; exact hk)]
  have e3 : (pickR cs cols row)[(placeI cols c).toNat]'(by rw [pickR_len]; exact hk) = row.getD (placeI cs (intD cols[(placeI cols c).toNat])).toNat .nil := List.getElem_map (fun c => row.getD (placeI cs (intD c)).toNat .nil)
  rw [e3, e]
theorem hasAll_mem {all l : List D} (h : hasAllB all l = true) {c : D} (hc : c ∈ l) : hasB all (intD c) = true := by
  simp only [hasAllB, List.all_eq_true] at h
  exact h _ (List.mem_map_of_mem hc)
theorem hasAll_of {all l : List D} (h : ∀ c ∈ l, hasB all (intD c) = true) : hasAllB all l = true := by
  simp only [hasAllB, List.all_eq_true, List.mem_map]
  rintro z ⟨c, hc, rfl⟩
  exact h c hc
theorem hasB_mem {l : List D} {c : D} (h : c ∈ l) : hasB l (intD c) = true := by
  unfold hasB
  rw [List.contains_eq_mem, decide_eq_true_eq]
  exact List.mem_map_of_mem h
theorem hasB_ex {l : List D} {z : Int} (h : hasB l z = true) : ∃ c ∈ l, intD c = z := by
  unfold hasB at h
  rw [List.contains_eq_mem, decide_eq_true_eq, List.mem_map] at h
  exact h
theorem hasAll_trans {a b c : List D} (h1 : hasAllB a b = true) (h2 : hasAllB b c = true) : hasAllB a c = true := by
  refine hasAll_of fun x hx => ?_
  obtain ⟨y, hy, e⟩ := hasB_ex (hasAll_mem h2 hx)
  rw [← e]
  exact hasAll_mem h1 hy
theorem pickR_pickR {cs cols fewer row : List D} (h : hasAllB cols fewer = true) : pickR cols fewer (pickR cs cols row) = pickR cs fewer row := by
  show fewer.map _ = fewer.map _
  exact List.map_congr_left fun c hc => pickR_at (hasAll_mem h hc)
theorem pickOK_iff {b : D} {cols : List D} : pickOK b cols = true ↔ mayBagB b = true ∧ colsMayB cols = true ∧ hasAllB (bCols b) cols = true := by
  unfold pickOK
  rw [Bool.and_eq_true, Bool.and_eq_true, and_assoc]
theorem pick_twice {b : D} {cols fewer : List D} (h1 : pickOK b cols = true) (h2 : pickOK (pickBag b cols) fewer = true) :
    pickOK b fewer = true ∧ pickBag (pickBag b cols) fewer = pickBag b fewer := by
  have hc : bCols (pickBag b cols) = cols := by rw [pickBag_eq h1]; rfl
  have hr : bRows (pickBag b cols) = (bRows b).map fun r => .slice (pickR (bCols b) cols (elemsD r)) [] := by rw [pickBag_eq h1]; rfl
  obtain ⟨a1, a2, a3⟩ := pickOK_iff.1 h1
  obtain ⟨b1, b2, b3⟩ := pickOK_iff.1 h2
  rw [hc] at b3
  have h3 : pickOK b fewer = true := pickOK_iff.2 ⟨a1, b2, hasAll_trans a3 b3⟩
  refine ⟨h3, ?_⟩
  rw [pickBag_eq h2, pickBag_eq h3, hc, hr, List.map_map]
  congr 1
  refine List.map_congr_left fun r _ => ?_
  show (DataW.slice (pickR cols fewer (pickR (bCols b) cols (elemsD r))) [] : D) = _
  rw [pickR_pickR b3]
theorem pickR_own {cs row : List D} (hn : (cs.map intD).Nodup) (hl : row.length = cs.length) : pickR cs cs row = row := by
  refine List.ext_getElem (by rw [pickR_len, hl]) fun i h1 h2 => ?_
  have hi : i < cs.length := by omega
  have hb : hasB cs (intD cs[i]) = true := hasB_mem (List.getElem_mem hi)
  obtain ⟨a, b⟩ := place_in hb
  have e := place_at hb
  have hk : (placeI cs (intD cs[i])).toNat < cs.length := by omega
  rw [l_get hk] at e
  have hk2 : (placeI cs (intD cs[i])).toNat = i := by
    rcases Nat.lt_trichotomy (placeI cs (intD cs[i])).toNat i with h | h | h
    · have := (List.pairwise_iff_getElem.1 hn) _ i (by simpa using hk) (by simpa using hi) h
      simp only [List.getElem_map] at this
      exact absurd e this
    · exact h
    · have := (List.pairwise_iff_getElem.1 hn) i _ (by simpa using hi) (by simpa using hk) h
      simp only [List.getElem_map] at this
      exact absurd e.symm this
  have e3 : (pickR cs cs row)[i] = row.getD (placeI cs (intD cs[i])).toNat .nil := List.getElem_map (fun c => row.getD (placeI cs (intD c)).toNat .nil)
  rw [e3, hk2, l_get (by omega)]
theorem mayBag_cols {b : D} (h : mayBagB b = true) : colsMayB (bCols b) = true := by
  unfold mayBagB at h
  rw [Bool.and_eq_true, Bool.and_eq_true] at h
  exact h.1.1
theorem cols_nodup {l : List D} (h : colsMayB l = true) : (l.map intD).Nodup := by
  unfold colsMayB at h
  rw [Bool.and_eq_true] at h
  exact nodupI_iff h.2
theorem pick_own_ok (b : D) : pickOK b (bCols b) = mayBagB b := by
  cases h : mayBagB b with
  | false => unfold pickOK; rw [h]; rfl
  | true => exact pickOK_iff.2 ⟨h, mayBag_cols h, hasAll_of fun c hc => hasB_mem hc⟩
theorem pick_own {cs rs : List D} (h : mayBagB (bagD cs rs) = true) : likeB (pickBag (bagD cs rs) cs) (bagD cs rs) = true := by
  have h1 : pickOK (bagD cs rs) cs = true := (pick_own_ok (bagD cs rs)).trans h
  rw [pickBag_eq h1]
  have hm := may_bag h
  have e : (bRows (bagD cs rs)).map (fun r => (DataW.slice (pickR (bCols (bagD cs rs)) cs (elemsD r)) [] : D)) = rs.map fun r => .slice (elemsD r) [] := by
    show rs.map _ = rs.map _
    refine List.map_congr_left fun r hr => ?_
    show (DataW.slice (pickR cs cs (elemsD r)) [] : D) = _
    rw [pickR_own (cs := cs) (cols_nodup (mayBag_cols h)) (hm.l r hr)]
  rw [e]
  unfold likeB intsB
  show (cs.map intD == cs.map intD && ((rs.map fun r => (DataW.slice (elemsD r) [] : D)).map rowI == rs.map rowI)) = true
  rw [List.map_map]
  have e2 : rs.map (rowI ∘ fun r => (DataW.slice (elemsD r) [] : D)) = rs.map rowI := List.map_congr_left fun r _ => rfl
  rw [e2]
  simp
theorem keep_may {cs rs es : List D} (h : mayBagB (bagD cs rs) = true) : mayBagB (bagD cs (keepRows es cs rs)) = true := by
  unfold mayBagB rowsMayB at h ⊢
  simp only [Bool.and_eq_true, decide_eq_true_eq, List.all_eq_true] at h ⊢
  obtain ⟨⟨h1, h2⟩, h3⟩ := h
  refine ⟨⟨h1, ?_⟩, fun r hr => h3 r ?_⟩
  · exact Nat.le_trans (List.length_filter_le _ _) h2
  · exact (List.mem_filter.1 hr).1
theorem keep_pick {cs rs cols es : List D} (h : pickOK (bagD cs rs) cols = true) (hk : ∀ r ∈ rs, allKeepB es cols (pickR cs cols (elemsD r)) = allKeepB es cs (elemsD r)) :
    pickOK (keepBag (bagD cs rs) es) cols = true ∧ pickBag (keepBag (bagD cs rs) es) cols = keepBag (pickBag (bagD cs rs) cols) es := by
  obtain ⟨a1, a2, a3⟩ := pickOK_iff.1 h
  have h2 : pickOK (keepBag (bagD cs rs) es) cols = true := pickOK_iff.2 ⟨keep_may a1, a2, a3⟩
  refine ⟨h2, ?_⟩
  rw [pickBag_eq h2, pickBag_eq h]
  show bagD cols ((rs.filter _).map _) = bagD cols ((rs.map _).filter _)
  rw [List.filter_map]
  congr 2
  refine List.filter_congr fun r hr => ?_
  exact (hk r hr).symm
theorem sort_pick {cs rs cols : List D} (h : pickOK (bagD cs rs) cols = true) : sortOK (pickBag (bagD cs rs) cols) = true := by
  obtain ⟨a1, a2, a3⟩ := pickOK_iff.1 h
  have hm := may_bag a1
  have hn := hm.n
  have h16 := cols_few a2
  rw [pickBag_eq h]
  simp only [sortOK, Bool.and_eq_true, decide_eq_true_eq, List.all_eq_true]
  refine ⟨⟨?_, ?_⟩, ?_⟩
  · show (rs.map _).length ≤ _
    rw [List.length_map]; omega
  · show cols.length ≤ _
    omega
  · intro r hr
    obtain ⟨q, hq, rfl⟩ := List.mem_map.1 hr
    show (pickR _ cols _).length ≤ _
    rw [pickR_len]; omega
theorem at_pick {cs cols row : List D} {z : Int} (h1 : hasB cs z = true) (h2 : hasB cols z = true) (hl : row.length = cs.length) : atD z cols (pickR cs cols row) = atD z cs row := by
  obtain ⟨a, b⟩ := place_in h1
  obtain ⟨c, d⟩ := place_in h2
  have e := pickR_at (cs := cs) (row := row) h2
  unfold placeI at a b c d e
  unfold atD
  have f1 : decide (Lib.idxOf (cols.map intD) z < 0) = false := by rw [decide_eq_false_iff_not]; omega
  have f2 : decide (Lib.idxOf (cs.map intD) z < 0) = false := by rw [decide_eq_false_iff_not]; omega
  have f3 : decide (Lib.idxOf (cols.map intD) z ≥ ((pickR cs cols row).length : Int)) = false := by rw [decide_eq_false_iff_not, pickR_len]; omega
  have f4 : decide (Lib.idxOf (cs.map intD) z ≥ (row.length : Int)) = false := by rw [decide_eq_false_iff_not]; omega
  rw [f1, f2, f3, f4, e]

end Go.Ev

namespace Go.Ev
set_option linter.unusedVariables false
set_option linter.unusedSimpArgs false

theorem allKeep_app (l k cs row : List D) : allKeepB (l ++ k) cs row = (allKeepB l cs row && allKeepB k cs row) := by
  unfold allKeepB
  rw [List.all_append]
theorem keep_keep (b : D) (l k : List D) : keepBag (keepBag b l) k = keepBag b (l ++ k) := by
  show bagD (bCols b) ((((bRows b).filter fun r => allKeepB l (bCols b) (elemsD r))).filter fun r => allKeepB k (bCols b) (elemsD r)) = bagD (bCols b) ((bRows b).filter fun r => allKeepB (l ++ k) (bCols b) (elemsD r))
  rw [List.filter_filter]
  congr 1
  refine List.filter_congr fun r _ => ?_
  rw [allKeep_app, Bool.and_comm]
theorem keep_swap (b : D) (l k : List D) : keepBag (keepBag b l) k = keepBag (keepBag b k) l := by
  rw [keep_keep, keep_keep]
  show bagD (bCols b) ((bRows b).filter fun r => allKeepB (l ++ k) (bCols b) (elemsD r)) = bagD (bCols b) ((bRows b).filter fun r => allKeepB (k ++ l) (bCols b) (elemsD r))
  congr 1
  refine List.filter_congr fun r _ => ?_
  rw [allKeep_app, allKeep_app, Bool.and_comm]
theorem keep_len (b : D) (l : List D) : (bRows (keepBag b l)).length ≤ (bRows b).length := List.length_filter_le _ _
theorem keep_sort {b : D} (l : List D) (h : sortOK b = true) : sortOK (keepBag b l) = true := by
  simp only [sortOK, Bool.and_eq_true, decide_eq_true_eq, List.all_eq_true] at h ⊢
  obtain ⟨⟨h1, h2⟩, h3⟩ := h
  exact ⟨⟨Nat.le_trans (keep_len b l) h1, h2⟩, fun r hr => h3 r (List.mem_filter.1 hr).1⟩
theorem few_sort {b : D} {n : Int} (hn : n ≤ 1000) (h : fewBagB b n = true) : sortOK b = true := by
  simp only [fewBagB, Bool.and_eq_true, decide_eq_true_eq, List.all_eq_true] at h
  simp only [sortOK, Bool.and_eq_true, decide_eq_true_eq, List.all_eq_true]
  refine ⟨⟨by omega, by omega⟩, fun r hr => ?_⟩
  have := h.2 r hr
  omega

theorem idxFrom_app (z : Int) : ∀ (l m : List Int) (i : Nat), l.contains z = true → Lib.idxFrom (l ++ m) z i = Lib.idxFrom l z i
  | [], m, i, h => by simp at h
  | x :: l, m, i, h => by
    rw [List.cons_append, Lib.idxFrom, Lib.idxFrom]
    by_cases hx : x = z
    · rw [if_pos hx, if_pos hx]
    · rw [if_neg hx, if_neg hx]
      refine idxFrom_app z l m (i + 1) ?_
      rw [List.contains_cons, Bool.or_eq_true] at h
      rcases h with h | h
      · rw [beq_iff_eq] at h; exact absurd h.symm hx
      · exact h
theorem at_app {cs cs' x y : List D} {z : Int} (h : hasB cs z = true) (hl : x.length = cs.length) : atD z (cs ++ cs') (x ++ y) = atD z cs x := by
  obtain ⟨a, b⟩ := place_in h
  unfold placeI at a b
  have e1 : Lib.idxOf ((cs ++ cs').map intD) z = Lib.idxOf (cs.map intD) z := by
    rw [List.map_append]
    exact idxFrom_app z _ _ 0 h
  have e2 : (x ++ y).getD (Lib.idxOf (cs.map intD) z).toNat .nil = x.getD (Lib.idxOf (cs.map intD) z).toNat .nil := by
    rw [l_get (by rw [List.length_append]; omega), l_get (by omega), List.getElem_append_left]
  unfold atD
  have f2 : decide (Lib.idxOf (cs.map intD) z < 0) = false := by rw [decide_eq_false_iff_not]; omega
  have f3 : decide (Lib.idxOf (cs.map intD) z ≥ ((x ++ y).length : Int)) = false := by rw [decide_eq_false_iff_not, List.length_append]; omega
  have f4 : decide (Lib.idxOf (cs.map intD) z ≥ (x.length : Int)) = false := by rw [decide_eq_false_iff_not]; omega
  rw [e1, f2, f3, f4, e2]
theorem cross_filter {ys : List D} {p q : D → Bool} : ∀ {xs : List D}, (∀ x ∈ xs, ∀ y ∈ ys, p (crossRow x y) = q x) → (crossRows xs ys).filter p = crossRows (xs.filter q) ys
  | [], _ => rfl
  | x :: xs, h => by
    have ih := cross_filter (ys := ys) (p := p) (q := q) (xs := xs) fun x hx => h x (List.mem_cons_of_mem _ hx)
    have h0 := h x (List.mem_cons_self ..)
    unfold crossRows at ih ⊢
    rw [List.flatMap_cons, List.filter_append, ih, List.filter_cons]
    cases hq : q x with
    | true =>
      rw [if_pos rfl, List.flatMap_cons]
      congr 1
      rw [List.filter_eq_self]
      intro r hr
      obtain ⟨y, hy, rfl⟩ := List.mem_map.1 hr
      rw [h0 y hy, hq]
    | false =>
      rw [if_neg (by simp)]
      have : (ys.map (crossRow x)).filter p = [] := by
        rw [List.filter_eq_nil_iff]
        intro r hr
        obtain ⟨y, hy, rfl⟩ := List.mem_map.1 hr
        rw [h0 y hy, hq]
        simp
      rw [this, List.nil_append]
theorem cross_ok {a b : D} (h : crossOK a b = true) : mayBagB a = true ∧ mayBagB b = true ∧ meetB (bCols a) (bCols b) = false ∧ (bRows a).length * (bRows b).length ≤ 5000 := by
  unfold crossOK at h
  rw [Bool.and_eq_true, Bool.and_eq_true, Bool.and_eq_true, Bool.not_eq_true', decide_eq_true_eq] at h
  exact ⟨h.1, h.2.1, h.2.2.1, h.2.2.2⟩
theorem cross_mk {a b : D} (h1 : mayBagB a = true) (h2 : mayBagB b = true) (h3 : meetB (bCols a) (bCols b) = false) (h4 : (bRows a).length * (bRows b).length ≤ 5000) : crossOK a b = true := by
  unfold crossOK
  rw [h1, h2, h3, decide_eq_true h4]
  rfl
theorem cross_eq {a b : D} (h : crossOK a b = true) : crossBag a b = bagD (bCols a ++ bCols b) (crossRows (bRows a) (bRows b)) := by
  unfold crossBag
  rw [h, cond_true]
theorem cross_sort {cs rs cs' rs' : List D} (h : crossOK (bagD cs rs) (bagD cs' rs') = true) : sortOK (crossBag (bagD cs rs) (bagD cs' rs')) = true := by
  obtain ⟨h1, h2, h3, h4⟩ := cross_ok h
  have m1 := may_bag h1
  have m2 := may_bag h2
  have f1 := cols_few (mayBag_cols h1)
  have f2 := cols_few (mayBag_cols h2)
  have f1 : cs.length ≤ 16 := f1
  have f2 : cs'.length ≤ 16 := f2
  have h4 : rs.length * rs'.length ≤ 5000 := h4
  rw [cross_eq h]
  simp only [sortOK, Bool.and_eq_true, decide_eq_true_eq, List.all_eq_true]
  refine ⟨⟨?_, ?_⟩, fun r hr => ?_⟩
  · show (crossRows rs rs').length ≤ _
    rw [crossRows_len]; omega
  · show (cs ++ cs').length ≤ _
    rw [List.length_append]; omega
  · have hr : r ∈ crossRows rs rs' := hr
    unfold crossRows at hr
    rw [List.mem_flatMap] at hr
    obtain ⟨x, hx, hr⟩ := hr
    obtain ⟨y, hy, rfl⟩ := List.mem_map.1 hr
    have l1 := m1.l x hx
    have l2 := m2.l y hy
    show (elemsD x ++ elemsD y).length ≤ _
    rw [List.length_append]; omega
end Go.Ev

namespace Go.Ev
set_option linter.unusedVariables false
set_option linter.unusedSimpArgs false

theorem flat_cons {α β : Type} (g : α → β) (h : α → List β) : ∀ ys : List α, (ys.flatMap fun y => g y :: h y).Perm (ys.map g ++ ys.flatMap h)
  | [] => by simp
  | y :: ys => by
    rw [List.flatMap_cons, List.flatMap_cons, List.map_cons, List.cons_append, List.cons_append]
    refine List.Perm.cons _ ?_
    refine ((flat_cons g h ys).append_left (h y)).trans ?_
    rw [← List.append_assoc, ← List.append_assoc]
    exact List.Perm.append_right _ List.perm_append_comm
theorem flat_swap {α β γ : Type} (f : α → β → γ) (ys : List β) : ∀ xs : List α, (ys.flatMap fun y => xs.map fun x => f x y).Perm (xs.flatMap fun x => ys.map (f x))
  | [] => by simp
  | x :: xs => by
    rw [List.flatMap_cons]
    have e : (ys.flatMap fun y => (x :: xs).map fun x => f x y) = ys.flatMap fun y => f x y :: xs.map fun x => f x y := by simp
    rw [e]
    exact (flat_cons (f x) (fun y => xs.map fun x => f x y) ys).trans ((flat_swap f ys xs).append_left _)
theorem meet_iff {a b : List D} : meetB a b = true ↔ ∃ c ∈ b, ∃ d ∈ a, intD d = intD c := by
  unfold meetB
  rw [List.any_eq_true]
  constructor
  · rintro ⟨c, hc, h⟩
    obtain ⟨d, hd, e⟩ := hasB_ex h
    exact ⟨c, hc, d, hd, e⟩
  · rintro ⟨c, hc, d, hd, e⟩
    exact ⟨c, hc, by rw [← e]; exact hasB_mem hd⟩
theorem meet_symm (a b : List D) : meetB a b = meetB b a := by
  rw [Bool.eq_iff_iff, meet_iff, meet_iff]
  constructor
  · rintro ⟨c, hc, d, hd, e⟩; exact ⟨d, hd, c, hc, e.symm⟩
  · rintro ⟨c, hc, d, hd, e⟩; exact ⟨d, hd, c, hc, e.symm⟩
theorem meet_left (a b c : List D) : meetB (a ++ b) c = (meetB a c || meetB b c) := by
  rw [Bool.eq_iff_iff, Bool.or_eq_true, meet_iff, meet_iff, meet_iff]
  constructor
  · rintro ⟨x, hx, d, hd, e⟩
    rcases List.mem_append.1 hd with hd | hd
    · exact .inl ⟨x, hx, d, hd, e⟩
    · exact .inr ⟨x, hx, d, hd, e⟩
  · rintro (⟨x, hx, d, hd, e⟩ | ⟨x, hx, d, hd, e⟩)
    · exact ⟨x, hx, d, List.mem_append_left _ hd, e⟩
    · exact ⟨x, hx, d, List.mem_append_right _ hd, e⟩
theorem meet_right (a b c : List D) : meetB a (b ++ c) = (meetB a b || meetB a c) := by
  rw [meet_symm, meet_left, meet_symm b a, meet_symm c a]
theorem cross_symm (a b : D) : crossOK a b = crossOK b a := by
  unfold crossOK
  rw [meet_symm, Nat.mul_comm]
  cases mayBagB a <;> cases mayBagB b <;> simp
theorem crossRow_assoc (x y z : D) : crossRow (crossRow x y) z = crossRow x (crossRow y z) := by
  show (DataW.slice ((elemsD x ++ elemsD y) ++ elemsD z) [] : D) = .slice (elemsD x ++ (elemsD y ++ elemsD z)) []
  rw [List.append_assoc]
theorem crossRows_assoc (xs ys zs : List D) : crossRows (crossRows xs ys) zs = crossRows xs (crossRows ys zs) := by
  unfold crossRows
  rw [List.flatMap_assoc]
  congr 1
  funext x
  rw [List.flatMap_map, List.map_flatMap]
  congr 1
  funext y
  rw [List.map_map]
  refine List.map_congr_left fun z _ => ?_
  exact crossRow_assoc x y z
/-- Where a column stands behind others. -/
theorem idxFrom_off (z : Int) : ∀ (l m : List Int) (i : Nat), l.contains z = false → m.contains z = true → Lib.idxFrom (l ++ m) z i = (l.length : Int) + Lib.idxFrom m z i
  | [], m, i, _, hm => by simp
  | x :: l, m, i, h, hm => by
    rw [List.cons_append, Lib.idxFrom]
    have hx : x ≠ z := fun hh => by subst hh; simp at h
    have hl : l.contains z = false := by
      rw [List.contains_cons, Bool.or_eq_false_iff] at h
      exact h.2
    rw [if_neg hx, idxFrom_off z l m (i + 1) hl hm]
    have := idxFrom_shift z m i hm
    rw [this, List.length_cons]
    push_cast
    omega
where
  idxFrom_shift (z : Int) : ∀ (m : List Int) (i : Nat), m.contains z = true → Lib.idxFrom m z (i + 1) = Lib.idxFrom m z i + 1
  | [], i, h => by simp at h
  | x :: m, i, h => by
    rw [Lib.idxFrom, Lib.idxFrom]
    by_cases hx : x = z
    · rw [if_pos hx, if_pos hx]; push_cast; rfl
    · rw [if_neg hx, if_neg hx]
      refine idxFrom_shift z m (i + 1) ?_
      rw [List.contains_cons, Bool.or_eq_true] at h
      rcases h with h | h
      · rw [beq_iff_eq] at h; exact absurd h.symm hx
      · exact h
theorem place_off {a b : List D} {z : Int} (ha : hasB a z = false) (hb : hasB b z = true) : placeI (a ++ b) z = (a.length : Int) + placeI b z := by
  unfold placeI
  rw [List.map_append]
  have := idxFrom_off z (a.map intD) (b.map intD) 0 ha hb
  rw [List.length_map] at this
  exact this
theorem place_on {a b : List D} {z : Int} (ha : hasB a z = true) : placeI (a ++ b) z = placeI a z := by
  unfold placeI
  rw [List.map_append]
  exact idxFrom_app z _ _ 0 ha
theorem pick_swap {A B x y : List D} (hA : (A.map intD).Nodup) (hB : (B.map intD).Nodup) (hm : meetB A B = false) (hx : x.length = A.length) (hy : y.length = B.length) : pickR (B ++ A) (A ++ B) (y ++ x) = x ++ y := by
  have e : pickR (B ++ A) (A ++ B) (y ++ x) = pickR (B ++ A) A (y ++ x) ++ pickR (B ++ A) B (y ++ x) := by unfold pickR; rw [List.map_append]
  have e1 : pickR (B ++ A) A (y ++ x) = pickR A A x := by
    unfold pickR
    refine List.map_congr_left fun c hc => ?_
    have h1 : hasB A (intD c) = true := hasB_mem hc
    have h2 : hasB B (intD c) = false := by
      cases h : hasB B (intD c) with
      | false => rfl
      | true =>
        obtain ⟨d, hd, e⟩ := hasB_ex h
        rw [meet_iff.2 ⟨d, hd, c, hc, e.symm⟩] at hm
        cases hm
    obtain ⟨p1, p2⟩ := place_in h1
    rw [place_off h2 h1]
    have hn : ((B.length : Int) + placeI A (intD c)).toNat = y.length + (placeI A (intD c)).toNat := by omega
    rw [hn, List.getD_eq_getElem?_getD, List.getD_eq_getElem?_getD, List.getElem?_append_right (by omega), Nat.add_sub_cancel_left]
  have e2 : pickR (B ++ A) B (y ++ x) = pickR B B y := by
    unfold pickR
    refine List.map_congr_left fun c hc => ?_
    have h1 : hasB B (intD c) = true := hasB_mem hc
    obtain ⟨p1, p2⟩ := place_in h1
    rw [place_on h1, List.getD_eq_getElem?_getD, List.getD_eq_getElem?_getD, List.getElem?_append_left (by omega)]
  rw [e, e1, e2, pickR_own hA hx, pickR_own hB hy]
end Go.Ev

namespace Go.Ev
set_option linter.unusedVariables false
set_option linter.unusedSimpArgs false

theorem nodupI_of : ∀ {l : List Int}, l.Nodup → nodupI l = true
  | [], _ => rfl
  | x :: l, h => by
    rw [List.nodup_cons] at h
    simp only [nodupI, Bool.and_eq_true, Bool.not_eq_true', List.contains_eq_mem, decide_eq_false_iff_not]
    exact ⟨h.1, nodupI_of h.2⟩
theorem may_parts {b : D} : mayBagB b = true ↔ colsMayB (bCols b) = true ∧ (bRows b).length ≤ 5000 ∧ ∀ r ∈ bRows b, (elemsD r).length = (bCols b).length ∧ ∀ v ∈ elemsD r, mayB v = true := by
  unfold mayBagB rowsMayB
  simp only [Bool.and_eq_true, decide_eq_true_eq, List.all_eq_true, beq_iff_eq, and_assoc]
theorem cols_app {A B : List D} (hA : colsMayB A = true) (hB : colsMayB B = true) (hm : meetB A B = false) : colsMayB (A ++ B) = true := by
  have nA := cols_nodup hA
  have nB := cols_nodup hB
  unfold colsMayB at hA hB ⊢
  rw [Bool.and_eq_true, List.all_eq_true] at hA hB ⊢
  refine ⟨fun z hz => ?_, ?_⟩
  · rw [List.map_append] at hz
    rcases List.mem_append.1 hz with hz | hz
    · exact hA.1 z hz
    · exact hB.1 z hz
  · refine nodupI_of ?_
    rw [List.map_append, List.nodup_append]
    refine ⟨nA, nB, fun x hx y hy hxy => ?_⟩
    obtain ⟨c, hc, rfl⟩ := List.mem_map.1 hx
    obtain ⟨d, hd, hh⟩ := List.mem_map.1 hy
    rw [meet_iff.2 ⟨d, hd, c, hc, by rw [hh, hxy]⟩] at hm
    cases hm
theorem cross_cols {a b : D} (h : crossOK a b = true) : bCols (crossBag a b) = bCols a ++ bCols b := by rw [cross_eq h]; rfl
theorem cross_rows {a b : D} (h : crossOK a b = true) : bRows (crossBag a b) = crossRows (bRows a) (bRows b) := by rw [cross_eq h]; rfl
theorem mem_cross {xs ys : List D} {r : D} (h : r ∈ crossRows xs ys) : ∃ x ∈ xs, ∃ y ∈ ys, r = crossRow x y := by
  unfold crossRows at h
  obtain ⟨x, hx, h⟩ := List.mem_flatMap.1 h
  obtain ⟨y, hy, rfl⟩ := List.mem_map.1 h
  exact ⟨x, hx, y, hy, rfl⟩
theorem cross_may {a b : D} (h : crossOK a b = true) : mayBagB (crossBag a b) = true := by
  obtain ⟨h1, h2, h3, h4⟩ := cross_ok h
  obtain ⟨a1, a2, a3⟩ := may_parts.1 h1
  obtain ⟨b1, b2, b3⟩ := may_parts.1 h2
  refine may_parts.2 ⟨by rw [cross_cols h]; exact cols_app a1 b1 h3, by rw [cross_rows h, crossRows_len]; exact h4, fun r hr => ?_⟩
  rw [cross_rows h] at hr
  obtain ⟨x, hx, y, hy, rfl⟩ := mem_cross hr
  obtain ⟨c1, c2⟩ := a3 x hx
  obtain ⟨d1, d2⟩ := b3 y hy
  have e : elemsD (crossRow x y) = elemsD x ++ elemsD y := rfl
  rw [e, cross_cols h]
  refine ⟨by rw [List.length_append, List.length_append, c1, d1], fun v hv => ?_⟩
  rcases List.mem_append.1 hv with hv | hv
  · exact c2 v hv
  · exact d2 v hv
theorem pick_cross_ok {a b : D} (h : crossOK a b = true) : pickOK (crossBag b a) (bCols (crossBag a b)) = true := by
  have h' : crossOK b a = true := (cross_symm b a).trans h
  refine pickOK_iff.2 ⟨cross_may h', mayBag_cols (cross_may h), ?_⟩
  rw [cross_cols h, cross_cols h']
  refine hasAll_of fun c hc => hasB_mem ?_
  rcases List.mem_append.1 hc with hc | hc
  · exact List.mem_append_right _ hc
  · exact List.mem_append_left _ hc
theorem pick_cross {a b : D} (h : crossOK a b = true) : bCols (pickBag (crossBag b a) (bCols (crossBag a b))) = bCols (crossBag a b) ∧ (bRows (pickBag (crossBag b a) (bCols (crossBag a b)))).Perm (bRows (crossBag a b)) := by
  have h' : crossOK b a = true := (cross_symm b a).trans h
  obtain ⟨h1, h2, h3, h4⟩ := cross_ok h
  obtain ⟨a1, a2, a3⟩ := may_parts.1 h1
  obtain ⟨b1, b2, b3⟩ := may_parts.1 h2
  rw [pickBag_eq (pick_cross_ok h)]
  refine ⟨rfl, ?_⟩
  show ((bRows (crossBag b a)).map fun r => (DataW.slice (pickR (bCols (crossBag b a)) (bCols (crossBag a b)) (elemsD r)) [] : D)).Perm (bRows (crossBag a b))
  rw [cross_rows h, cross_rows h', cross_cols h, cross_cols h']
  have e : (crossRows (bRows b) (bRows a)).map (fun r => (DataW.slice (pickR (bCols b ++ bCols a) (bCols a ++ bCols b) (elemsD r)) [] : D)) = (bRows b).flatMap fun y => (bRows a).map fun x => crossRow x y := by
    unfold crossRows
    rw [List.map_flatMap]
    refine flatMap_congr' fun y hy => ?_
    rw [List.map_map]
    refine List.map_congr_left fun x hx => ?_
    show (DataW.slice (pickR (bCols b ++ bCols a) (bCols a ++ bCols b) (elemsD y ++ elemsD x)) [] : D) = .slice (elemsD x ++ elemsD y) []
    rw [pick_swap (cols_nodup a1) (cols_nodup b1) h3 (a3 x hx).1 (b3 y hy).1]
  rw [e]
  exact flat_swap crossRow (bRows b) (bRows a)
where
  flatMap_congr' {α β : Type} {f g : α → List β} : ∀ {l : List α}, (∀ x ∈ l, f x = g x) → l.flatMap f = l.flatMap g
  | [], _ => rfl
  | x :: l, h => by
    rw [List.flatMap_cons, List.flatMap_cons, h x (List.mem_cons_self ..), flatMap_congr' fun y hy => h y (List.mem_cons_of_mem _ hy)]
theorem thrice {a b c : D} (h : crossOK a b = true) (hp : (bRows a).length * (bRows b).length * (bRows c).length ≤ 5000) (hq : crossOK b c = true) : crossOK (crossBag a b) c = crossOK a (crossBag b c) := by
  obtain ⟨h1, h2, h3, h4⟩ := cross_ok h
  obtain ⟨_, k2, k3, k4⟩ := cross_ok hq
  have hp2 : (bRows a).length * ((bRows b).length * (bRows c).length) ≤ 5000 := by rw [← Nat.mul_assoc]; exact hp
  unfold crossOK
  rw [cross_may h, cross_may hq, h1, k2, cross_cols h, cross_cols hq, cross_rows h, cross_rows hq, crossRows_len, crossRows_len, meet_left, meet_right, h3, k3, decide_eq_true hp, decide_eq_true hp2]
  cases meetB (bCols a) (bCols c) <;> rfl
theorem thrice_no {a b c : D} (h : crossOK a b = true) (hp : (bRows b).length * (bRows c).length ≤ 5000) (hq : crossOK b c = false) : crossOK (crossBag a b) c = false := by
  obtain ⟨h1, h2, h3, h4⟩ := cross_ok h
  unfold crossOK at hq ⊢
  rw [h2, decide_eq_true hp] at hq
  rw [cross_cols h, meet_left]
  cases q1 : mayBagB c with
  | false => simp
  | true =>
    rw [q1] at hq
    have : meetB (bCols b) (bCols c) = true := by simpa using hq
    rw [this]
    simp
theorem thrice_like {a b c : D} (h : crossOK a b = true) (hq : crossOK b c = true) (h1 : crossOK (crossBag a b) c = true) (h2 : crossOK a (crossBag b c) = true) : likeB (crossBag (crossBag a b) c) (crossBag a (crossBag b c)) = true := by
  have e : crossBag (crossBag a b) c = crossBag a (crossBag b c) := by
    rw [cross_eq h1, cross_eq h2, cross_cols h, cross_cols hq, cross_rows h, cross_rows hq, List.append_assoc, crossRows_assoc]
  rw [e]
  exact like_refl _
end Go.Ev
