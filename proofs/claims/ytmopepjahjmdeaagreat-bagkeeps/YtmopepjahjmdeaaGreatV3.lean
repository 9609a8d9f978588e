/- Rows kept, and columns picked, in plain data. Nothing here is trusted. -/
import Derived.Test.YtmopepjahjmdeaaGreatV2
import Derived.Test.YtmopepjahjmdeaaGreatVX
namespace Go.Ev
set_option linter.unusedVariables false

def pickedL (row ps : List D) : List D := ps.map fun q => row.getD (intD q).toNat .nil
def pickedOK (row ps : List D) : Bool := decide (ps.length ≤ 2147483648) && ps.all fun q => decide (0 ≤ intD q) && decide (intD q < (row.length : Int))
def pickOK (b : D) (cols : List D) : Bool := mayBagB b && colsMayB cols && hasAllB (bCols b) cols
def pickPs (b : D) (cols : List D) : List D := cols.map fun c => litI (placeI (bCols b) (intD c))
def pickBag (b : D) (cols : List D) : D := bif pickOK b cols then bagD cols ((bRows b).map fun r => .slice (pickedL (elemsD r) (pickPs b cols)) []) else bagD [] []
def fewE (e : D) (n : Int) : Bool := decide (sizeK 1001 e n ≤ n)
def lightB (es : List D) : Bool := decide (es.length ≤ 4) && es.all fun e => fewE e 60
def allKeepB (es cols row : List D) : Bool := es.all fun e => keepsE e cols row
def keepRows (es cols rows : List D) : List D := rows.filter fun r => allKeepB es cols (elemsD r)
def keepBag (b : D) (es : List D) : D := bagD (bCols b) (keepRows es (bCols b) (bRows b))
end Go.Ev

namespace Go.Ev
set_option linter.unusedVariables false
set_option linter.unusedSimpArgs false

theorem idxFrom_at (x : Int) : ∀ (zs : List Int) (i : Nat), zs.contains x = true → (i : Int) ≤ Lib.idxFrom zs x i ∧ zs.getD ((Lib.idxFrom zs x i).toNat - i) 0 = x
  | [], i, h => by simp at h
  | z :: zs, i, h => by
    rw [Lib.idxFrom]
    by_cases hz : z = x
    · rw [if_pos hz]
      exact ⟨Int.le_refl _, by simp [hz]⟩
    · rw [if_neg hz]
      have h' : zs.contains x = true := by
        rw [List.contains_cons, Bool.or_eq_true] at h
        rcases h with h | h
        · rw [beq_iff_eq] at h; exact absurd h.symm hz
        · exact h
      obtain ⟨a, b⟩ := idxFrom_at x zs (i + 1) h'
      refine ⟨by omega, ?_⟩
      have e : (Lib.idxFrom zs x (i + 1)).toNat - i = ((Lib.idxFrom zs x (i + 1)).toNat - (i + 1)) + 1 := by omega
      rw [e, List.getD_cons_succ]
      exact b
theorem getD_mapI (cols : List D) (k : Nat) : (cols.map intD).getD k 0 = intD (cols.getD k .nil) := by
  by_cases h : k < cols.length
  · simp [List.getD, h]
  · simp [List.getD, h, intD]
/-- At its place a column is. -/
theorem place_at {cols : List D} {c : Int} (h : hasB cols c = true) : intD (cols.getD (placeI cols c).toNat .nil) = c := by
  obtain ⟨_, b⟩ := idxFrom_at c (cols.map intD) 0 h
  rw [← getD_mapI]
  exact b
theorem place_has {cols : List D} {c : Int} (h : 0 ≤ placeI cols c) : hasB cols c = true := by
  have := Lib.idxOf_nonneg_iff (cols.map intD) c
  unfold placeI at h
  rw [this] at h
  exact h

def pickR (cs cols row : List D) : List D := cols.map fun c => row.getD (placeI cs (intD c)).toNat .nil
theorem picked_eq (b : D) (cols row : List D) : pickedL row (pickPs b cols) = pickR (bCols b) cols row := by
  unfold pickedL pickPs pickR
  rw [List.map_map]
  rfl
theorem pickBag_eq {b : D} {cols : List D} (h : pickOK b cols = true) : pickBag b cols = bagD cols ((bRows b).map fun r => .slice (pickR (bCols b) cols (elemsD r)) []) := by
  unfold pickBag
  rw [h, cond_true]
  simp only [picked_eq]
theorem pickR_len (cs cols row : List D) : (pickR cs cols row).length = cols.length := by unfold pickR; simp
theorem pickR_at {cs cols row : List D} {c : Int} (h : hasB cols c = true) : (pickR cs cols row).getD (placeI cols c).toNat .nil = row.getD (placeI cs c).toNat .nil := by
  obtain ⟨a, b⟩ := place_in h
  have hk : (placeI cols c).toNat < cols.length := by omega
  have e := place_at h
  rw [l_get hk] at e
  rw [l_get (by rw [pickR_len]; exact hk)]
  have e3 : (pickR cs cols row)[(placeI cols c).toNat]'(by rw [pickR_len]; exact hk) = row.getD (placeI cs (intD cols[(placeI cols c).toNat])).toNat .nil := List.getElem_map (fun c => row.getD (placeI cs (intD c)).toNat .nil)
  rw [e3, e]
theorem hasAll_mem {all l : List D} (h : hasAllB all l = true) {c : D} (hc : c ∈ l) : hasB all (intD c) = true := by
  simp only [hasAllB, List.all_eq_true] at h
  exact h _ (List.mem_map_of_mem hc)
theorem hasAll_of {all l : List D} (h : ∀ c ∈ l, hasB all (intD c) = true) : hasAllB all l = true := by
  simp only [hasAllB, List.all_eq_true, List.mem_map]
  rintro z ⟨c, hc, rfl⟩
  exact h c hc
theorem hasB_mem {l : List D} {c : D} (h : c ∈ l) : hasB l (intD c) = true := by
  unfold hasB
  rw [List.contains_eq_mem, decide_eq_true_eq]
  exact List.mem_map_of_mem h
theorem hasB_ex {l : List D} {z : Int} (h : hasB l z = true) : ∃ c ∈ l, intD c = z := by
  unfold hasB at h
  rw [List.contains_eq_mem, decide_eq_true_eq, List.mem_map] at h
  exact h
theorem hasAll_trans {a b c : List D} (h1 : hasAllB a b = true) (h2 : hasAllB b c = true) : hasAllB a c = true := by
  refine hasAll_of fun x hx => ?_
  obtain ⟨y, hy, e⟩ := hasB_ex (hasAll_mem h2 hx)
  rw [← e]
  exact hasAll_mem h1 hy
theorem pickR_pickR {cs cols fewer row : List D} (h : hasAllB cols fewer = true) : pickR cols fewer (pickR cs cols row) = pickR cs fewer row := by
  show fewer.map _ = fewer.map _
  exact List.map_congr_left fun c hc => pickR_at (hasAll_mem h hc)
theorem pickOK_iff {b : D} {cols : List D} : pickOK b cols = true ↔ mayBagB b = true ∧ colsMayB cols = true ∧ hasAllB (bCols b) cols = true := by
  unfold pickOK
  rw [Bool.and_eq_true, Bool.and_eq_true, and_assoc]
theorem pick_twice {b : D} {cols fewer : List D} (h1 : pickOK b cols = true) (h2 : pickOK (pickBag b cols) fewer = true) :
    pickOK b fewer = true ∧ pickBag (pickBag b cols) fewer = pickBag b fewer := by
  have hc : bCols (pickBag b cols) = cols := by rw [pickBag_eq h1]; rfl
  have hr : bRows (pickBag b cols) = (bRows b).map fun r => .slice (pickR (bCols b) cols (elemsD r)) [] := by rw [pickBag_eq h1]; rfl
  obtain ⟨a1, a2, a3⟩ := pickOK_iff.1 h1
  obtain ⟨b1, b2, b3⟩ := pickOK_iff.1 h2
  rw [hc] at b3
  have h3 : pickOK b fewer = true := pickOK_iff.2 ⟨a1, b2, hasAll_trans a3 b3⟩
  refine ⟨h3, ?_⟩
  rw [pickBag_eq h2, pickBag_eq h3, hc, hr, List.map_map]
  congr 1
  refine List.map_congr_left fun r _ => ?_
  show (DataW.slice (pickR cols fewer (pickR (bCols b) cols (elemsD r))) [] : D) = _
  rw [pickR_pickR b3]
theorem pickR_own {cs row : List D} (hn : (cs.map intD).Nodup) (hl : row.length = cs.length) : pickR cs cs row = row := by
  refine List.ext_getElem (by rw [pickR_len, hl]) fun i h1 h2 => ?_
  have hi : i < cs.length := by omega
  have hb : hasB cs (intD cs[i]) = true := hasB_mem (List.getElem_mem hi)
  obtain ⟨a, b⟩ := place_in hb
  have e := place_at hb
  have hk : (placeI cs (intD cs[i])).toNat < cs.length := by omega
  rw [l_get hk] at e
  have hk2 : (placeI cs (intD cs[i])).toNat = i := by
    rcases Nat.lt_trichotomy (placeI cs (intD cs[i])).toNat i with h | h | h
    · have := (List.pairwise_iff_getElem.1 hn) _ i (by simpa using hk) (by simpa using hi) h
      simp only [List.getElem_map] at this
      exact absurd e this
    · exact h
    · have := (List.pairwise_iff_getElem.1 hn) i _ (by simpa using hi) (by simpa using hk) h
      simp only [List.getElem_map] at this
      exact absurd e.symm this
  have e3 : (pickR cs cs row)[i] = row.getD (placeI cs (intD cs[i])).toNat .nil := List.getElem_map (fun c => row.getD (placeI cs (intD c)).toNat .nil)
  rw [e3, hk2, l_get (by omega)]
theorem mayBag_cols {b : D} (h : mayBagB b = true) : colsMayB (bCols b) = true := by
  unfold mayBagB at h
  rw [Bool.and_eq_true, Bool.and_eq_true] at h
  exact h.1.1
theorem cols_nodup {l : List D} (h : colsMayB l = true) : (l.map intD).Nodup := by
  unfold colsMayB at h
  rw [Bool.and_eq_true] at h
  exact nodupI_iff h.2
theorem pick_own_ok (b : D) : pickOK b (bCols b) = mayBagB b := by
  cases h : mayBagB b with
  | false => unfold pickOK; rw [h]; rfl
  | true => exact pickOK_iff.2 ⟨h, mayBag_cols h, hasAll_of fun c hc => hasB_mem hc⟩
theorem pick_own {cs rs : List D} (h : mayBagB (bagD cs rs) = true) : likeB (pickBag (bagD cs rs) cs) (bagD cs rs) = true := by
  have h1 : pickOK (bagD cs rs) cs = true := (pick_own_ok (bagD cs rs)).trans h
  rw [pickBag_eq h1]
  have hm := may_bag h
  have e : (bRows (bagD cs rs)).map (fun r => (DataW.slice (pickR (bCols (bagD cs rs)) cs (elemsD r)) [] : D)) = rs.map fun r => .slice (elemsD r) [] := by
    show rs.map _ = rs.map _
    refine List.map_congr_left fun r hr => ?_
    show (DataW.slice (pickR cs cs (elemsD r)) [] : D) = _
    rw [pickR_own (cs := cs) (cols_nodup (mayBag_cols h)) (hm.l r hr)]
  rw [e]
  unfold likeB intsB
  show (cs.map intD == cs.map intD && ((rs.map fun r => (DataW.slice (elemsD r) [] : D)).map rowI == rs.map rowI)) = true
  rw [List.map_map]
  have e2 : rs.map (rowI ∘ fun r => (DataW.slice (elemsD r) [] : D)) = rs.map rowI := List.map_congr_left fun r _ => rfl
  rw [e2]
  simp
theorem keep_may {cs rs es : List D} (h : mayBagB (bagD cs rs) = true) : mayBagB (bagD cs (keepRows es cs rs)) = true := by
  unfold mayBagB rowsMayB at h ⊢
  simp only [Bool.and_eq_true, decide_eq_true_eq, List.all_eq_true] at h ⊢
  obtain ⟨⟨h1, h2⟩, h3⟩ := h
  refine ⟨⟨h1, ?_⟩, fun r hr => h3 r ?_⟩
  · exact Nat.le_trans (List.length_filter_le _ _) h2
  · exact (List.mem_filter.1 hr).1
theorem keep_pick {cs rs cols es : List D} (h : pickOK (bagD cs rs) cols = true) (hk : ∀ r ∈ rs, allKeepB es cols (pickR cs cols (elemsD r)) = allKeepB es cs (elemsD r)) :
    pickOK (keepBag (bagD cs rs) es) cols = true ∧ pickBag (keepBag (bagD cs rs) es) cols = keepBag (pickBag (bagD cs rs) cols) es := by
  obtain ⟨a1, a2, a3⟩ := pickOK_iff.1 h
  have h2 : pickOK (keepBag (bagD cs rs) es) cols = true := pickOK_iff.2 ⟨keep_may a1, a2, a3⟩
  refine ⟨h2, ?_⟩
  rw [pickBag_eq h2, pickBag_eq h]
  show bagD cols ((rs.filter _).map _) = bagD cols ((rs.map _).filter _)
  rw [List.filter_map]
  congr 2
  refine List.filter_congr fun r hr => ?_
  exact (hk r hr).symm
theorem sort_pick {cs rs cols : List D} (h : pickOK (bagD cs rs) cols = true) : sortOK (pickBag (bagD cs rs) cols) = true := by
  obtain ⟨a1, a2, a3⟩ := pickOK_iff.1 h
  have hm := may_bag a1
  have hn := hm.n
  have h16 := cols_few a2
  rw [pickBag_eq h]
  simp only [sortOK, Bool.and_eq_true, decide_eq_true_eq, List.all_eq_true]
  refine ⟨⟨?_, ?_⟩, ?_⟩
  · show (rs.map _).length ≤ _
    rw [List.length_map]; omega
  · show cols.length ≤ _
    omega
  · intro r hr
    obtain ⟨q, hq, rfl⟩ := List.mem_map.1 hr
    show (pickR _ cols _).length ≤ _
    rw [pickR_len]; omega
theorem at_pick {cs cols row : List D} {z : Int} (h1 : hasB cs z = true) (h2 : hasB cols z = true) (hl : row.length = cs.length) : atD z cols (pickR cs cols row) = atD z cs row := by
  obtain ⟨a, b⟩ := place_in h1
  obtain ⟨c, d⟩ := place_in h2
  have e := pickR_at (cs := cs) (row := row) h2
  unfold placeI at a b c d e
  unfold atD
  have f1 : decide (Lib.idxOf (cols.map intD) z < 0) = false := by rw [decide_eq_false_iff_not]; omega
  have f2 : decide (Lib.idxOf (cs.map intD) z < 0) = false := by rw [decide_eq_false_iff_not]; omega
  have f3 : decide (Lib.idxOf (cols.map intD) z ≥ ((pickR cs cols row).length : Int)) = false := by rw [decide_eq_false_iff_not, pickR_len]; omega
  have f4 : decide (Lib.idxOf (cs.map intD) z ≥ (row.length : Int)) = false := by rw [decide_eq_false_iff_not]; omega
  rw [f1, f2, f3, f4, e]

end Go.Ev
