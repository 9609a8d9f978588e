/- Rows in groups. Nothing here is trusted. -/
import Derived.Test.YtjofcicaoofijaaVR
namespace Go.Ev
set_option linter.unusedVariables false
set_option linter.unusedSimpArgs false

theorem idxFrom_lt (x : Int) : ∀ (zs : List Int) (i : Nat), Lib.idxFrom zs x i < ((i + zs.length : Nat) : Int)
  | [], i => by simp [Lib.idxFrom]; omega
  | z :: zs, i => by
    have ih := idxFrom_lt x zs (i + 1)
    simp only [Lib.idxFrom, List.length_cons]
    split
    · omega
    · omega
theorem place_in {cols : List D} {c : Int} (h : hasB cols c = true) : 0 ≤ placeI cols c ∧ placeI cols c < (cols.length : Int) := by
  constructor
  · have := Lib.idxOf_nonneg_iff (cols.map intD) c
    unfold placeI
    rw [this]
    exact h
  · have := idxFrom_lt c (cols.map intD) 0
    rw [List.length_map] at this
    unfold placeI Lib.idxOf
    omega
theorem nodupI_iff : ∀ {l : List Int}, nodupI l = true → l.Nodup
  | [], _ => List.nodup_nil
  | x :: l, h => by
    simp only [nodupI, Bool.and_eq_true, Bool.not_eq_true', List.contains_eq_mem, decide_eq_false_iff_not] at h
    exact List.nodup_cons.2 ⟨h.1, nodupI_iff h.2⟩
theorem few_of_nodup : ∀ (m : Nat) (l : List Int), l.Nodup → (∀ c ∈ l, 0 ≤ c ∧ c < (m : Int)) → l.length ≤ m
  | 0, l, _, h => by
    cases l with
    | nil => simp
    | cons x l => have := h x (by simp); omega
  | m + 1, l, hn, h => by
    by_cases hm : (m : Int) ∈ l
    · have h1 := List.length_erase_of_mem hm
      have h2 := few_of_nodup m (l.erase (m : Int)) (hn.erase _) (fun c hc => by
        have := (hn.mem_erase_iff).1 hc
        have := h c this.2
        omega)
      omega
    · have h2 := few_of_nodup m l hn (fun c hc => by
        have h3 := h c hc
        have : c ≠ (m : Int) := fun e => hm (e ▸ hc)
        omega)
      omega
theorem cols_few {l : List D} (h : colsMayB l = true) : l.length ≤ 16 := by
  simp only [colsMayB, Bool.and_eq_true, List.all_eq_true, decide_eq_true_eq] at h
  have := few_of_nodup 16 (l.map intD) (nodupI_iff h.2) (fun c hc => by have := h.1 c hc; omega)
  simpa using this
/-- What a bag that may be gives. -/
structure MayBag (cs rs : List D) : Prop where
  c : cs.length ≤ 16
  n : rs.length ≤ 5000
  l : ∀ r ∈ rs, (elemsD r).length = cs.length
  m : ∀ r ∈ rs, ∀ v ∈ elemsD r, mayB v = true
theorem may_bag {cs rs : List D} (h : mayBagB (bagD cs rs) = true) : MayBag cs rs := by
  simp only [mayBagB, rowsMayB, Bool.and_eq_true, decide_eq_true_eq, List.all_eq_true, beq_iff_eq] at h
  obtain ⟨⟨h1, h2⟩, h3⟩ := h
  exact ⟨cols_few h1, h2, fun r hr => (h3 r hr).1, fun r hr => (h3 r hr).2⟩
theorem may_sort {cs rs : List D} (h : MayBag cs rs) : sortOK (bagD cs rs) = true := by
  simp only [sortOK, Bool.and_eq_true, decide_eq_true_eq, List.all_eq_true]
  have h1 := h.c
  have h2 := h.n
  refine ⟨⟨?_, ?_⟩, fun r hr => ?_⟩
  · show rs.length ≤ _; omega
  · show cs.length ≤ _; omega
  · have := h.l r hr; omega
theorem alike_pos (rows : List D) (p : Int) : 0 < alikeN rows p := by unfold alikeN; omega
theorem alike_le {rows : List D} (p : Int) (h : 0 < rows.length) : alikeN rows p ≤ rows.length := by
  unfold alikeN
  have := (List.takeWhile_sublist (fun r => rankEq (rankD (elemsD r) p) (rankD (elemsD (rows.getD 0 .nil)) p)) (l := rows.drop 1)).length_le
  rw [List.length_drop] at this
  omega
theorem sum_ok {cs rs : List D} {c : Int} {sums : List D} (hb : hasB cs c = true) (hs : hasAllB cs sums = true) (h4 : sums.length ≤ 4) (h0 : 0 < rs.length) (h : MayBag cs rs) : sumOK (bagD cs rs) (placeI cs c) sums = true := by
  have h2 := h.n
  have key : ∀ d, hasB cs d = true → colOK (bRows (bagD cs rs)) (placeI cs d) = true := by
    intro d hd
    obtain ⟨a, b⟩ := place_in hd
    simp only [colOK, Bool.and_eq_true, decide_eq_true_eq, List.all_eq_true]
    refine ⟨⟨a, ?_⟩, fun r hr => ?_⟩
    · show rs.length ≤ _; omega
    · have := h.l r hr; omega
  simp only [sumOK, Bool.and_eq_true, decide_eq_true_eq, List.all_eq_true]
  refine ⟨⟨⟨h0, by omega⟩, key c hb⟩, fun d hd => key _ ?_⟩
  simp only [hasAllB, List.all_eq_true] at hs
  exact hs _ (List.mem_map_of_mem hd)

/-! ### Pieces of alike rows -/
def chunks (p : Int) : Nat → List D → List (List D)
  | 0, _ => []
  | _ + 1, [] => []
  | k + 1, r :: rows => (r :: rows).take (alikeN (r :: rows) p) :: chunks p k ((r :: rows).drop (alikeN (r :: rows) p))
def grow (cols : List D) (p : Int) (sums : List D) (ch : List D) : D := .slice (summedL (bagD cols ch) p sums) []
theorem grp_chunks (cols : List D) (p : Int) (sums : List D) : ∀ (k : Nat) (rows : List D), grpK cols p sums k rows = (chunks p k rows).map (grow cols p sums)
  | 0, _ => rfl
  | _ + 1, [] => rfl
  | k + 1, r :: rows => by
    rw [grpK, chunks, List.map_cons, grp_chunks cols p sums k]
    · rfl
    · simp
theorem grp_fuel (cols : List D) (p : Int) (sums : List D) : ∀ (k j : Nat) (rows : List D), rows.length ≤ k → rows.length ≤ j → grpK cols p sums k rows = grpK cols p sums j rows
  | 0, 0, rows, _, _ => rfl
  | 0, j + 1, rows, h, _ => by
    obtain rfl : rows = [] := List.length_eq_zero_iff.1 (by omega)
    rfl
  | k + 1, 0, rows, _, h => by
    obtain rfl : rows = [] := List.length_eq_zero_iff.1 (by omega)
    rfl
  | k + 1, j + 1, [], _, _ => rfl
  | k + 1, j + 1, r :: rows, h1, h2 => by
    have hp := alike_pos (r :: rows) p
    have ih := grp_fuel cols p sums k j ((r :: rows).drop (alikeN (r :: rows) p)) (by rw [List.length_drop]; omega) (by rw [List.length_drop]; omega)
    rw [grpK, grpK, ih]
    · simp
    · simp
theorem chunks_flat (p : Int) : ∀ (k : Nat) (rows : List D), rows.length ≤ k → (chunks p k rows).flatten = rows
  | 0, rows, h => by
    obtain rfl : rows = [] := List.length_eq_zero_iff.1 (by omega)
    rfl
  | _ + 1, [], _ => rfl
  | k + 1, r :: rows, h => by
    have hp := alike_pos (r :: rows) p
    rw [chunks, List.flatten_cons, chunks_flat p k _ (by rw [List.length_drop]; omega), List.take_append_drop]
theorem chunks_ne (p : Int) : ∀ (k : Nat) (rows : List D), ∀ ch ∈ chunks p k rows, 0 < ch.length
  | 0, _, ch, h => by simp [chunks] at h
  | _ + 1, [], ch, h => by simp [chunks] at h
  | k + 1, r :: rows, ch, h => by
    rw [chunks] at h
    rcases List.mem_cons.1 h with rfl | h
    · have hp := alike_pos (r :: rows) p
      have := alike_le p (rows := r :: rows) (by simp)
      rw [List.length_take]; omega
    · exact chunks_ne p k _ ch h
theorem drop_while (P : D → Bool) : ∀ l : List D, l.drop (l.takeWhile P).length = [] ∨ ∃ x t, l.drop (l.takeWhile P).length = x :: t ∧ P x = false
  | [] => .inl rfl
  | x :: l => by
    cases hx : P x with
    | true => simp only [List.takeWhile_cons, hx, if_true, List.length_cons, List.drop_succ_cons]; exact drop_while P l
    | false => right; exact ⟨x, l, by simp [List.takeWhile_cons, hx], hx⟩
def hd (ch : List D) : D := ch.getD 0 .nil
theorem hd_take {rows : List D} {n : Nat} (h : 0 < n) : hd (rows.take n) = hd rows := by
  cases rows with
  | nil => simp [hd]
  | cons r rows =>
    cases n with
    | zero => omega
    | succ n => rfl
theorem chunks_head (p : Int) {k : Nat} {rows : List D} {ch : List D} {l : List (List D)} (h : chunks p k rows = ch :: l) : hd ch = hd rows := by
  cases k with
  | zero => simp [chunks] at h
  | succ k =>
    cases rows with
    | nil => simp [chunks] at h
    | cons r rows =>
      rw [chunks] at h
      obtain ⟨rfl, _⟩ := List.cons.inj h
      exact hd_take (alike_pos _ _)
theorem chunks_diff (p : Int) : ∀ (k : Nat) (rows : List D) (i : Nat), i + 1 < (chunks p k rows).length → rankEq (rankD (elemsD (hd ((chunks p k rows).getD (i + 1) []))) p) (rankD (elemsD (hd ((chunks p k rows).getD i []))) p) = false
  | 0, _, i, h => by simp [chunks] at h
  | _ + 1, [], i, h => by simp [chunks] at h
  | k + 1, r :: rows, 0, h => by
    rw [chunks] at h ⊢
    have h0 : ((List.take (alikeN (r :: rows) p) (r :: rows) :: chunks p k (List.drop (alikeN (r :: rows) p) (r :: rows))).getD 0 []) = List.take (alikeN (r :: rows) p) (r :: rows) := rfl
    have h1 : ((List.take (alikeN (r :: rows) p) (r :: rows) :: chunks p k (List.drop (alikeN (r :: rows) p) (r :: rows))).getD (0 + 1) []) = (chunks p k (List.drop (alikeN (r :: rows) p) (r :: rows))).getD 0 [] := rfl
    rw [h0, h1, hd_take (alike_pos _ _)]
    cases hc : chunks p k (List.drop (alikeN (r :: rows) p) (r :: rows)) with
    | nil => rw [hc] at h; simp at h
    | cons ch l =>
      have e1 : (ch :: l).getD 0 [] = ch := rfl
      rw [e1, chunks_head p hc]
      have e2 : List.drop (alikeN (r :: rows) p) (r :: rows) = rows.drop (rows.takeWhile fun x => rankEq (rankD (elemsD x) p) (rankD (elemsD r) p)).length := by
        unfold alikeN
        rw [Nat.add_comm, List.drop_succ_cons]
        rfl
      rw [e2] at hc ⊢
      rcases drop_while (fun x => rankEq (rankD (elemsD x) p) (rankD (elemsD r) p)) rows with he | ⟨x, t, he, hx⟩
      · rw [he] at hc
        cases k <;> simp [chunks] at hc
      · rw [he]
        exact hx
  | k + 1, r :: rows, i + 1, h => by
    rw [chunks] at h ⊢
    have := chunks_diff p k ((r :: rows).drop (alikeN (r :: rows) p)) i (by simpa using h)
    exact this

/-! ### The rows told -/
theorem perm_may (p : Int) (cs rs : List D) : mayBagB (bagD cs (sortRows p rs)) = mayBagB (bagD cs rs) := by
  have h1 : (bRows (bagD cs (sortRows p rs))).length = (bRows (bagD cs rs)).length := sortK_len rs
  have h2 : rowsMayB (bagD cs (sortRows p rs)) = rowsMayB (bagD cs rs) := by
    rw [Bool.eq_iff_iff]
    simp only [rowsMayB, List.all_eq_true]
    constructor
    · intro h r hr; exact h r (mem_sortK.2 hr)
    · intro h r hr; exact h r (mem_sortK.1 hr)
  unfold mayBagB
  rw [h1, h2]
  rfl
theorem sort_same_ok (b : D) (c : Int) (sums : List D) {cs rs : List D} (hb : b = bagD cs rs) : groupOK (sortBag b c) c sums = groupOK b c sums := by
  subst hb
  have h : mayBagB (sortBag (bagD cs rs) c) = mayBagB (bagD cs rs) := perm_may _ cs rs
  unfold groupOK
  rw [h]
  rfl
theorem sort_same (b : D) (c : Int) (sums : List D) {cs rs : List D} (hb : b = bagD cs rs) : groupBag (sortBag b c) c sums = groupBag b c sums := by
  have h := sort_same_ok b c sums hb
  subst hb
  unfold groupBag
  rw [h]
  have h1 : sortRows (placeI cs c) (sortRows (placeI cs c) rs) = sortRows (placeI cs c) rs := sortK_of_srt (sortK_srt rs)
  have h2 : (sortRows (placeI cs c) rs).length = rs.length := sortK_len rs
  have h3 : grpK (bCols (sortBag (bagD cs rs) c)) (placeI (bCols (sortBag (bagD cs rs) c)) c) sums (bRows (sortBag (bagD cs rs) c)).length (sortRows (placeI (bCols (sortBag (bagD cs rs) c)) c) (bRows (sortBag (bagD cs rs) c))) =
      grpK cs (placeI cs c) sums rs.length (sortRows (placeI cs c) rs) := by
    show grpK cs (placeI cs c) sums (sortRows (placeI cs c) rs).length (sortRows (placeI cs c) (sortRows (placeI cs c) rs)) = _
    rw [h1, h2]
  rw [h3]
  rfl
theorem like_refl (b : D) : likeB b b = true := by
  unfold likeB intsB
  simp
section
variable {cs rs sums : List D} {c : Int} (hm : MayBag cs rs) (hb : hasB cs c = true)
def cks (cs rs : List D) (c : Int) : List (List D) := chunks (placeI cs c) rs.length (sortRows (placeI cs c) rs)
theorem groups_eq (hok : groupOK (bagD cs rs) c sums = true) : groupBag (bagD cs rs) c sums = bagD (groupColsL c (sums.length : Int)) ((cks cs rs c).map (grow cs (placeI cs c) sums)) := by
  unfold groupBag
  rw [hok, cond_true, grp_chunks]
  rfl
theorem cks_flat : (cks cs rs c).flatten = sortRows (placeI cs c) rs := chunks_flat _ _ _ (by unfold sortRows; rw [sortK_len]; omega)
theorem cks_ne : ∀ ch ∈ cks cs rs c, 0 < ch.length := chunks_ne _ _ _
theorem cks_sum : ((cks cs rs c).map List.length).sum = rs.length := by
  rw [← List.length_flatten, cks_flat]
  exact sortK_len rs
theorem hd_mem {ch : List D} (h : 0 < ch.length) : hd ch ∈ ch := by
  unfold hd
  rw [l_get h]
  exact List.getElem_mem h
theorem cks_mem {ch : List D} (h : ch ∈ cks cs rs c) : hd ch ∈ rs := by
  have h1 : hd ch ∈ (cks cs rs c).flatten := List.mem_flatten.2 ⟨ch, h, hd_mem (cks_ne ch h)⟩
  rw [cks_flat] at h1
  exact mem_sortK.1 h1
include hm hb
theorem grow_rank {ch : List D} (h : ch ∈ cks cs rs c) : rankD (elemsD (grow cs (placeI cs c) sums ch)) 0 = rankD (elemsD (hd ch)) (placeI cs c) := by
  obtain ⟨a, b⟩ := place_in hb
  have hl := hm.l _ (cks_mem h)
  unfold rankD
  have e1 : (decide ((0 : Int) < 0) || decide ((0 : Int) ≥ ((elemsD (grow cs (placeI cs c) sums ch)).length : Int))) = false := by
    have : (elemsD (grow cs (placeI cs c) sums ch)).length = sums.length + 2 := by simp [grow, elemsD, summedL]
    rw [this, Bool.or_eq_false_iff, decide_eq_false_iff_not, decide_eq_false_iff_not]; omega
  have e2 : (decide (placeI cs c < 0) || decide (placeI cs c ≥ ((elemsD (hd ch)).length : Int))) = false := by
    rw [hl, Bool.or_eq_false_iff, decide_eq_false_iff_not, decide_eq_false_iff_not]; omega
  have e3 : (elemsD (grow cs (placeI cs c) sums ch)).getD (0 : Int).toNat .nil = (elemsD (hd ch)).getD (placeI cs c).toNat .nil := rfl
  rw [e1, e2, e3]
theorem groups_srt : Srt (keyAt 0) ((cks cs rs c).map (grow cs (placeI cs c) sums)) := by
  have h1 : Srt (keyAt (placeI cs c)) (cks cs rs c).flatten := by rw [cks_flat]; exact sortK_srt rs
  have h2 := (List.pairwise_flatten.1 h1).2
  unfold Srt
  rw [List.pairwise_map]
  refine List.Pairwise.imp_of_mem (fun {x y} hx hy h => ?_) h2
  have := h _ (hd_mem (cks_ne x hx)) _ (hd_mem (cks_ne y hy))
  unfold keyAt at this ⊢
  rw [grow_rank hm hb hx, grow_rank hm hb hy]
  exact this
theorem groups_sorted (hok : groupOK (bagD cs rs) c sums = true) : sortedB (groupBag (bagD cs rs) c sums) c = true := by
  rw [groups_eq hok]
  have hp : placeI (groupColsL c (sums.length : Int)) c = 0 := by
    unfold placeI groupColsL Lib.idxOf
    simp [Lib.idxFrom, litI, intD]
  show adjB (placeI (groupColsL c (sums.length : Int)) c) ((cks cs rs c).map (grow cs (placeI cs c) sums)) = true
  rw [hp]
  exact (adj_srt 0).2 (groups_srt hm hb)
/-- Two neighbours are not of one value. -/
theorem groups_diff {i : Nat} (h : i + 1 < (cks cs rs c).length) :
    ((kk ((elemsD (grow cs (placeI cs c) sums ((cks cs rs c).getD (i + 1) []))).getD 0 .nil) == kk ((elemsD (grow cs (placeI cs c) sums ((cks cs rs c).getD i []))).getD 0 .nil)) &&
      ((nn ((elemsD (grow cs (placeI cs c) sums ((cks cs rs c).getD (i + 1) []))).getD 0 .nil) == nn ((elemsD (grow cs (placeI cs c) sums ((cks cs rs c).getD i []))).getD 0 .nil)) && true)) = false := by
  have h1 := chunks_diff (placeI cs c) rs.length (sortRows (placeI cs c) rs) i h
  have key : ∀ ch ∈ cks cs rs c, rankD (elemsD (hd ch)) (placeI cs c) = .agg [litI (kk ((elemsD (grow cs (placeI cs c) sums ch)).getD 0 .nil)), litI (nn ((elemsD (grow cs (placeI cs c) sums ch)).getD 0 .nil))] := by
    intro ch hch
    obtain ⟨a, b⟩ := place_in hb
    have hl := hm.l _ (cks_mem hch)
    have e2 : (decide (placeI cs c < 0) || decide (placeI cs c ≥ ((elemsD (hd ch)).length : Int))) = false := by
      rw [hl, Bool.or_eq_false_iff, decide_eq_false_iff_not, decide_eq_false_iff_not]; omega
    have e4 : mayB ((elemsD (hd ch)).getD (placeI cs c).toNat .nil) = true := by
      rw [l_get (by omega)]
      exact hm.m _ (cks_mem hch) _ (List.getElem_mem _)
    unfold rankD
    rw [e2, e4]
    rfl
  have m1 : (cks cs rs c).getD (i + 1) [] ∈ cks cs rs c := by
    have : (cks cs rs c).getD (i + 1) [] = (cks cs rs c)[i + 1] := by simp [List.getD, h]
    rw [this]; exact List.getElem_mem _
  have m2 : (cks cs rs c).getD i [] ∈ cks cs rs c := by
    have hi : i < (cks cs rs c).length := by omega
    have : (cks cs rs c).getD i [] = (cks cs rs c)[i] := by simp [List.getD, hi]
    rw [this]; exact List.getElem_mem _
  have h2 : rankEq (rankD (elemsD (hd ((cks cs rs c).getD (i + 1) []))) (placeI cs c)) (rankD (elemsD (hd ((cks cs rs c).getD i []))) (placeI cs c)) = false := h1
  rw [key _ m1, key _ m2] at h2
  exact h2
end
end Go.Ev
