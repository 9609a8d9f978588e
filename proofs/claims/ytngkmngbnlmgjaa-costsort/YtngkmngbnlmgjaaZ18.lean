/- Trees of functions, and lemmas. Nothing here is trusted. -/
import Derived.Test.YtngkmngbnlmgjaaZ17
import Derived.Test.YtngkmngbnlmgjaaZ15
namespace Go.Ev
set_option linter.unusedVariables false
set_option linter.unusedSimpArgs false
section
theorem idxFrom_lt (x : Int) : ∀ (zs : List Int) (i : Nat), Lib.idxFrom zs x i < ((i + zs.length : Nat) : Int)
 | [], i => by simp [Lib.idxFrom]; omega
 | z :: zs, i => by
  have ih := idxFrom_lt x zs (i + 1)
  simp only [Lib.idxFrom, List.length_cons]
  split
  ·omega
  ·omega
theorem place_in {cols : List D} {c : Int} (h : hasB cols c = true) : 0 <= placeI cols c /\ placeI cols c < (cols.length : Int) := by
 constructor
 ·have := Lib.idxOf_nonneg_iff (cols.map intD) c
  unfold placeI
  rw [this]
  exact h
 ·have := idxFrom_lt c (cols.map intD) 0
  rw [List.length_map] at this
  unfold placeI Lib.idxOf
  omega
theorem nodupI_iff : ∀ {l : List Int}, nodupI l = true -> l.Nodup
 | [], _ => List.nodup_nil
 | x :: l, h => by
  simp only [nodupI, Bool.and_eq_true, Bool.not_eq_true', List.contains_eq_mem, decide_eq_false_iff_not] at h
  exact List.nodup_cons.2 ⟨h.1, nodupI_iff h.2⟩
theorem few_of_nodup : ∀ (m : Nat) (l : List Int), l.Nodup -> (∀ c ∈ l, 0 <= c /\ c < (m : Int)) -> l.length <= m
 | 0, l, _, h => by
  cases l with
  | nil => simp
  | cons x l => have := h x (by simp); omega
 | m + 1, l, hn, h => by
  by_cases hm : (m : Int) ∈ l
  ·have h1 := List.length_erase_of_mem hm
   have h2 := few_of_nodup m (l.erase (m : Int)) (hn.erase _) (fun c hc => by
    have := (hn.mem_erase_iff).1 hc
    have := h c this.2
    omega)
   omega
  ·have h2 := few_of_nodup m l hn (fun c hc => by
    have h3 := h c hc
    have : c ≠ (m : Int) := fun e => hm (e ▸ hc)
    omega)
   omega
theorem cols_few {l : List D} (h : colsMayB l = true) : l.length <= 16 := by
 simp only [colsMayB, Bool.and_eq_true, List.all_eq_true, decide_eq_true_eq] at h
 have := few_of_nodup 16 (l.map intD) (nodupI_iff h.2) (fun c hc => by have := h.1 c hc; omega)
 simpa using this
/-- What a bag that may be gives. -/
structure MayBag (cs rs : List D) : Prop where
 c : cs.length <= 16
 n : rs.length <= 5000
 l : ∀ r ∈ rs, (elemsD r).length = cs.length
 m : ∀ r ∈ rs, ∀ v ∈ elemsD r, mayB v = true
theorem may_bag {cs rs : List D} (h : mayBagB (bagD cs rs) = true) : MayBag cs rs := by
 simp only [mayBagB, rowsMayB, Bool.and_eq_true, decide_eq_true_eq, List.all_eq_true, beq_iff_eq] at h
 obtain ⟨⟨h1, h2⟩, h3⟩ := h
 exact ⟨cols_few h1, h2, fun r hr => (h3 r hr).1, fun r hr => (h3 r hr).2⟩
theorem may_sort {cs rs : List D} (h : MayBag cs rs) : sortOK (bagD cs rs) = true := by
 simp only [sortOK, Bool.and_eq_true, decide_eq_true_eq, List.all_eq_true]
 have h1 := h.c
 have h2 := h.n
 refine ⟨⟨?_, ?_⟩, fun r hr => ?_⟩
 ·show rs.length <= _; omega
 ·show cs.length <= _; omega
 ·have := h.l r hr; omega
theorem alike_pos (rows : List D) (p : Int) : 0 < alikeN rows p := by unfold alikeN; omega
theorem alike_le {rows : List D} (p : Int) (h : 0 < rows.length) : alikeN rows p <= rows.length := by
 unfold alikeN
 have := (List.takeWhile_sublist (fun r => rankEq (rankD (elemsD r) p) (rankD (elemsD (rows.getD 0 .nil)) p)) (l := rows.drop 1)).length_le
 rw [List.length_drop] at this
 omega
theorem sum_ok {cs rs : List D} {c : Int} {sums : List D} (hb : hasB cs c = true) (hs : hasAllB cs sums = true) (h4 : sums.length <= 4) (h0 : 0 < rs.length) (h : MayBag cs rs) : sumOK (bagD cs rs) (placeI cs c) sums = true := by
 have h2 := h.n
 have key : ∀ d, hasB cs d = true -> colOK (bRows (bagD cs rs)) (placeI cs d) = true := by
  intro d hd
  obtain ⟨a, b⟩ := place_in hd
  simp only [colOK, Bool.and_eq_true, decide_eq_true_eq, List.all_eq_true]
  refine ⟨⟨a, ?_⟩, fun r hr => ?_⟩
  ·show rs.length <= _; omega
  ·have := h.l r hr; omega
 simp only [sumOK, Bool.and_eq_true, decide_eq_true_eq, List.all_eq_true]
 refine ⟨⟨⟨h0, by omega⟩, key c hb⟩, fun d hd => key _ ?_⟩
 simp only [hasAllB, List.all_eq_true] at hs
 exact hs _ (List.mem_map_of_mem hd)

/-! ### Pieces of alike rows -/
def chunks (p : Int) : Nat -> List D -> List (List D)
 | 0, _ => []
 | _ + 1, [] => []
 | k + 1, r :: rows => (r :: rows).take (alikeN (r :: rows) p) :: chunks p k ((r :: rows).drop (alikeN (r :: rows) p))
def grow (cols : List D) (p : Int) (sums : List D) (ch : List D) : D := .slice (summedL (bagD cols ch) p sums) []
theorem grp_chunks (cols : List D) (p : Int) (sums : List D) : ∀ (k : Nat) (rows : List D), grpK cols p sums k rows = (chunks p k rows).map (grow cols p sums)
 | 0, _ => rfl
 | _ + 1, [] => rfl
 | k + 1, r :: rows => by
  rw [grpK, chunks, List.map_cons, grp_chunks cols p sums k]
  ·rfl
  ·simp
theorem grp_fuel (cols : List D) (p : Int) (sums : List D) : ∀ (k j : Nat) (rows : List D), rows.length <= k -> rows.length <= j -> grpK cols p sums k rows = grpK cols p sums j rows
 | 0, 0, rows, _, _ => rfl
 | 0, j + 1, rows, h, _ => by
  obtain rfl : rows = [] := List.length_eq_zero_iff.1 (by omega)
  rfl
 | k + 1, 0, rows, _, h => by
  obtain rfl : rows = [] := List.length_eq_zero_iff.1 (by omega)
  rfl
 | k + 1, j + 1, [], _, _ => rfl
 | k + 1, j + 1, r :: rows, h1, h2 => by
  have hp := alike_pos (r :: rows) p
  have ih := grp_fuel cols p sums k j ((r :: rows).drop (alikeN (r :: rows) p)) (by rw [List.length_drop]; omega) (by rw [List.length_drop]; omega)
  rw [grpK, grpK, ih]
  ·simp
  ·simp
theorem chunks_flat (p : Int) : ∀ (k : Nat) (rows : List D), rows.length <= k -> (chunks p k rows).flatten = rows
 | 0, rows, h => by
  obtain rfl : rows = [] := List.length_eq_zero_iff.1 (by omega)
  rfl
 | _ + 1, [], _ => rfl
 | k + 1, r :: rows, h => by
  have hp := alike_pos (r :: rows) p
  rw [chunks, List.flatten_cons, chunks_flat p k _ (by rw [List.length_drop]; omega), List.take_append_drop]
theorem chunks_ne (p : Int) : ∀ (k : Nat) (rows : List D), ∀ ch ∈ chunks p k rows, 0 < ch.length
 | 0, _, ch, h => by simp [chunks] at h
 | _ + 1, [], ch, h => by simp [chunks] at h
 | k + 1, r :: rows, ch, h => by
  rw [chunks] at h
  rcases List.mem_cons.1 h with rfl | h
  ·have hp := alike_pos (r :: rows) p
   have := alike_le p (rows := r :: rows) (by simp)
   rw [List.length_take]; omega
  ·exact chunks_ne p k _ ch h
theorem drop_while (P : D -> Bool) : ∀ l : List D, l.drop (l.takeWhile P).length = [] \/ ∃ x t, l.drop (l.takeWhile P).length = x :: t /\ P x = false
 | [] => .inl rfl
 | x :: l => by
  cases hx : P x with
  | true => simp only [List.takeWhile_cons, hx, if_true, List.length_cons, List.drop_succ_cons]; exact drop_while P l
  | false => right; exact ⟨x, l, by simp [List.takeWhile_cons, hx], hx⟩
def hd (ch : List D) : D := ch.getD 0 .nil
theorem hd_take {rows : List D} {n : Nat} (h : 0 < n) : hd (rows.take n) = hd rows := by
 cases rows with
 | nil => simp [hd]
 | cons r rows =>
  cases n with
  | zero => omega
  | succ n => rfl
theorem chunks_head (p : Int) {k : Nat} {rows : List D} {ch : List D} {l : List (List D)} (h : chunks p k rows = ch :: l) : hd ch = hd rows := by
 cases k with
 | zero => simp [chunks] at h
 | succ k =>
  cases rows with
  | nil => simp [chunks] at h
  | cons r rows =>
   rw [chunks] at h
   obtain ⟨rfl, _⟩ := List.cons.inj h
   exact hd_take (alike_pos _ _)
theorem chunks_diff (p : Int) : ∀ (k : Nat) (rows : List D) (i : Nat), i + 1 < (chunks p k rows).length -> rankEq (rankD (elemsD (hd ((chunks p k rows).getD (i + 1) []))) p) (rankD (elemsD (hd ((chunks p k rows).getD i []))) p) = false
 | 0, _, i, h => by simp [chunks] at h
 | _ + 1, [], i, h => by simp [chunks] at h
 | k + 1, r :: rows, 0, h => by
  rw [chunks] at h ⊢
  have h0 : ((List.take (alikeN (r :: rows) p) (r :: rows) :: chunks p k (List.drop (alikeN (r :: rows) p) (r :: rows))).getD 0 []) = List.take (alikeN (r :: rows) p) (r :: rows) := rfl
  have h1 : ((List.take (alikeN (r :: rows) p) (r :: rows) :: chunks p k (List.drop (alikeN (r :: rows) p) (r :: rows))).getD (0 + 1) []) = (chunks p k (List.drop (alikeN (r :: rows) p) (r :: rows))).getD 0 [] := rfl
  rw [h0, h1, hd_take (alike_pos _ _)]
  cases hc : chunks p k (List.drop (alikeN (r :: rows) p) (r :: rows)) with
  | nil => rw [hc] at h; simp at h
  | cons ch l =>
   have e1 : (ch :: l).getD 0 [] = ch := rfl
   rw [e1, chunks_head p hc]
   have e2 : List.drop (alikeN (r :: rows) p) (r :: rows) = rows.drop (rows.takeWhile fun x => rankEq (rankD (elemsD x) p) (rankD (elemsD r) p)).length := by
    unfold alikeN
    rw [Nat.add_comm, List.drop_succ_cons]
    rfl
   rw [e2] at hc ⊢
   rcases drop_while (fun x => rankEq (rankD (elemsD x) p) (rankD (elemsD r) p)) rows with he | ⟨x, t, he, hx⟩
   ·rw [he] at hc
    cases k <;> simp [chunks] at hc
   ·rw [he]
    exact hx
 | k + 1, r :: rows, i + 1, h => by
  rw [chunks] at h ⊢
  have := chunks_diff p k ((r :: rows).drop (alikeN (r :: rows) p)) i (by simpa using h)
  exact this

/-! ### The rows told -/
theorem perm_may (p : Int) (cs rs : List D) : mayBagB (bagD cs (sortRows p rs)) = mayBagB (bagD cs rs) := by
 have h1 : (bRows (bagD cs (sortRows p rs))).length = (bRows (bagD cs rs)).length := sortK_len rs
 have h2 : rowsMayB (bagD cs (sortRows p rs)) = rowsMayB (bagD cs rs) := by
  rw [Bool.eq_iff_iff]
  simp only [rowsMayB, List.all_eq_true]
  constructor
  ·intro h r hr; exact h r (mem_sortK.2 hr)
  ·intro h r hr; exact h r (mem_sortK.1 hr)
 unfold mayBagB
 rw [h1, h2]
 rfl
theorem sort_same_ok (b : D) (c : Int) (sums : List D) {cs rs : List D} (hb : b = bagD cs rs) : groupOK (sortBag b c) c sums = groupOK b c sums := by
 subst hb
 have h : mayBagB (sortBag (bagD cs rs) c) = mayBagB (bagD cs rs) := perm_may _ cs rs
 unfold groupOK
 rw [h]
 rfl
theorem sort_same (b : D) (c : Int) (sums : List D) {cs rs : List D} (hb : b = bagD cs rs) : groupBag (sortBag b c) c sums = groupBag b c sums := by
 have h := sort_same_ok b c sums hb
 subst hb
 unfold groupBag
 rw [h]
 have h1 : sortRows (placeI cs c) (sortRows (placeI cs c) rs) = sortRows (placeI cs c) rs := sortK_of_srt (sortK_srt rs)
 have h2 : (sortRows (placeI cs c) rs).length = rs.length := sortK_len rs
 have h3 : grpK (bCols (sortBag (bagD cs rs) c)) (placeI (bCols (sortBag (bagD cs rs) c)) c) sums (bRows (sortBag (bagD cs rs) c)).length (sortRows (placeI (bCols (sortBag (bagD cs rs) c)) c) (bRows (sortBag (bagD cs rs) c))) =
   grpK cs (placeI cs c) sums rs.length (sortRows (placeI cs c) rs) := by
  show grpK cs (placeI cs c) sums (sortRows (placeI cs c) rs).length (sortRows (placeI cs c) (sortRows (placeI cs c) rs)) = _
  rw [h1, h2]
 rw [h3]
 rfl
theorem like_refl (b : D) : likeB b b = true := by
 unfold likeB intsB
 simp
section
variable {cs rs sums : List D} {c : Int} (hm : MayBag cs rs) (hb : hasB cs c = true)
def cks (cs rs : List D) (c : Int) : List (List D) := chunks (placeI cs c) rs.length (sortRows (placeI cs c) rs)
theorem groups_eq (hok : groupOK (bagD cs rs) c sums = true) : groupBag (bagD cs rs) c sums = bagD (groupColsL c (sums.length : Int)) ((cks cs rs c).map (grow cs (placeI cs c) sums)) := by
 unfold groupBag
 rw [hok, cond_true, grp_chunks]
 rfl
theorem cks_flat : (cks cs rs c).flatten = sortRows (placeI cs c) rs := chunks_flat _ _ _ (by unfold sortRows; rw [sortK_len]; omega)
theorem cks_ne : ∀ ch ∈ cks cs rs c, 0 < ch.length := chunks_ne _ _ _
theorem cks_sum : ((cks cs rs c).map List.length).sum = rs.length := by
 rw [<- List.length_flatten, cks_flat]
 exact sortK_len rs
theorem hd_mem {ch : List D} (h : 0 < ch.length) : hd ch ∈ ch := by
 unfold hd
 rw [l_get h]
 exact List.getElem_mem h
theorem cks_mem {ch : List D} (h : ch ∈ cks cs rs c) : hd ch ∈ rs := by
 have h1 : hd ch ∈ (cks cs rs c).flatten := List.mem_flatten.2 ⟨ch, h, hd_mem (cks_ne ch h)⟩
 rw [cks_flat] at h1
 exact mem_sortK.1 h1
include hm hb
theorem grow_rank {ch : List D} (h : ch ∈ cks cs rs c) : rankD (elemsD (grow cs (placeI cs c) sums ch)) 0 = rankD (elemsD (hd ch)) (placeI cs c) := by
 obtain ⟨a, b⟩ := place_in hb
 have hl := hm.l _ (cks_mem h)
 unfold rankD
 have e1 : (decide ((0 : Int) < 0) || decide ((0 : Int) >= ((elemsD (grow cs (placeI cs c) sums ch)).length : Int))) = false := by
  have : (elemsD (grow cs (placeI cs c) sums ch)).length = sums.length + 2 := by simp [grow, elemsD, summedL]
  rw [this, Bool.or_eq_false_iff, decide_eq_false_iff_not, decide_eq_false_iff_not]; omega
 have e2 : (decide (placeI cs c < 0) || decide (placeI cs c >= ((elemsD (hd ch)).length : Int))) = false := by
  rw [hl, Bool.or_eq_false_iff, decide_eq_false_iff_not, decide_eq_false_iff_not]; omega
 have e3 : (elemsD (grow cs (placeI cs c) sums ch)).getD (0 : Int).toNat .nil = (elemsD (hd ch)).getD (placeI cs c).toNat .nil := rfl
 rw [e1, e2, e3]
theorem groups_srt : Srt (keyAt 0) ((cks cs rs c).map (grow cs (placeI cs c) sums)) := by
 have h1 : Srt (keyAt (placeI cs c)) (cks cs rs c).flatten := by rw [cks_flat]; exact sortK_srt rs
 have h2 := (List.pairwise_flatten.1 h1).2
 unfold Srt
 rw [List.pairwise_map]
 refine List.Pairwise.imp_of_mem (fun {x y} hx hy h => ?_) h2
 have := h _ (hd_mem (cks_ne x hx)) _ (hd_mem (cks_ne y hy))
 unfold keyAt at this ⊢
 rw [grow_rank hm hb hx, grow_rank hm hb hy]
 exact this
theorem groups_sorted (hok : groupOK (bagD cs rs) c sums = true) : sortedB (groupBag (bagD cs rs) c sums) c = true := by
 rw [groups_eq hok]
 have hp : placeI (groupColsL c (sums.length : Int)) c = 0 := by
  unfold placeI groupColsL Lib.idxOf
  simp [Lib.idxFrom, litI, intD]
 show adjB (placeI (groupColsL c (sums.length : Int)) c) ((cks cs rs c).map (grow cs (placeI cs c) sums)) = true
 rw [hp]
 exact (adj_srt 0).2 (groups_srt hm hb)
/-- Two neighbours are not of one value. -/
theorem groups_diff {i : Nat} (h : i + 1 < (cks cs rs c).length) :
  ((kk ((elemsD (grow cs (placeI cs c) sums ((cks cs rs c).getD (i + 1) []))).getD 0 .nil) == kk ((elemsD (grow cs (placeI cs c) sums ((cks cs rs c).getD i []))).getD 0 .nil)) &&
    ((nn ((elemsD (grow cs (placeI cs c) sums ((cks cs rs c).getD (i + 1) []))).getD 0 .nil) == nn ((elemsD (grow cs (placeI cs c) sums ((cks cs rs c).getD i []))).getD 0 .nil)) && true)) = false := by
 have h1 := chunks_diff (placeI cs c) rs.length (sortRows (placeI cs c) rs) i h
 have key : ∀ ch ∈ cks cs rs c, rankD (elemsD (hd ch)) (placeI cs c) = .agg [litI (kk ((elemsD (grow cs (placeI cs c) sums ch)).getD 0 .nil)), litI (nn ((elemsD (grow cs (placeI cs c) sums ch)).getD 0 .nil))] := by
  intro ch hch
  obtain ⟨a, b⟩ := place_in hb
  have hl := hm.l _ (cks_mem hch)
  have e2 : (decide (placeI cs c < 0) || decide (placeI cs c >= ((elemsD (hd ch)).length : Int))) = false := by
   rw [hl, Bool.or_eq_false_iff, decide_eq_false_iff_not, decide_eq_false_iff_not]; omega
  have e4 : mayB ((elemsD (hd ch)).getD (placeI cs c).toNat .nil) = true := by
   rw [l_get (by omega)]
   exact hm.m _ (cks_mem hch) _ (List.getElem_mem _)
  unfold rankD
  rw [e2, e4]
  rfl
 have m1 : (cks cs rs c).getD (i + 1) [] ∈ cks cs rs c := by
  have : (cks cs rs c).getD (i + 1) [] = (cks cs rs c)[i + 1] := by simp [List.getD, h]
  rw [this]; exact List.getElem_mem _
 have m2 : (cks cs rs c).getD i [] ∈ cks cs rs c := by
  have hi : i < (cks cs rs c).length := by omega
  have : (cks cs rs c).getD i [] = (cks cs rs c)[i] := by simp [List.getD, hi]
  rw [this]; exact List.getElem_mem _
 have h2 : rankEq (rankD (elemsD (hd ((cks cs rs c).getD (i + 1) []))) (placeI cs c)) (rankD (elemsD (hd ((cks cs rs c).getD i []))) (placeI cs c)) = false := h1
 rw [key _ m1, key _ m2] at h2
 exact h2
end
end
section
/-! ### Types, read -/
section
variable {P : Program}
theorem ty_slice {n : Nat} {t e : TypeId} {x : D} (h : Ty P n t x) (hu : P.underlying t = some (.slice e)) : ∃ m es, x = .slice es [] /\ es.length <= maxLen /\ ∀ y ∈ es, Ty P m e y := by
 cases n with
 | zero => exact h.elim
 | succ n =>
  unfold Ty at h
  rw [hu] at h
  split at h <;> try (exact h.elim)
  all_goals try (simp_all; done)
  rename_i e es sp heq
  cases heq
  obtain ⟨rfl, hl, hp⟩ := h
  exact ⟨n, es, rfl, hl, hp⟩
theorem ty_struct1 {n : Nat} {t : TypeId} {f : Field} {x : D} (h : Ty P n t x) (hu : P.underlying t = some (.struct #[f])) : ∃ m a, x = .agg [a] /\ Ty P m f.type a := by
 cases n with
 | zero => exact h.elim
 | succ n =>
  unfold Ty at h
  rw [hu] at h
  split at h <;> try (exact h.elim)
  all_goals try (simp_all; done)
  rename_i fs ps heq
  cases heq
  obtain ⟨hl, hp⟩ := h
  have h0 := hp 0 f rfl
  match ps, hl, h0 with
  | [a], _, h0 => exact ⟨n, a, rfl, h0⟩
theorem ty_struct2 {n : Nat} {t : TypeId} {f g : Field} {x : D} (h : Ty P n t x) (hu : P.underlying t = some (.struct #[f, g])) : ∃ m a b, x = .agg [a, b] /\ Ty P m f.type a /\ Ty P m g.type b := by
 cases n with
 | zero => exact h.elim
 | succ n =>
  unfold Ty at h
  rw [hu] at h
  split at h <;> try (exact h.elim)
  all_goals try (simp_all; done)
  rename_i fs ps heq
  cases heq
  obtain ⟨hl, hp⟩ := h
  have h0 := hp 0 f rfl
  have h1 := hp 1 g rfl
  match ps, hl, h0, h1 with
  | [a, b], _, h0, h1 => exact ⟨n, a, b, rfl, h0, h1⟩
/-- Whichever structs are held field by field: what is known of functions is the same. -/
theorem envOK_S {env : Env} (h : EnvOK P env) (l : List (Nat × Nat)) : EnvOK P (envS env l) := ⟨h.p, h.h, h.r, h.f, h.g⟩
def f4 (F : D -> D -> D -> D -> Option D) : List D -> Option D | [x, y, z, u] => F x y z u | _ => none
theorem ent4 {f : FuncId} {fn : Func} {t t1 t2 t3 t4 : TypeId} {F : D -> D -> D -> D -> Option D} (hf : FnOK P f fn) (h : ∀ x y z u d, F x y z u = some d -> (∃ n, Ty P n t1 x) -> (∃ n, Ty P n t2 y) -> (∃ n, Ty P n t3 z) -> (∃ n, Ty P n t4 u) ->
   CallOK P f [dat t1 (normD P t1 x), dat t2 (normD P t2 y), dat t3 (normD P t3 z), dat t4 (normD P t4 u)] (mkRes P t d)) :
  ∀ args d, ent [t1, t2, t3, t4] (f4 F) args = some d -> CallOK P f args (mkRes P t d) :=
 ent_ok fun ds d hl hd => match ds, hl, hd with
  | [x, y, z, u], _, hd => CallOK.typed hf.ex (mk_tag t d) fun hty => (h x y z u d hd (hty (dat t1 x) (by simp)) (hty (dat t2 y) (by simp)) (hty (dat t3 z) (by simp)) (hty (dat t4 u) (by simp))).norm
end

/-! ### Small words -/
def emptyL (l : List D) : Bool := l.isEmpty
theorem emptyL_eq {l : List D} (h : emptyL l = true) : l = [] := List.isEmpty_iff.1 h
theorem lt_not (a b : Int) : decide (a < b) = !decide (b <= a) := by by_cases h : b <= a <;> simp [h] <;> omega
theorem gt_not (a b : Int) : decide (a > b) = !decide (a <= b) := by by_cases h : a <= b <;> simp [h] <;> omega
theorem ge_not (a b : Int) : decide (a >= b) = decide (b <= a) := rfl
theorem dT {p : Prop} [Decidable p] (h : p) : decide p = true := decide_eq_true h
theorem dF {p : Prop} [Decidable p] (h : ¬ p) : decide p = false := decide_eq_false h

def belowB (n e : Int) : Bool := decide (0 <= n) && decide (n < e)
theorem below_iff {n e : Int} : belowB n e = true ↔ 0 <= n /\ n < e := by unfold belowB; rw [Bool.and_eq_true, decide_eq_true_eq, decide_eq_true_eq]
theorem below_not {n e : Int} : belowB n e = false ↔ ¬ (0 <= n /\ n < e) := by rw [<- below_iff, Bool.not_eq_true]
def defC (t : D) : Int := intD (fieldD t 0)
def defR (t : D) : Int := intD (fieldD t 1)
def defD (c r : Int) : D := .agg [litI c, litI r]
def mayDef (t : D) : Bool := decide (1 <= defC t) && decide (defC t <= 4) && decide (1 <= defR t) && decide (defR t <= 1000000)
theorem mayDef_iff {t : D} : mayDef t = true ↔ 1 <= defC t /\ defC t <= 4 /\ 1 <= defR t /\ defR t <= 1000000 := by
 unfold mayDef
 simp only [Bool.and_eq_true, decide_eq_true_eq, and_assoc]
def orZeroD (t : D) : D := bif mayDef t then t else defD 0 0
theorem orZero_zero (t : D) : ((intD (fieldD (orZeroD t) 0) == 0) && ((intD (fieldD (orZeroD t) 1) == 0) && true)) = !mayDef t := by
 unfold orZeroD
 cases h : mayDef t with
 | false => rfl
 | true =>
  have := (mayDef_iff.1 h).1
  have e : (intD (fieldD t 0) == 0) = false := by
   rw [beq_eq_false_iff_ne]
   unfold defC at this
   omega
  rw [cond_true, e]
  rfl
/-- What a table is asked, one by one. -/
theorem mayDef_tree {ρ : Type} (t : D) (A B : ρ) :
  (bif ((decide ((intD (fieldD t 0)) < 1)) == false) then
   bif ((decide ((intD (fieldD t 0)) > 4)) == false) then
    bif ((decide ((intD (fieldD t 1)) < 1)) == false) then
     bif decide ((intD (fieldD t 1)) > 1000000) then A else B
    else A
   else A
  else A) = bif !mayDef t then A else B := by
 unfold mayDef defC defR
 rw [lt_not, gt_not, lt_not, gt_not]
 generalize decide (1 <= intD (fieldD t 0)) = a
 generalize decide (intD (fieldD t 0) <= 4) = b
 generalize decide (1 <= intD (fieldD t 1)) = c
 generalize decide (intD (fieldD t 1) <= 1000000) = d
 cases a <;> cases b <;> cases c <;> cases d <;> rfl
def catD (ts : List D) : D := .agg [.slice ts []]
def tabs (c : D) : List D := elemsD (fieldD c 0)
theorem tabs_cat (ts : List D) : elemsD (fieldD (catD ts) 0) = ts := rfl
def mayCat (c : D) : Bool := decide (1 <= (tabs c).length) && decide ((tabs c).length <= 4) && (tabs c).all mayDef
theorem mayCat_iff {c : D} : mayCat c = true ↔ 1 <= (tabs c).length /\ (tabs c).length <= 4 /\ ∀ t ∈ tabs c, mayDef t = true := by
 unfold mayCat
 simp only [Bool.and_eq_true, decide_eq_true_eq, List.all_eq_true, and_assoc]
def catTwo : D := catD [defD 2 100, defD 1 10]
def dataTwo : D := catD [.slice [.slice [vv 0 1, vv 0 2] [], .slice [vv 0 3, vv 0 4] []] [], .slice [.slice [vv 0 4] []] []]
def fewRow (r : D) : Bool := decide (((elemsD r).length : Int) <= 20)
def fewRows (t : D) : Bool := decide (((elemsD t).length : Int) <= 20) && (elemsD t).all fewRow
def fewData (d : D) : Bool := decide (((tabs d).length : Int) <= 10) && (tabs d).all fewRows
def colN (occ col : Int) : Int := bif belowB occ 4 && belowB col 4 then occ * 4 + col else -1
theorem colN_in {a b : Int} (h1 : 0 <= a /\ a < 4) (h2 : 0 <= b /\ b < 4) : colN a b = a * 4 + b := by
 unfold colN
 rw [below_iff.2 h1, below_iff.2 h2]
 rfl
theorem colN_out {a b : Int} (h : ¬ ((0 <= a /\ a < 4) /\ (0 <= b /\ b < 4))) : colN a b = -1 := by
 unfold colN
 have : (belowB a 4 && belowB b 4) = false := by
  rw [<- Bool.not_eq_true, Bool.and_eq_true, below_iff, below_iff]
  exact h
 rw [this]
 rfl
def splitA (id : Int) : Int := bif belowB id 16 then id.tdiv 4 else 0
def splitB (id : Int) : Int := bif belowB id 16 then id.tmod 4 else 0
theorem split_in {z : Int} (h : 0 <= z /\ z < 16) : splitA z = z / 4 /\ splitB z = z % 4 := by
 unfold splitA splitB
 rw [below_iff.2 h, cond_true, cond_true, Int.tdiv_eq_ediv_of_nonneg h.1, Int.tmod_eq_emod_of_nonneg h.1]
 exact ⟨rfl, rfl⟩
theorem split_out {z : Int} (h : ¬ (0 <= z /\ z < 16)) : splitA z = 0 /\ splitB z = 0 := by
 unfold splitA splitB
 rw [below_not.2 h]
 exact ⟨rfl, rfl⟩
def newCat (ts : List D) : D := bif mayCat (catD ts) then catD ts else catD []
def sameCat (a b : D) : Bool := (tabs a).map pairI == (tabs b).map pairI
def keepAll (b : D) : D := bagD (bCols b) (bRows b)
def seenCol (occ : Int) (i : Nat) : D := litI (colN occ (i : Int))
def seenCols (n : Nat) (occ : Int) : List D := (List.range n).map (seenCol occ)
def seenBag (t : D) (rows : List D) (occ : Int) : D := bagD (seenCols (defC t).toNat occ) rows
def fitsRow (t r : D) : Bool := ((elemsD r).length == (defC t).toNat) && (elemsD r).all mayB
def fitsTab (t rows : D) : Bool := decide (((elemsD rows).length : Int) <= 8) && (elemsD rows).all (fitsRow t)
def fitsD (c d : D) : Bool := mayCat c && (((tabs d).length == (tabs c).length) && !(List.range' 0 (tabs c).length).any fun i => !fitsTab ((tabs c).getD i .nil) ((tabs d).getD i .nil))
theorem fits_iff {c d : D} : fitsD c d = true ↔ mayCat c = true /\ (tabs d).length = (tabs c).length /\ ∀ i, i < (tabs c).length -> fitsTab ((tabs c).getD i .nil) ((tabs d).getD i .nil) = true := by
 unfold fitsD
 rw [Bool.and_eq_true, Bool.and_eq_true, beq_iff_eq, Bool.not_eq_true', <- Bool.not_eq_true, List.any_eq_true]
 refine and_congr Iff.rfl (and_congr Iff.rfl ⟨fun h i hi => ?_, fun h ⟨i, hi, hh⟩ => ?_⟩)
 ·cases hf : fitsTab ((tabs c).getD i .nil) ((tabs d).getD i .nil) with
  | true => rfl
  | false => exact absurd ⟨i, by simpa using hi, by rw [hf]; rfl⟩ h
 ·rw [h i (by simpa using hi)] at hh
  cases hh
def ofOK (c d : D) (table occ : Int) : Bool := fitsD c d && (belowB table ((tabs c).length : Int) && belowB occ 4)
def ofBag (c d : D) (table occ : Int) : D := bif ofOK c d table occ then seenBag ((tabs c).getD table.toNat .nil) (elemsD ((tabs d).getD table.toNat .nil)) occ else bagD [] []

theorem seenCols_len (n : Nat) (occ : Int) : (seenCols n occ).length = n := by unfold seenCols; simp
/-- An occurrence's columns may be. -/
theorem seen_cols {n : Nat} {occ : Int} (hn : n <= 4) (h : 0 <= occ /\ occ < 4) : colsMayB (seenCols n occ) = true := by
 have hn' : n = 0 \/ n = 1 \/ n = 2 \/ n = 3 \/ n = 4 := by omega
 have ho : occ = 0 \/ occ = 1 \/ occ = 2 \/ occ = 3 := by omega
 rcases hn' with rfl | rfl | rfl | rfl | rfl <;> rcases ho with rfl | rfl | rfl | rfl <;> decide
/-- Rows that fit a table make a bag that may be, and others none. -/
theorem seen_may {t : D} {rows : List D} {occ : Int} (ht : mayDef t = true) (hr : rows.length <= 8) (h : 0 <= occ /\ occ < 4) : mayBagB (seenBag t rows occ) = rows.all (fitsRow t) := by
 obtain ⟨h1, h2, _, _⟩ := mayDef_iff.1 ht
 unfold mayBagB
 have e1 : colsMayB (bCols (seenBag t rows occ)) = true := seen_cols (by omega) h
 have e2 : decide ((bRows (seenBag t rows occ)).length <= 5000) = true := dT (show rows.length <= 5000 by omega)
 rw [e1, e2, Bool.true_and, Bool.true_and]
 unfold rowsMayB
 show rows.all (fun r => ((elemsD r).length == (seenCols (defC t).toNat occ).length) && (elemsD r).all mayB) = _
 rw [seenCols_len]
 rfl
theorem seen_sort {t : D} {rows : List D} {occ : Int} (ht : mayDef t = true) (hr : fitsTab t (.slice rows []) = true) : sortOK (seenBag t rows occ) = true := by
 obtain ⟨h1, h2, _, _⟩ := mayDef_iff.1 ht
 unfold fitsTab at hr
 rw [Bool.and_eq_true, decide_eq_true_eq, List.all_eq_true] at hr
 obtain ⟨a, b⟩ := hr
 have a : (rows.length : Int) <= 8 := a
 simp only [sortOK, Bool.and_eq_true, decide_eq_true_eq, List.all_eq_true]
 refine ⟨⟨?_, ?_⟩, fun r hm => ?_⟩
 ·show rows.length <= _
  omega
 ·show (seenCols _ _).length <= _
  rw [seenCols_len]
  omega
 ·have := b r hm
  unfold fitsRow at this
  rw [Bool.and_eq_true, beq_iff_eq] at this
  omega
end
def badRow (r : D) : D := .slice ([.agg [.lit (.int .i64 3), .lit (.int .i64 0)]] ++ (((elemsD r).drop ((1 : Int) : Int).toNat).take (((elemsD r).length : Int) - (1 : Int)).toNat)) []
def lessF (q : Int) : List D -> Nat -> List D
 | [], _ => []
 | r :: rs, j => bif (j : Int) == q then lessF q rs (j + 1) else r :: lessF q rs (j + 1)
def badF (q : Int) : List D -> Nat -> List D
 | [], _ => []
 | r :: rs, j => (bif (j : Int) == q then badRow r else r) :: badF q rs (j + 1)
def atRow (i : Nat) (t q : Int) : Int := bif (i : Int) == t then q else -1
def lessT (t q : Int) : List D -> Nat -> List D
 | [], _ => []
 | x :: ts, i => .slice (lessF (atRow i t q) (elemsD x) 0) [] :: lessT t q ts (i + 1)
def badT (t q : Int) : List D -> Nat -> List D
 | [], _ => []
 | x :: ts, i => .slice (badF (atRow i t q) (elemsD x) 0) [] :: badT t q ts (i + 1)
theorem lessF_mem {q : Int} : ∀ {rs : List D} {j : Nat} {r : D}, r ∈ lessF q rs j -> r ∈ rs
 | x :: rs, j, r, h => by
  unfold lessF at h
  cases hq : ((j : Int) == q) with
  | true => rw [hq, cond_true] at h; exact List.mem_cons_of_mem _ (lessF_mem h)
  | false =>
   rw [hq, cond_false] at h
   rcases List.mem_cons.1 h with rfl | h
   ·exact List.mem_cons_self ..
   ·exact List.mem_cons_of_mem _ (lessF_mem h)
theorem lessF_len (q : Int) : ∀ (rs : List D) (j : Nat), (lessF q rs j).length <= rs.length
 | [], j => Nat.le_refl _
 | x :: rs, j => by
  unfold lessF
  have := lessF_len q rs (j + 1)
  cases ((j : Int) == q) with
  | true => rw [cond_true, List.length_cons]; omega
  | false => rw [cond_false, List.length_cons, List.length_cons]; omega
theorem badF_len (q : Int) : ∀ (rs : List D) (j : Nat), (badF q rs j).length = rs.length
 | [], j => rfl
 | x :: rs, j => by
  unfold badF
  rw [List.length_cons, List.length_cons, badF_len q rs (j + 1)]
theorem badF_mem {q : Int} : ∀ {rs : List D} {j : Nat}, (j : Int) <= q -> q < ((j + rs.length : Nat) : Int) -> ∃ r ∈ rs, badRow r ∈ badF q rs j
 | [], j, h1, h2 => by simp at h2; omega
 | x :: rs, j, h1, h2 => by
  unfold badF
  by_cases hq : (j : Int) = q
  ·have : ((j : Int) == q) = true := by simpa using hq
   rw [this, cond_true]
   exact ⟨x, List.mem_cons_self .., List.mem_cons_self ..⟩
  ·obtain ⟨r, hr, hb⟩ := badF_mem (q := q) (rs := rs) (j := j + 1) (by omega) (by simp only [List.length_cons] at h2; omega)
   exact ⟨r, List.mem_cons_of_mem _ hr, List.mem_cons_of_mem _ hb⟩
theorem lessT_len (t q : Int) : ∀ (ts : List D) (i : Nat), (lessT t q ts i).length = ts.length
 | [], i => rfl
 | x :: ts, i => by unfold lessT; rw [List.length_cons, List.length_cons, lessT_len t q ts (i + 1)]
theorem badT_len (t q : Int) : ∀ (ts : List D) (i : Nat), (badT t q ts i).length = ts.length
 | [], i => rfl
 | x :: ts, i => by unfold badT; rw [List.length_cons, List.length_cons, badT_len t q ts (i + 1)]
theorem lessT_get (t q : Int) : ∀ (ts : List D) (i k : Nat), k < ts.length -> (lessT t q ts i).getD k .nil = .slice (lessF (atRow (i + k) t q) (elemsD (ts.getD k .nil)) 0) []
 | x :: ts, i, 0, h => rfl
 | x :: ts, i, k + 1, h => by
  unfold lessT
  rw [List.getD_cons_succ, List.getD_cons_succ, lessT_get t q ts (i + 1) k (by simpa using h)]
  have : i + 1 + k = i + (k + 1) := by omega
  rw [this]
theorem badT_get (t q : Int) : ∀ (ts : List D) (i k : Nat), k < ts.length -> (badT t q ts i).getD k .nil = .slice (badF (atRow (i + k) t q) (elemsD (ts.getD k .nil)) 0) []
 | x :: ts, i, 0, h => rfl
 | x :: ts, i, k + 1, h => by
  unfold badT
  rw [List.getD_cons_succ, List.getD_cons_succ, badT_get t q ts (i + 1) k (by simpa using h)]
  have : i + 1 + k = i + (k + 1) := by omega
  rw [this]
theorem bad_fits (T r : D) : fitsRow T (badRow r) = false := by
 unfold fitsRow badRow
 show (_ && ([(.agg [.lit (.int .i64 3), .lit (.int .i64 0)] : D)] ++ _).all mayB) = false
 rw [List.all_append]
 have : [(.agg [.lit (.int .i64 3), .lit (.int .i64 0)] : D)].all mayB = false := rfl
 rw [this, Bool.false_and, Bool.and_false]
theorem less_fits {cs ts : List D} {t q : Int} (h : fitsD (catD cs) (catD ts) = true) : fitsD (catD cs) (catD (lessT t q ts 0)) = true := by
 obtain ⟨h1, h2, h3⟩ := fits_iff.1 h
 have h2 : ts.length = cs.length := h2
 refine fits_iff.2 ⟨h1, (lessT_len t q ts 0).trans h2, fun i hi => ?_⟩
 have hi : i < cs.length := hi
 have h3 : fitsTab (cs.getD i .nil) (ts.getD i .nil) = true := h3 i hi
 show fitsTab (cs.getD i .nil) ((lessT t q ts 0).getD i .nil) = true
 rw [lessT_get t q ts 0 i (by omega)]
 unfold fitsTab at h3 ⊢
 rw [Bool.and_eq_true, decide_eq_true_eq, List.all_eq_true] at h3 ⊢
 refine ⟨?_, fun r hr => h3.2 r (lessF_mem hr)⟩
 have := lessF_len (atRow (0 + i) t q) (elemsD (ts.getD i .nil)) 0
 show ((lessF (atRow (0 + i) t q) (elemsD (ts.getD i .nil)) 0).length : Int) <= 8
 omega
theorem bad_not {cs ts : List D} {t q : Int} (h2 : ts.length = cs.length) (ht : 0 <= t /\ t < (ts.length : Int)) (hq : 0 <= q /\ q < ((elemsD (ts.getD t.toNat .nil)).length : Int)) : fitsD (catD cs) (catD (badT t q ts 0)) = false := by
 rw [<- Bool.not_eq_true, fits_iff]
 rintro ⟨_, _, h3⟩
 have h3 := h3 t.toNat (show t.toNat < cs.length by omega)
 have h3 : fitsTab (cs.getD t.toNat .nil) ((badT t q ts 0).getD t.toNat .nil) = true := h3
 rw [badT_get t q ts 0 t.toNat (by omega)] at h3
 have ha : atRow (0 + t.toNat) t q = q := by
  unfold atRow
  have : (((0 + t.toNat : Nat) : Int) == t) = true := by rw [beq_iff_eq]; omega
  rw [this]
  rfl
 rw [ha] at h3
 unfold fitsTab at h3
 rw [Bool.and_eq_true, List.all_eq_true] at h3
 obtain ⟨r, _, hb⟩ := badF_mem (q := q) (rs := elemsD (ts.getD t.toNat .nil)) (j := 0) (by omega) (by omega)
 have := h3.2 (badRow r) hb
 rw [bad_fits] at this
 cases this
section
set_option maxRecDepth 10000
theorem wf_u64 {z : Int} (h : (Lit.int .u64 z).wf = true) : 0 <= z /\ z < 18446744073709551616 := by
 simp [Lit.wf, IntKind.min, IntKind.max, IntKind.signed, IntKind.bits] at h
 omega
theorem bound_eq (n : Int) : minI (maxI n 0) 1125899906842624 = leastI (posI n) := by
 rw [least_if, pos_if]
 unfold minI maxI
 split <;> split <;> (try split) <;> (try split) <;> omega
theorem rows_eq (n : Int) : minI (maxI n 0) 1099511627776 = rowsI n := by
 rw [rows_if]
 unfold minI maxI
 split <;> split <;> (try split) <;> (try split) <;> omega
/-- One number by another, asked by a quotient. -/
theorem times_tree {x y : Int} (h0 : 0 <= x) (h1 : 0 <= y) (hx : x <= 9223372036854775807) : (bif ((decide (y > 0)) == true) then
  bif (!(y == 0)) then
   bif decide (x > (IntKind.wrap .i64 (Int.tdiv 1125899906842624 y))) then
    some (dat 3 (.lit (.int .i64 1125899906842624)))
   else some (dat 3 (.lit (.int .i64 (IntKind.wrap .i64 (x * y)))))
  else none
 else some (dat 3 (.lit (.int .i64 (IntKind.wrap .i64 (x * y)))))) = some (dat 3 (.lit (.int .i64 (leastI (x * y))))) := by
 by_cases hy : y > 0
 ·have e1 : (!(y == 0)) = true := by rw [Bool.not_eq_true', beq_eq_false_iff_ne]; omega
  rw [dT hy, e1, show (true == true) = true from rfl, cond_true, cond_true]
  have hq : Int.tdiv 1125899906842624 y = 1125899906842624 / y := Int.tdiv_eq_ediv_of_nonneg (by decide)
  have h2 : 0 <= 1125899906842624 / y := Int.ediv_nonneg (by decide) (by omega)
  have h3 : 1125899906842624 / y <= 1125899906842624 := Int.ediv_le_self _ (by decide)
  rw [hq, l_wrapI (l_in (by omega) (by omega))]
  by_cases hgt : x > 1125899906842624 / y
  ·have : ¬ x * y <= 1125899906842624 := by
    intro hc
    have := (Int.le_ediv_iff_mul_le hy).2 hc
    omega
   rw [dT hgt, cond_true, least_if, if_pos (by omega)]
  ·have : x * y <= 1125899906842624 := (Int.le_ediv_iff_mul_le hy).1 (by omega)
   have h5 := Int.mul_nonneg h0 h1
   rw [dF hgt, cond_false, l_wrapI (l_in (by omega) (by omega)), least_of (by omega)]
 ·have : y = 0 := by omega
  subst this
  rw [Int.mul_zero]
  rfl
/-! ### Bits -/
theorem fd_nat (n : Nat) {k : Int} {j : Nat} (h : min k.toNat (IntKind.bits .u64) = j) : Int.fdiv (n : Int) (2 ^ min k.toNat (IntKind.bits .u64)) = ((n / 2 ^ j : Nat) : Int) := by
 rw [h, Int.fdiv_eq_ediv_of_nonneg _ (Int.pow_nonneg (by decide)), Int.natCast_ediv, Int.natCast_pow]
 rfl
theorem wrap8 {m : Nat} (h : m < 256) : IntKind.wrap .u8 (m : Int) = (m : Int) := by
 have h2 : (2 : Int) ^ 8 = 256 := by decide
 simp only [IntKind.wrap, IntKind.bits, IntKind.signed, h2]
 simp
 omega
def len8T : List UInt8 := [0, 1, 2, 2, 3, 3, 3, 3, 4, 4, 4, 4, 4, 4, 4, 4, 5, 5, 5, 5, 5, 5, 5, 5, 5, 5, 5, 5, 5, 5, 5, 5, 6, 6, 6, 6, 6, 6, 6, 6, 6, 6, 6, 6, 6, 6, 6, 6, 6, 6, 6, 6, 6, 6, 6, 6, 6, 6, 6, 6, 6, 6, 6, 6, 7, 7, 7, 7, 7, 7, 7, 7, 7, 7, 7, 7, 7, 7, 7, 7, 7, 7, 7, 7, 7, 7, 7, 7, 7, 7, 7, 7, 7, 7, 7, 7, 7, 7, 7, 7, 7, 7, 7, 7, 7, 7, 7, 7, 7, 7, 7, 7, 7, 7, 7, 7, 7, 7, 7, 7, 7, 7, 7, 7, 7, 7, 7, 7, 8, 8, 8, 8, 8, 8, 8, 8, 8, 8, 8, 8, 8, 8, 8, 8, 8, 8, 8, 8, 8, 8, 8, 8, 8, 8, 8, 8, 8, 8, 8, 8, 8, 8, 8, 8, 8, 8, 8, 8, 8, 8, 8, 8, 8, 8, 8, 8, 8, 8, 8, 8, 8, 8, 8, 8, 8, 8, 8, 8, 8, 8, 8, 8, 8, 8, 8, 8, 8, 8, 8, 8, 8, 8, 8, 8, 8, 8, 8, 8, 8, 8, 8, 8, 8, 8, 8, 8, 8, 8, 8, 8, 8, 8, 8, 8, 8, 8, 8, 8, 8, 8, 8, 8, 8, 8, 8, 8, 8, 8, 8, 8, 8, 8, 8, 8, 8, 8, 8, 8, 8, 8, 8, 8, 8, 8, 8, 8]
theorem len8_all : ∀ n : Nat, n < 256 -> (len8T.getD n 0).toNat = bitsN n := by decide +kernel
theorem len8_len : len8T.length = 256 := by decide +kernel
theorem bits_div {n k : Nat} (h : 2 ^ k <= n) : bitsN n = k + bitsN (n / 2 ^ k) := by
 have hp : 0 < 2 ^ k := Nat.pos_of_ne_zero (by simp)
 refine Nat.le_antisymm (bits_le ?_) ?_
 ·rw [Nat.pow_add]
  have := (Nat.div_lt_iff_lt_mul hp).1 (bits_lt (n / 2 ^ k))
  rwa [Nat.mul_comm] at this
 ·have h1 : 1 <= n / 2 ^ k := (Nat.le_div_iff_mul_le hp).2 (by omega)
  have h0 : 0 < bitsN (n / 2 ^ k) := bits_pos (by omega)
  obtain ⟨j, hj⟩ : ∃ j, bitsN (n / 2 ^ k) = j + 1 := ⟨bitsN (n / 2 ^ k) - 1, by omega⟩
  have h2 : 2 ^ j <= n / 2 ^ k := by
   apply Decidable.byContradiction
   intro hn
   have := bits_le (k := j) (n := n / 2 ^ k) (by omega)
   omega
  have h3 : 2 ^ (k + j) <= n := by
   rw [Nat.pow_add, Nat.mul_comm]
   exact (Nat.le_div_iff_mul_le hp).1 h2
  have := bits_ge h3
  omega
/-- What the table tells of the last eight bits. -/
theorem last8 {m : Nat} {s : Int} (h : m < 256) (hs : 0 <= s) (hs2 : s <= 56) :
  (bif (decide (0 <= IntKind.wrap .u8 (m : Int)) && decide (IntKind.wrap .u8 (m : Int) < ((len8T.length : Nat) : Int))) then some (dat 3 (.lit (.int .i64 (IntKind.wrap .i64 (s + IntKind.wrap .i64 ((len8T.getD (IntKind.wrap .u8 (m : Int)).toNat 0).toNat : Int)))))) else none) = some (dat 3 (.lit (.int .i64 (s + (bitsN m : Int))))) := by
 have hb := bits_le (k := 8) (n := m) h
 rw [wrap8 h, len8_len, l_idx (by omega), cond_true, Int.toNat_natCast, len8_all m h, l_wrapI (z := (bitsN m : Int)) (l_in (by omega) (by omega)), l_wrapI (l_in (by omega) (by omega))]

/-! ### What each row costs -/
def eachI (w n : Int) : Int := bif w == 1 then 2 else bif w == 2 then ((bitsN n.toNat : Nat) : Int) else 1
def rowsCostI (w n : Int) : Int := leastI (rowsI n * eachI w (rowsI n))
theorem wrap_u64 {n : Int} (h0 : 0 <= n) (h1 : n <= 9223372036854775807) : IntKind.wrap .u64 n = n := by
 have h2 : (2 : Int) ^ 64 = 18446744073709551616 := by decide
 simp only [IntKind.wrap, IntKind.bits, IntKind.signed, h2]
 simp
 omega
theorem each_in (w : Int) {n : Int} (h0 : 0 <= n) (h1 : n <= 1099511627776) : (decide (0 <= n) && decide (0 <= eachI w n)) = true := by
 rw [dT h0, Bool.true_and]
 apply decide_eq_true
 unfold eachI
 cases (w == 1) <;> cases (w == 2) <;> simp
theorem addS_in {v : Int} (x : Int) (h0 : 0 <= v) (h1 : v <= 1125899906842624) : 0 <= addS v x /\ addS v x <= 1125899906842624 := by
 rw [addS_eq v x h0 h1]
 exact ⟨least_nn (by have := pos_nn x; omega), (least_le _).1⟩
theorem cost_scan (n : Int) : rowsCostI 0 n = rowsI n := by
 have := rows_in n
 show leastI (rowsI n * 1) = _
 rw [Int.mul_one, least_of (by omega)]
theorem cost_one (n : Int) : rowsCostI 1 n = 2 * rowsI n := by
 have := rows_in n
 show leastI (rowsI n * 2) = _
 rw [Int.mul_comm, least_of (by omega)]
theorem cost_sort (n : Int) : rowsCostI 2 n = sortI n := rfl
theorem pos_of {n : Int} (h : 0 <= n) : posI n = n := by rw [pos_if]; split <;> omega
theorem cost_hash (a b : Int) : addI [rowsCostI 0 a, rowsCostI 1 b] = hashI a b := by
 have := rows_in a
 have := rows_in b
 rw [cost_scan, cost_one]
 unfold addI hashI
 show leastI (posI _ + (posI _ + 0)) = _
 rw [pos_of (by omega), pos_of (by omega), Int.add_zero]
theorem cost_merge (a b : Int) : addI [rowsCostI 0 a, rowsCostI 0 b] = mergeI a b := by
 have := rows_in a
 have := rows_in b
 rw [cost_scan, cost_scan]
 unfold addI mergeI
 show leastI (posI _ + (posI _ + 0)) = _
 rw [pos_of (by omega), pos_of (by omega), Int.add_zero]
theorem cost_group (n : Int) (h : Bool) : (bif h then rowsCostI 1 n else rowsCostI 0 n) = groupI n h := by
 have := rows_in n
 unfold groupI
 rw [cost_scan, cost_one]
 cases h with
 | true => show 2 * rowsI n = leastI _; rw [least_of (by omega)]
 | false => rfl
end
end Go.Ev
