/- Trees of functions, and lemmas. Nothing here is trusted. -/
import Derived.Test.YtanjicjomcocmaaDoorZ16
import Derived.Sort.OwnSortedInts
import Derived.Lib.SlicesCompact
namespace Go.Ev
open Go.RowKit Go.Sort
set_option linter.unusedVariables false
set_option linter.unusedSimpArgs false
def sortI (zs : List Int) : List Int := zs.mergeSort fun x y => decide (x <= y)
def sortD (l : List D) : List D := (sortI (l.map intD)).map litI
def compD (l : List D) : List D := (Lib.compact (l.map intD)).map litI

section
variable {P : Program} {w w' : World} {okA : Nat -> Prop} {β : Nat -> Nat × Nat} {t ti : TypeId} {e : Ent}

theorem bx1 (e : Ent) (i : Nat) : bxOf [e] i = if i = OID then some e else none := by
 unfold bxOf
 by_cases h : i < OID
 ·rw [if_pos h, if_neg (by omega)]
 ·rw [if_neg h]
  by_cases h2 : i = OID
  ·subst h2; simp
  ·have : i - OID ≠ 0 := by omega
   rw [if_neg h2]
   cases h3 : i - OID with
   | zero => exact absurd h3 this
   | succ n => simp
theorem bx1' (e : Option Ent) (i : Nat) : bxOf' [e] i = if i = OID then e else none := by
 unfold bxOf'
 by_cases h : i < OID
 ·rw [if_pos h, if_neg (by omega)]
 ·rw [if_neg h]
  by_cases h2 : i = OID
  ·subst h2; simp
  ·have : i - OID ≠ 0 := by omega
   rw [if_neg h2]
   cases h3 : i - OID with
   | zero => exact absurd h3 this
   | succ n => simp

theorem take_one (l : List Value) (i : Nat) (v : Value) (h : (l.drop (i * 1)).take 1 = [v]) : l[i]? = some v := by
 have : ((l.drop (i * 1)).take 1)[0]? = some v := by rw [h]; rfl
 rw [List.getElem?_take_of_lt (by omega), List.getElem?_drop] at this
 simpa using this

theorem rep_litI (hI : P.underlying ti = some (.int .i64)) (hc : P.cellsOf ti = 1) {ok : Nat -> Prop} {z : Int} (hw : (Lit.int .i64 z).wf = true) : Rep P w ok 1 ti [.int .i64 z] (litI z) := by
 refine ⟨by simp [hc], by simp [Value.oneCell'], ?_⟩
 rw [hI]
 exact ⟨rfl, rfl, hw⟩

/-- A row of numbers in memory. -/
theorem int_row (H : HeapOK P w okA β (bxOf [e])) (hu : P.underlying t = some (.slice ti)) (hI : P.underlying ti = some (.int .i64)) (hc : P.cellsOf ti = 1) (ht : e.ty = t) (hr : e.row ≠ 0) :
  (∀ y ∈ elemsD e.d, y = litI (intD y) /\ (Lit.int .i64 (intD y)).wf = true) /\ (∃ es, e.d = .slice es []) /\
  (e.live = true -> ∃ cur : Array Value, w.heap[(β OID).1]? = some (.cells cur ti (0, 0)) /\ (elemsD e.d).length <= (β OID).2 /\ (β OID).2 <= maxLen /\ cur.size = (β OID).2 * 1 /\
   ∀ (i : Nat) (y : D), (elemsD e.d)[i]? = some y -> cur[i]? = some (Value.int .i64 (intD y))) := by
 have hb : bxOf [e] OID = some e := by rw [bx1, if_pos rfl]
 obtain ⟨el, g1, g2, g3, g4, g5⟩ := H.row OID e hb hr
 rw [ht, hu] at g1
 cases g1
 have key : e.live = true -> ∃ (cur : Array Value) (n : Nat), w.heap[(β OID).1]? = some (.cells cur ti (0, 0)) /\ (elemsD e.d).length <= (β OID).2 /\ (β OID).2 <= maxLen /\ cur.size = (β OID).2 * 1 /\
   ∀ (i : Nat) (y : D), (elemsD e.d)[i]? = some y -> y = litI (intD y) /\ (Lit.int .i64 (intD y)).wf = true /\ cur[i]? = some (Value.int .i64 (intD y)) := by
  intro hl
  obtain ⟨cur, n, q1, q2, q3, q4, q5⟩ := g5 hl
  rw [hc] at q4 q5
  refine ⟨cur, n, q1, q2, q3, q4, fun i y hy => ?_⟩
  obtain ⟨z, rfl, hcs, hw⟩ := (q5 i y hy).int hI
  exact ⟨rfl, hw, by have h9 := take_one _ _ _ hcs; rw [Array.getElem?_toList] at h9; exact h9⟩
 refine ⟨fun y hy => ?_, g4, fun hl => ?_⟩
 ·obtain ⟨i, hi⟩ := List.getElem?_of_mem hy
  have hl : e.live = true := live_of_lt (List.getElem?_eq_some_iff.1 hi).1
  obtain ⟨cur, n, q1, q2, q3, q4, q5⟩ := key hl
  exact ⟨(q5 i y hi).1, (q5 i y hi).2.1⟩
 ·obtain ⟨cur, n, q1, q2, q3, q4, q5⟩ := key hl
  exact ⟨cur, q1, q2, q3, q4, fun i y hy => (q5 i y hy).2.2⟩

theorem lits_ints {l : List D} (h : ∀ y ∈ l, y = litI (intD y) /\ (Lit.int .i64 (intD y)).wf = true) : l = (l.map intD).map litI := by
 induction l with
 | nil => rfl
 | cons y l ih =>
  simp only [List.map_cons]
  rw [<- (h y (by simp)).1, <- ih (fun x hx => h x (by simp [hx]))]

theorem new_heap (H : HeapOK P w okA β (bxOf [e])) (hl : e.live = true) (hu : P.underlying t = some (.slice ti)) (h1 : P.cellsOf t = 1) (hI : P.underlying ti = some (.int .i64)) (hc : P.cellsOf ti = 1) {e' : Ent} {ys : List Int}
  (ht : e'.ty = t) (hcn : e'.c = none) (hr : e'.row ≠ 0) (hd : e'.d = .slice (ys.map litI) []) {cur' : Array Value} (hcur : w'.heap[(β OID).1]? = some (.cells cur' ti (0, 0))) (hsz : cur'.size = (β OID).2 * 1)
  (hlen : ys.length <= (β OID).2) (hmax : (β OID).2 <= maxLen) (htake : cur'.toList.take ys.length = ys.map (Value.int .i64)) (hwf : ∀ y ∈ ys, (Lit.int .i64 y).wf = true) (hsize : w.heap.size <= w'.heap.size) :
  HeapOK P w' okA β (bxOf' [some e']) := by
 have hb : bxOf [e] OID = some e := by rw [bx1, if_pos rfl]
 have hget : ∀ i f, bxOf' [some e'] i = some f -> i = OID /\ f = e' := by
  intro i f hf
  rw [bx1'] at hf
  split at hf
  ·rename_i hi; cases hf; exact ⟨hi, rfl⟩
  ·cases hf
 refine ⟨fun i f hf _ => ?_, fun b i f hb' hf _ => ?_, fun i j f g hf hg _ _ _ => ?_, fun i f hf h0 => ?_, fun i f v hf h0 => ?_, fun i f hf h0 => ?_, fun i f v hf hv => ?_, fun i f hf _ => ?_⟩
 ·obtain ⟨rfl, rfl⟩ := hget i f hf; exact Nat.lt_of_lt_of_le (H.siz OID e hb hl) hsize
 ·obtain ⟨rfl, rfl⟩ := hget i f hf; exact H.sep b OID e hb' hb hl
 ·rw [(hget i f hf).1, (hget j g hg).1]
 ·obtain ⟨rfl, rfl⟩ := hget i f hf; exact absurd h0 hr
 ·obtain ⟨rfl, rfl⟩ := hget i f hf; exact absurd h0 hr
 ·obtain ⟨rfl, rfl⟩ := hget i f hf
  have hed : elemsD f.d = ys.map litI := by rw [hd]; rfl
  refine ⟨ti, by rw [ht]; exact hu, by rw [ht]; exact h1, by omega, ⟨_, hd⟩, fun _ => ⟨cur', 1, hcur, by rw [hed]; simpa using hlen, hmax, by rw [hc]; exact hsz, fun i y hy => ?_⟩⟩
  rw [hed, List.getElem?_map, Option.map_eq_some_iff] at hy
  obtain ⟨z, hz, rfl⟩ := hy
  have hi : i < ys.length := (List.getElem?_eq_some_iff.1 hz).1
  have hcell : cur'.toList[i]? = some (.int .i64 z) := by
   have : (cur'.toList.take ys.length)[i]? = some (.int .i64 z) := by rw [htake, List.getElem?_map, hz]; rfl
   rwa [List.getElem?_take_of_lt hi] at this
  have : (cur'.toList.drop (i * P.cellsOf ti)).take (P.cellsOf ti) = [.int .i64 z] := by
   rw [hc, Nat.mul_one]
   apply List.ext_getElem?
   intro j
   cases j with
   | zero => rw [List.getElem?_take_of_lt (by omega), List.getElem?_drop]; simpa using hcell
   | succ j => rw [List.getElem?_take_eq_none (by omega)]; rfl
  rw [this]
  exact rep_litI hI hc (hwf z (List.mem_of_getElem? hz))
 ·obtain ⟨rfl, rfl⟩ := hget i f hf; rw [hcn] at hv; cases hv
 ·obtain ⟨rfl, rfl⟩ := hget i f hf; exact hcn

/-- Where there is no block nothing turns. -/
theorem same_heap (H : HeapOK P w okA β (bxOf [e])) : HeapOK P w okA β (bxOf' [some e]) := by
 have : bxOf' [some e] = bxOf [e] := by funext i; rw [bx1, bx1']
 rw [this]
 exact H

theorem mem_sortI {z : Int} {l : List Int} : z ∈ sortI l ↔ z ∈ l := List.mem_mergeSort
theorem sortI_length (l : List Int) : (sortI l).length = l.length := List.length_mergeSort _

theorem ent_eq {e : Ent} {t : TypeId} {d : D} (ht : e.ty = t) (hd : e.d = d) (hc : e.c = none) : (⟨t, d, e.row, none⟩ : Ent) = e := by
 cases e
 subst ht
 subst hd
 subst hc
 rfl

theorem isEmpty_len {a b : List D} (h : a.length = b.length) : a.isEmpty = b.isEmpty := by
 cases a <;> cases b <;> simp at h ⊢

/-- slices.Sort. -/
theorem sort_ok {f : FuncId} (hfn : ∃ fn c, P.funcs[f]? = some fn /\ fn.body = some c /\ (fn.name == "runtime.NumGoroutine") = false)
  (hS : ∀ (blk off cap : Nat) (zs : List Int) (w : World), Holds (Value.int .i64) w blk off zs.toArray -> blk < w.heap.size -> zs.length < 4611686018427387904 ->
   Calls P f #[.slice (some ⟨blk, off, none⟩) zs.length cap] w fun e w' => e = .returned (.tuple #[]) /\ ∃ n os, w' = grow (putRow (Value.int .i64) (Sort.ahead w n) blk off (zs.mergeSort fun x y => decide (x <= y)).toArray) os)
  (hN : ∀ (p : Option Addr) (cap : Nat) (w : World), Calls P f #[.slice p 0 cap] w fun e w' => e = .returned (.tuple #[]) /\ w' = w)
  (hu : P.underlying t = some (.slice ti)) (h1 : P.cellsOf t = 1) (hI : P.underlying ti = some (.int .i64)) (hc : P.cellsOf ti = 1) {e : Ent} (ht : e.ty = t) (hcn : e.c = none) (hr : e.row = 3 \/ e.row = 4) (hlen : (elemsD e.d).length <= 1000000) :
  HCallOK P f [bxp OID t] [e] (tupA [] (.agg [])) [some ⟨t, .slice (sortD (elemsD e.d)) [], e.row, none⟩] := by
 refine ⟨hfn, fun w okA β vs htb hok H hargs => ?_⟩
 have hr0 : e.row ≠ 0 := by omega
 have hb : bxOf [e] OID = some e := by rw [bx1, if_pos rfl]
 obtain ⟨hlit, ⟨es, hes⟩, hcur⟩ := int_row H hu hI hc ht hr0
 match vs, hargs with
 | [v], hargs =>
  have hv : v = Ev.hv (β OID) e := (hargs.1.2.1.d5 rfl e hb hr0).1 rfl rfl
  have htup : ∀ {w' : World} {ok : Nat -> Prop} {bx : Nat -> Option Ent}, RepAV P w' ok β bx (tupA [] (.agg [])) (.tuple #[]) := fun {_ _ _} => ⟨by simp [tupA], by simp [tupA], by simp [tupA], by simp [tupA], by simp [tupA], fun _ => ⟨#[], rfl, rfl, fun k t hk => by simp [tupA] at hk⟩, by simp [tupA], by simp [tupA], by simp [tupA], by simp [tupA], by simp [tupA]⟩
  have hlv : (⟨t, .slice (sortD (elemsD e.d)) [], e.row, none⟩ : Ent).live = e.live := by
   unfold Ent.live
   have : (elemsD (.slice (sortD (elemsD e.d)) [] : D)).isEmpty = (elemsD e.d).isEmpty := by
    show (sortD (elemsD e.d)).isEmpty = _
    have hl : (sortD (elemsD e.d)).length = (elemsD e.d).length := by simp [sortD, sortI_length]
    exact isEmpty_len hl
   rw [this]
  have hlenS : (elemsD (.slice (sortD (elemsD e.d)) [] : D)).length = (elemsD e.d).length := by show (sortD (elemsD e.d)).length = _; simp [sortD, sortI_length]
  have hal : Alike (β OID) e (β OID) ⟨t, .slice (sortD (elemsD e.d)) [], e.row, none⟩ := ⟨ht.symm, Iff.rfl, fun _ => rfl, fun _ => ⟨by unfold Ev.hv; rw [hlv, hlenS], hlenS⟩⟩
  have halall : ∀ i e', bxOf' [some ⟨t, .slice (sortD (elemsD e.d)) [], e.row, none⟩] i = some e' -> (e'.row = 0 \/ e'.row = 3 \/ e'.row = 4) -> ∃ e0, bxOf [e] i = some e0 /\ Alike (β i) e0 (β i) e' := by
   intro i e' he' _
   rw [bx1'] at he'
   split at he'
   ·rename_i hi
    cases he'
    subst hi
    exact ⟨e, hb, hal⟩
   ·cases he'
  cases hl : e.live with
  | false =>
   have hnil := not_live hl
   have hvn : v = .slice none 0 0 := by rw [hv]; unfold Ev.hv; rw [hl]; rfl
   rw [hvn]
   refine (hN none 0 w).mono ?_
   rintro e2 w' ⟨rfl, rfl⟩
   have he : (⟨t, .slice (sortD (elemsD e.d)) [], e.row, none⟩ : Ent) = e := by
    have h2 : sortD (elemsD e.d) = [] := by rw [hnil]; simp [sortD, sortI]
    have hes0 : es = [] := by rw [hes] at hnil; exact hnil
    rw [h2]
    exact ent_eq ht (by rw [hes, hes0]) hcn
   refine ⟨.tuple #[], okA, β, rfl, BelowX.refl _ _ _, fun b hb => ⟨hok b hb, .inl hb⟩, ?_, htup, live_of_refs rfl, ?_, halall⟩
   ·rw [he]; exact same_heap H
   ·intro i e' he' hl'
    rw [bx1'] at he'
    split at he'
    ·cases he'
     rw [hlv, hl] at hl'
     cases hl'
    ·cases he'
  | true =>
   obtain ⟨cur, q1, q2, q3, q4, q5⟩ := hcur hl
   have hvl : v = .slice (some ⟨(β OID).1, 0, none⟩) ((elemsD e.d).map intD).length (β OID).2 := by rw [hv]; unfold Ev.hv; rw [hl]; simp
   rw [hvl]
   have hH : Holds (Value.int .i64) w (β OID).1 0 ((elemsD e.d).map intD).toArray := by
    intro j hj
    have hj' : j < (elemsD e.d).length := by simpa using hj
    have hcell := q5 j (elemsD e.d)[j] (by simp [hj'])
    refine ⟨?_, ?_⟩
    ·simp only [World.cell?, q1, Nat.zero_add]
     simp [hcell, getElem!_pos, hj']
    ·simp [World.frozen?, q1]
   refine (hS _ 0 _ _ w hH (H.siz OID e hb hl) (by simp; omega)).mono ?_
   rintro e2 w' ⟨rfl, n, os, rfl⟩
   have hgr := grownBy_sortedI (w := w) (g := (β OID).1) (n := n) (os := os) ((((elemsD e.d).map intD).mergeSort fun x y => decide (x <= y)).toArray)
   have hheap := heap_sortedI (n := n) (os := os) ((((elemsD e.d).map intD).mergeSort fun x y => decide (x <= y)).toArray) q1
   refine ⟨.tuple #[], okA, β, rfl, ⟨hgr.os, hgr.tape, hgr.output, hgr.size, fun k hk hx => hgr.block k hk (fun hh => hx ⟨OID, e, hb, hl, ?_⟩)⟩, fun b hb => ⟨Nat.lt_of_lt_of_le (hok b hb) hgr.size, .inl hb⟩, ?_, htup, live_of_refs rfl, ?_, halall⟩
   ·injection hh with hh; exact hh.symm
   ·refine new_heap H hl hu h1 hI hc (ys := sortI ((elemsD e.d).map intD)) rfl rfl hr0 rfl hheap (by simpa [putCells] using q4) (by rw [sortI_length]; simpa using q2) q3 ?_ ?_ hgr.size
    ·exact take_putCellsI cur (sortI ((elemsD e.d).map intD)) (by rw [sortI_length]; simp; omega)
    ·intro y hy
     rw [mem_sortI, List.mem_map] at hy
     obtain ⟨d, hd, rfl⟩ := hy
     exact (hlit d hd).2
   ·intro i e' he' _
    rw [bx1'] at he'
    split at he'
    ·rename_i hi
     subst hi
     exact .inr ⟨OID, e, hb, hl, rfl⟩
    ·cases he'
 | [], hargs => exact hargs.elim
 | _ :: _ :: _, hargs => exact hargs.2.elim

theorem compact_length (l : List Int) : (Lib.compact l).length <= l.length := by
 unfold Lib.compact Lib.compactUpTo
 rw [List.length_map]
 exact Nat.le_trans (List.length_filter_le _ _) (by simp)
theorem mem_compact {z : Int} {l : List Int} (h : z ∈ Lib.compact l) : z ∈ l := by
 unfold Lib.compact Lib.compactUpTo at h
 rw [List.mem_map] at h
 obtain ⟨j, hj, rfl⟩ := h
 rw [List.mem_filter, List.mem_range] at hj
 have : j < l.toArray.size := by simpa using hj.1
 rw [getElem!_pos _ j this]
 simp
theorem compact_nil {l : List Int} (h : (Lib.compact l) = []) : l = [] := by
 cases l with
 | nil => rfl
 | cons y l =>
  exfalso
  unfold Lib.compact Lib.compactUpTo at h
  rw [List.map_eq_nil_iff, List.filter_eq_nil_iff] at h
  exact h 0 (by simp) (by simp [Lib.keeps])

/-- slices.Compact. -/
theorem compact_ok {f : FuncId} (hfn : ∃ fn c, P.funcs[f]? = some fn /\ fn.body = some c /\ (fn.name == "runtime.NumGoroutine") = false)
  (hS : ∀ (blk off cap : Nat) (zs : List Int) (w : World), Holds (Value.int .i64) w blk off zs.toArray -> zs.length <= 9223372036854775807 -> zs.length <= cap ->
   Calls P f #[.slice (some ⟨blk, off, none⟩) zs.length cap] w fun e w' => e = .returned (.slice (some ⟨blk, off, none⟩) (Lib.compact zs).length cap) /\ ∃ q, w' = putRow (Value.int .i64) (Sort.ahead w q) blk off (Lib.compact zs ++ List.replicate (zs.length - (Lib.compact zs).length) 0).toArray)
  (hN : ∀ (a : Option Addr) (cap : Nat) (w : World), Calls P f #[.slice a 0 cap] w fun e w' => e = .returned (.slice a 0 cap) /\ w' = w)
  (hu : P.underlying t = some (.slice ti)) (h1 : P.cellsOf t = 1) (hI : P.underlying ti = some (.int .i64)) (hc : P.cellsOf ti = 1) {e : Ent} (ht : e.ty = t) (hcn : e.c = none) (hr : e.row = 3 \/ e.row = 4) :
  HCallOK P f [bxp OID t] [e] (bxp OID t) [some ⟨t, .slice (compD (elemsD e.d)) [], if e.row == 3 then 2 else 1, none⟩] := by
 refine ⟨hfn, fun w okA β vs htb hok H hargs => ?_⟩
 have hr0 : e.row ≠ 0 := by omega
 have hb : bxOf [e] OID = some e := by rw [bx1, if_pos rfl]
 obtain ⟨hlit, ⟨es, hes⟩, hcur⟩ := int_row H hu hI hc ht hr0
 generalize hk : (if e.row == 3 then 2 else 1) = k'
 have hk0 : k' ≠ 0 := by subst hk; split <;> decide
 have hk3 : k' ≠ 3 := by subst hk; split <;> decide
 have hk4 : k' ≠ 4 := by subst hk; split <;> decide
 have hb' : bxOf' [some ⟨t, .slice (compD (elemsD e.d)) [], k', none⟩] OID = some ⟨t, .slice (compD (elemsD e.d)) [], k', none⟩ := by rw [bx1', if_pos rfl]
 have hemp : (compD (elemsD e.d)).isEmpty = (elemsD e.d).isEmpty := by
  cases h2 : elemsD e.d with
  | nil => rfl
  | cons y l =>
   cases h3 : compD (y :: l) with
   | cons _ _ => rfl
   | nil =>
    unfold compD at h3
    rw [List.map_eq_nil_iff] at h3
    have := compact_nil h3
    cases this
 have hlv : (⟨t, .slice (compD (elemsD e.d)) [], k', none⟩ : Ent).live = e.live := by
  unfold Ent.live
  show ((k' != 1 && k' != 4) || !(compD (elemsD e.d)).isEmpty) = _
  rw [hemp]
  subst hk
  rcases hr with h | h <;> rw [h] <;> rfl
 match vs, hargs with
 | [v], hargs =>
  have hv : v = Ev.hv (β OID) e := (hargs.1.2.1.d5 rfl e hb hr0).1 rfl rfl
  have hrep : ∀ {w' : World} {ok : Nat -> Prop} {v : Value}, v = Ev.hv (β OID) ⟨t, .slice (compD (elemsD e.d)) [], k', none⟩ -> RepAV P w' ok β (bxOf' [some ⟨t, .slice (compD (elemsD e.d)) [], k', none⟩]) (bxp OID t) v := by
   intro w' ok v hv
   refine ⟨by simp [bxp], fun _ f hf h0 => ?_, fun _ f hf h0 => ⟨fun _ _ => ?_, by simp [bxp]⟩, by simp [bxp], by simp [bxp], by simp [bxp], by simp [bxp], by simp [bxp], by simp [bxp], by simp [bxp], by simp [bxp]⟩
   ·have hf' : bxOf' [some ⟨t, .slice (compD (elemsD e.d)) [], k', none⟩] OID = some f := hf
    rw [hb'] at hf'
    cases hf'
    exact absurd h0 hk0
   ·have hf' : bxOf' [some ⟨t, .slice (compD (elemsD e.d)) [], k', none⟩] OID = some f := hf
    rw [hb'] at hf'
    cases hf'
    exact hv
  have hlive : LiveB (bxOf' [some ⟨t, .slice (compD (elemsD e.d)) [], k', none⟩]) (bxp OID t) := by
   intro j hj
   rw [refs_2 rfl] at hj
   obtain rfl : j = OID := by simpa [bxp] using hj
   rw [hb']
   rfl
  have halall : ∀ i e', bxOf' [some ⟨t, .slice (compD (elemsD e.d)) [], k', none⟩] i = some e' -> (e'.row = 0 \/ e'.row = 3 \/ e'.row = 4) -> ∃ e0, bxOf [e] i = some e0 /\ Alike (β i) e0 (β i) e' := by
   intro i e' he' hrow
   rw [bx1'] at he'
   split at he'
   ·cases he'
    rcases hrow with h | h | h
    ·exact absurd h hk0
    ·exact absurd h hk3
    ·exact absurd h hk4
   ·cases he'
  cases hl : e.live with
  | false =>
   have hnil := not_live hl
   have hvn : v = .slice none 0 0 := by rw [hv]; unfold Ev.hv; rw [hl]; rfl
   rw [hvn]
   refine (hN none 0 w).mono ?_
   rintro e2 w' ⟨rfl, rfl⟩
   have hes0 : es = [] := by rw [hes] at hnil; exact hnil
   have hcd : compD (elemsD e.d) = [] := by rw [hnil]; rfl
   refine ⟨.slice none 0 0, okA, β, rfl, BelowX.refl _ _ _, fun b hb => ⟨hok b hb, .inl hb⟩, ?_, hrep (by unfold Ev.hv; rw [hlv, hl]; rfl), hlive, ?_, halall⟩
   ·have hget : ∀ i f, bxOf' [some ⟨t, .slice (compD (elemsD e.d)) [], k', none⟩] i = some f -> i = OID /\ f = ⟨t, .slice (compD (elemsD e.d)) [], k', none⟩ := by
     intro i f hf
     rw [bx1'] at hf
     split at hf
     ·rename_i hi; cases hf; exact ⟨hi, rfl⟩
     ·cases hf
    refine ⟨fun i f hf hfl => ?_, fun b i f _ hf hfl => ?_, fun i j f g hf hg _ _ _ => ?_, fun i f hf h0 => ?_, fun i f v hf h0 => ?_, fun i f hf h0 => ?_, fun i f v hf hv => ?_, fun i f hf _ => ?_⟩
    ·obtain ⟨rfl, rfl⟩ := hget i f hf; rw [hlv, hl] at hfl; cases hfl
    ·obtain ⟨rfl, rfl⟩ := hget i f hf; rw [hlv, hl] at hfl; cases hfl
    ·rw [(hget i f hf).1, (hget j g hg).1]
    ·obtain ⟨rfl, rfl⟩ := hget i f hf; exact absurd h0 hk0
    ·obtain ⟨rfl, rfl⟩ := hget i f hf; exact absurd h0 hk0
    ·obtain ⟨rfl, rfl⟩ := hget i f hf; exact ⟨ti, hu, h1, by omega, ⟨_, rfl⟩, fun hfl => by rw [hlv, hl] at hfl; cases hfl⟩
    ·obtain ⟨rfl, rfl⟩ := hget i f hf; cases hv
    ·obtain ⟨rfl, rfl⟩ := hget i f hf; rfl
   ·intro i e' he' hl'
    rw [bx1'] at he'
    split at he'
    ·cases he'
     rw [hlv, hl] at hl'
     cases hl'
    ·cases he'
  | true =>
   obtain ⟨cur, q1, q2, q3, q4, q5⟩ := hcur hl
   have hvl : v = .slice (some ⟨(β OID).1, 0, none⟩) ((elemsD e.d).map intD).length (β OID).2 := by rw [hv]; unfold Ev.hv; rw [hl]; simp
   rw [hvl]
   have hH : Holds (Value.int .i64) w (β OID).1 0 ((elemsD e.d).map intD).toArray := by
    intro j hj
    have hj' : j < (elemsD e.d).length := by simpa using hj
    have hcell := q5 j (elemsD e.d)[j] (by simp [hj'])
    refine ⟨?_, ?_⟩
    ·simp only [World.cell?, q1, Nat.zero_add]
     simp [hcell, getElem!_pos, hj']
    ·simp [World.frozen?, q1]
   refine (hS _ 0 _ _ w hH (by unfold maxLen at q3; simp; omega) (by simpa using q2)).mono ?_
   rintro e2 w' ⟨rfl, n, rfl⟩
   generalize hys : Lib.compact ((elemsD e.d).map intD) = ys
   have hyl : ys.length <= (elemsD e.d).length := by rw [<- hys]; have := compact_length ((elemsD e.d).map intD); simpa using this
   generalize hall : ys ++ List.replicate (((elemsD e.d).map intD).length - ys.length) 0 = all
   have hallen : all.length = (elemsD e.d).length := by rw [<- hall]; simp; omega
   have hgr := grownBy_sortedI (w := w) (g := (β OID).1) (n := n) (os := #[]) all.toArray
   have hheap := heap_sortedI (n := n) (os := #[]) all.toArray q1
   rw [grow_empty] at hgr hheap
   have hcD : compD (elemsD e.d) = ys.map litI := by rw [<- hys]; rfl
   refine ⟨.slice (some ⟨(β OID).1, 0, none⟩) ys.length (β OID).2, okA, β, rfl, ⟨hgr.os, hgr.tape, hgr.output, hgr.size, fun k hk hx => hgr.block k hk (fun hh => hx ⟨OID, e, hb, hl, ?_⟩)⟩, fun b hb => ⟨Nat.lt_of_lt_of_le (hok b hb) hgr.size, .inl hb⟩, ?_, hrep ?_, hlive, ?_, halall⟩
   ·injection hh with hh; exact hh.symm
   ·refine new_heap H hl hu h1 hI hc (ys := ys) rfl rfl hk0 (by rw [hcD]) hheap (by simpa [putCells] using q4) (by omega) q3 ?_ ?_ hgr.size
    ·have h9 := take_putCellsI cur all (by rw [hallen]; omega)
     have h10 : (all.map (Value.int .i64)).take ys.length = ys.map (Value.int .i64) := by rw [<- hall]; simp
     rw [<- h10, <- h9, List.take_take, hallen, Nat.min_eq_left hyl]
    ·intro y hy
     rw [<- hys] at hy
     have := mem_compact hy
     rw [List.mem_map] at this
     obtain ⟨d, hd, rfl⟩ := this
     exact (hlit d hd).2
   ·unfold Ev.hv
    rw [hlv, hl, if_pos rfl]
    show _ = Value.slice (some ⟨(β OID).1, 0, none⟩) (compD (elemsD e.d)).length (β OID).2
    rw [hcD, List.length_map]
   ·intro i e' he' _
    rw [bx1'] at he'
    split at he'
    ·rename_i hi
     subst hi
     exact .inr ⟨OID, e, hb, hl, rfl⟩
    ·cases he'
 | [], hargs => exact hargs.elim
 | _ :: _ :: _, hargs => exact hargs.2.elim

end
end Go.Ev
