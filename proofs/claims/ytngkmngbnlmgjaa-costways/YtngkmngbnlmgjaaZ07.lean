/- Trees of functions, and lemmas. Nothing here is trusted. -/
import Derived.Test.YtngkmngbnlmgjaaZ06
namespace Go.Ev
open Go.RowKit
set_option linter.unusedVariables false
set_option linter.unusedSimpArgs false
section
section
variable {P : Program} {w w' : World} {ok ok' : Nat -> Prop} {β β' : Nat -> Nat × Nat} {bx bx' : Nat -> Option Ent}
variable {F : Fr P} {st st' : St} {a : Act} {env : Env} {o : Oper}

/-! ### Names -/
theorem refs_ren (g : Nat -> Nat) (v : AV) : refs (renA g v) = (refs v).map g := by
 unfold renA
 by_cases h2 : v.tag = 2
 ·simp [h2, refs]
 ·by_cases h4 : v.tag = 4
  ·simp [h4, refs]
  ·by_cases h7 : v.tag = 7
   ·have e1 : renA g v = { v with tys := v.tys.map fun x => if x < 2 then x else g (x - 2) + 2 } := by unfold renA; simp [h7]
    have e2 : refs { v with tys := v.tys.map fun x => if x < 2 then x else g (x - 2) + 2 } = (refs v).map g := by
     rw [refs_7 (x := { v with tys := v.tys.map fun x => if x < 2 then x else g (x - 2) + 2 }) h7, refs_7 h7]
     unfold rids
     simp only [List.filterMap_map, List.map_filterMap]
     congr 1
     funext x
     simp only [Function.comp]
     by_cases hx : x < 2
     ·simp [hx]
     ·simp [hx]
    simpa [h7] using e2
   ·simp [h2, h4, h7, refs]

theorem ren_tag (g : Nat -> Nat) (v : AV) : (renA g v).tag = v.tag /\ (renA g v).ix = v.ix /\ (renA g v).ty = v.ty /\ (renA g v).d = v.d /\ (renA g v).off = v.off := by
 unfold renA
 split
 ·exact ⟨rfl, rfl, rfl, rfl, rfl⟩
 ·split
  ·exact ⟨rfl, rfl, rfl, rfl, rfl⟩
  ·split <;> exact ⟨rfl, rfl, rfl, rfl, rfl⟩

theorem RepAV.ren {x : AV} {v : Value} (g : Nat -> Nat) (h : RepAV P w ok β bx x v) (hb : ∀ b, ok b -> w'.heap[b]? = w.heap[b]?) (hk : ∀ b, ok b -> ok' b)
  (hA : ∀ i ∈ refs x, ∀ e', bx' (g i) = some e' -> ∃ e, bx i = some e /\ Alike (β i) e (β' (g i)) e') : RepAV P w' ok' β' bx' (renA g x) v := by
 by_cases h2 : x.tag = 2
 ·have hx : renA g x = { x with id := g x.id } := by unfold renA; simp [h2]
  rw [hx]
  refine ⟨fun e => by simp [h2] at e, fun ht e' he' h0 => ?_, fun ht e' he' h0 => ?_, fun e => by simp [h2] at e, fun e => by simp [h2] at e, fun e => by simp [h2] at e, fun e => by simp [h2] at e, fun e => by simp [h2] at e, fun e => by simp [h2] at e, fun e => by simp [h2] at e, fun e => by simp [h2] at e⟩
  ·obtain ⟨e, he, a1, a2, a3, a4⟩ := hA x.id (by rw [refs_2 h2]; simp) e' he'
   obtain ⟨g1, g2, g3⟩ := h.d2 h2 e he (a2.1 h0)
   rw [a1]
   show v = .pointer (some ⟨(β' (g x.id)).1, x.off, none⟩) /\ _
   rw [a3 (live_box (a2.1 h0))]
   exact ⟨g1, g2, g3⟩
  ·obtain ⟨e, he, a1, a2, a3, a4⟩ := hA x.id (by rw [refs_2 h2]; simp) e' he'
   have hr : e.row ≠ 0 := fun hh => h0 (a2.2 hh)
   obtain ⟨g1, g2, g3⟩ := h.d5 h2 e he hr
   obtain ⟨a5, a6⟩ := a4 hr
   refine ⟨fun t0 i0 => by show v = hv (β' (g x.id)) e'; rw [a5]; exact g1 t0 i0, fun t0 => ?_, fun t0 i0 => ?_⟩
   ·obtain ⟨el, k, r1, r2, r3, r4, r5⟩ := g2 t0
    exact ⟨el, k, by rw [a1]; exact r1, by rw [a6]; exact r2, r3, by show v = .pointer (some ⟨(β' (g x.id)).1, _, none⟩); rw [a3 (live_of_lt r2)]; exact r4, r5⟩
   ·obtain ⟨n, r1, r2, r3⟩ := g3 t0 i0
    exact ⟨n, r1, by rw [a6]; exact r2, by show v = pre (β' (g x.id)) e' n; rw [pre_of a5]; exact r3⟩
 ·by_cases h4 : x.tag = 4
  ·have hx : renA g x = { x with tys := x.tys.map g } := by unfold renA; simp [h4]
   rw [hx]
   refine ⟨fun e => by simp [h4] at e, fun e => by simp [h4] at e, fun e => by simp [h4] at e, fun e => by simp [h4] at e, fun ht => ?_, fun e => by simp [h4] at e, fun e => by simp [h4] at e, fun e => by simp [h4] at e, fun e => by simp [h4] at e, fun e => by simp [h4] at e, fun e => by simp [h4] at e⟩
   obtain ⟨caps, e1, e2, e3⟩ := h.d4 h4
   refine ⟨caps, e1, by simpa using e2, fun k i e' hk' he' h0 => ?_⟩
   simp only [List.getElem?_map, Option.map_eq_some_iff] at hk'
   obtain ⟨i0, hi0, rfl⟩ := hk'
   obtain ⟨e, he, a1, a2, a3, a4⟩ := hA i0 (by rw [refs_4 h4]; exact List.mem_of_getElem? hi0) e' he'
   rw [a3 (live_box (a2.1 h0))]
   exact e3 k i0 e hi0 he (a2.1 h0)
  ·by_cases h7 : x.tag = 7
   ·have hx : renA g x = { x with tys := x.tys.map fun y => if y < 2 then y else g (y - 2) + 2 } := by unfold renA; simp [h7]
    rw [hx]
    refine ⟨fun e => by simp [h7] at e, fun e => by simp [h7] at e, fun e => by simp [h7] at e, fun e => by simp [h7] at e, fun e => by simp [h7] at e, fun e => by simp [h7] at e, fun e => by simp [h7] at e, fun e => by simp [h7] at e, fun e => by simp [h7] at e, fun _ => ?_, fun e => by simp [h7] at e⟩
    obtain ⟨fs, q1, q2, q3, q4, q5, q6, q7⟩ := h.d7 h7
    refine ⟨fs, q1, q2, q3, q4, q5, by simpa using q6, fun k f hf => ⟨fun hk0 => ?_, fun j e' hkj he' => ?_⟩⟩
    ·simp only [List.getElem?_map, Option.map_eq_some_iff] at hk0
     obtain ⟨(y : Nat), hy, hk0⟩ := hk0
     have hk0 : (if y < 2 then y else g (y - 2) + 2) = (0 : Nat) := hk0
     have hy0 : y = (0 : Nat) := by
      by_cases hy2 : y < 2
      ·rw [if_pos hy2] at hk0; exact hk0
      ·rw [if_neg hy2] at hk0; omega
     rw [hy0] at hy
     obtain ⟨n, hn⟩ := (q7 k f hf).1 hy
     exact ⟨n, hn.move hb hk⟩
    ·simp only [List.getElem?_map, Option.map_eq_some_iff] at hkj
     obtain ⟨(y : Nat), hy, hkj⟩ := hkj
     have hkj : (if y < 2 then y else g (y - 2) + 2) = (j + 2 : Nat) := hkj
     have hy2 : ¬ y < 2 := by
      intro hh
      rw [if_pos hh] at hkj
      omega
     rw [if_neg hy2] at hkj
     have hjy : j = g (y - 2) := by omega
     subst hjy
     have hyy : y = (y - 2) + 2 := by omega
     rw [hyy] at hy
     obtain ⟨e, he, a1, a2, a3, a4⟩ := hA (y - 2) (by rw [refs_7 h7, mem_rids]; exact List.mem_of_getElem? hy) e' he'
     obtain ⟨hr, g1, g2, g3⟩ := (q7 k f hf).2 (y - 2) e hy he
     rw [a1, (a4 hr).1]
     exact ⟨fun hh => hr (a2.1 hh), g1, g2, g3⟩
   ·have hx : renA g x = x := by unfold renA; simp [h2, h4, h7]
    rw [hx]
    exact h.tr hb hk (fun i hi => by rw [refs_of_ne h2 h4 h7] at hi; cases hi)

theorem posOf_lt {ids : List Nat} {i : Nat} (h : i ∈ ids) : posOf ids i < ids.length := by
 induction ids with
 | nil => cases h
 | cons j l ih =>
  unfold posOf
  by_cases hij : i = j
  ·simp [hij]
  ·rw [if_neg hij]
   have := ih (by simpa [hij] using h)
   simp only [List.length_cons]
   omega

theorem posOf_get {ids : List Nat} {i : Nat} (h : i ∈ ids) : ids[posOf ids i]? = some i := by
 induction ids with
 | nil => cases h
 | cons j l ih =>
  unfold posOf
  by_cases hij : i = j
  ·simp [hij]
  ·rw [if_neg hij, List.getElem?_cons_succ]
   exact ih (by simpa [hij] using h)

theorem nodupB_spec {ids : List Nat} (h : nodupB ids = true) : ids.Nodup := by
 induction ids with
 | nil => exact List.nodup_nil
 | cons i l ih =>
  simp only [nodupB, Bool.and_eq_true, Bool.not_eq_true'] at h
  refine List.nodup_cons.2 ⟨?_, ih h.2⟩
  intro hm
  have := h.1
  simp [hm] at this

theorem posOf_of_get {ids : List Nat} (hn : ids.Nodup) {k i : Nat} (h : ids[k]? = some i) : posOf ids i = k := by
 induction ids generalizing k with
 | nil => simp at h
 | cons j l ih =>
  rw [List.nodup_cons] at hn
  unfold posOf
  cases k with
  | zero =>
   simp only [List.getElem?_cons_zero, Option.some.injEq] at h
   simp [h]
  | succ k =>
   rw [List.getElem?_cons_succ] at h
   have hij : i ≠ j := fun hh => hn.1 (hh ▸ List.mem_of_getElem? h)
   rw [if_neg hij, ih hn.2 h]

theorem bwd_fwd {ids : List Nat} {i : Nat} (h : i ∈ ids) : bwd ids (fwd ids i) = i := by
 unfold bwd fwd
 rw [Nat.add_sub_cancel_left, List.getD_eq_getElem?_getD, posOf_get h]
 rfl

theorem fwd_bwd {ids : List Nat} (hn : ids.Nodup) {k : Nat} (h1 : OID <= k) (h2 : k - OID < ids.length) : bwd ids k ∈ ids /\ fwd ids (bwd ids k) = k := by
 have hg : ids[k - OID]? = some (bwd ids k) := by
  unfold bwd
  rw [List.getD_eq_getElem?_getD, List.getElem?_eq_getElem h2]
  rfl
 refine ⟨List.mem_of_getElem? hg, ?_⟩
 unfold fwd
 rw [posOf_of_get hn hg]
 omega

theorem lookI_spec : ∀ {ids : List Nat} {h : List (Option Ent)} (hl : h.length = ids.length) (j : Nat),
  (j ∈ ids -> lookI ids h j = h[posOf ids j]?) /\ (j ∉ ids -> lookI ids h j = none)
 | [], [], _, j => ⟨fun hj => absurd hj (by simp), fun _ => rfl⟩
 | i :: ids, e :: h, hl, j => by
  have ih := lookI_spec (ids := ids) (h := h) (by simpa using hl) j
  unfold lookI posOf
  by_cases hij : j = i
  ·simp [hij]
  ·rw [if_neg hij, if_neg hij]
   refine ⟨fun hj => ?_, fun hj => ?_⟩
   ·rw [List.getElem?_cons_succ]
    exact ih.1 (by simpa [hij] using hj)
   ·exact ih.2 (by simpa [hij] using hj)
 | [], _ :: _, hl, _ => by simp at hl
 | _ :: _, [], hl, _ => by simp at hl

/-! ### Kinds of rows -/
theorem live_ren (g : Nat -> Nat) (e : Ent) : (e.ren g handed).live = e.live := by
 unfold Ent.live Ent.ren handed
 by_cases h1 : e.row = 1
 ·simp [h1]
 ·by_cases h2 : e.row = 2
  ·simp [h2]
  ·simp [h1, h2]

theorem handed_zero (r : Nat) : handed r = 0 ↔ r = 0 := by
 unfold handed
 by_cases h1 : r = 1
 ·simp [h1]
 ·by_cases h2 : r = 2
  ·simp [h2]
  ·simp [h1, h2]

theorem hv_of {b : Nat × Nat} {e e' : Ent} (hl : e'.live = e.live) (hd : (elemsD e'.d).length = (elemsD e.d).length) : hv b e' = hv b e := by
 unfold hv
 rw [hl, hd]

theorem alike_handed (b : Nat × Nat) (e : Ent) (g : Nat -> Nat) : Alike b e b (e.ren g handed) :=
 ⟨rfl, handed_zero _, fun _ => rfl, fun _ => ⟨hv_of (live_ren g e) rfl, rfl⟩⟩

theorem Alike.unhanded {b b' : Nat × Nat} {e e' : Ent} {g : Nat -> Nat} (h : Alike b (e.ren g handed) b' e') : Alike b e b' e' := by
 obtain ⟨h1, h2, h3, h4⟩ := h
 have hz := handed_zero e.row
 refine ⟨h1, h2.trans hz, fun hl => h3 (by rw [live_ren]; exact hl), fun hr => ?_⟩
 obtain ⟨h5, h6⟩ := h4 (fun hh => hr (hz.1 hh))
 exact ⟨by rw [h5]; exact hv_of (live_ren g e) rfl, h6⟩

theorem Alike.live {b b' : Nat × Nat} {e e' : Ent} (h : Alike b e b' e') : e'.live = e.live := by
 by_cases h0 : e.row = 0
 ·rw [live_box h0, live_box (h.2.1.2 h0)]
 ·have h5 := (h.2.2.2 h0).1
  unfold hv at h5
  cases h1 : e'.live <;> cases h2 : e.live <;> rw [h1, h2] at h5 <;> simp at h5 <;> rfl

theorem RowOK.like {b : Nat × Nat} {e e' : Ent} (h : RowOK P w ok b e) (h1 : e'.ty = e.ty) (h2 : e'.d = e.d) (h3 : e'.live = e.live) : RowOK P w ok b e' := by
 obtain ⟨el, g1, g2, g3, g4, g5⟩ := h
 exact ⟨el, by rw [h1]; exact g1, by rw [h1]; exact g2, g3, by rw [h2]; exact g4, fun hl => by rw [h2]; exact g5 (by rw [<- h3]; exact hl)⟩

/-! ### Handed over -/
theorem closedB_spec {as : List AV} {ids : List Nat} (h : closedB st as ids = true) : ids.Nodup /\ (∀ v ∈ as, ∀ j ∈ refs v, j ∈ ids) /\ ∀ i ∈ ids, ∃ e, st.bx i = some e /\ ∀ j ∈ refsE e, j ∈ ids := by
 simp only [closedB, Bool.and_eq_true, List.all_eq_true] at h
 obtain ⟨⟨h1, h2⟩, h3⟩ := h
 refine ⟨nodupB_spec h1, fun v hv j hj => ?_, fun i hi => ?_⟩
 ·have := h2 j (List.mem_flatMap.2 ⟨v, hv, hj⟩)
  simpa using this
 ·have := h3 i hi
  split at this
  ·rename_i e he
   refine ⟨e, he, fun j hj => ?_⟩
   rw [List.all_eq_true] at this
   simpa using this j hj
  ·cases this

variable {ids : List Nat} {as : List AV}

theorem bxOf_get {k : Nat} {e' : Ent} (hc : closedB st as ids = true) (h : bxOf (ids.map (entOf st ids)) k = some e') :
  OID <= k /\ k - OID < ids.length /\ ∃ e, st.bx (bwd ids k) = some e /\ e' = e.ren (fwd ids) handed /\ bwd ids k ∈ ids /\ ∀ j ∈ refsE e, j ∈ ids := by
 obtain ⟨hn, _, h3⟩ := closedB_spec hc
 unfold bxOf at h
 split at h
 ·cases h
 ·rename_i hk
  have hk : OID <= k := by omega
  rw [List.getElem?_map, Option.map_eq_some_iff] at h
  obtain ⟨i, hi, rfl⟩ := h
  have hlt : k - OID < ids.length := (List.getElem?_eq_some_iff.1 hi).1
  have hb : bwd ids k = i := by
   unfold bwd
   rw [List.getD_eq_getElem?_getD, hi]
   rfl
  obtain ⟨e, he, hr⟩ := h3 i (List.mem_of_getElem? hi)
  refine ⟨hk, hlt, e, by rw [hb]; exact he, ?_, by rw [hb]; exact List.mem_of_getElem? hi, hr⟩
  unfold entOf
  rw [he]

theorem bxOf_fwd {i : Nat} {e : Ent} (hi : i ∈ ids) (he : st.bx i = some e) : bxOf (ids.map (entOf st ids)) (fwd ids i) = some (e.ren (fwd ids) handed) := by
 have : fwd ids i - OID = posOf ids i := by unfold fwd; omega
 unfold bxOf
 rw [if_neg (by unfold fwd; omega), this, List.getElem?_map, posOf_get hi]
 simp [entOf, he]

theorem live_handed (hc : closedB st as ids = true) {v : AV} (hv : ∀ j ∈ refs v, j ∈ ids) : LiveB (bxOf (ids.map (entOf st ids))) (renA (fwd ids) v) := by
 obtain ⟨hn, _, h3⟩ := closedB_spec hc
 intro j hj
 rw [refs_ren, List.mem_map] at hj
 obtain ⟨i, hi, rfl⟩ := hj
 obtain ⟨e, he, _⟩ := h3 i (hv i hi)
 rw [bxOf_fwd (hv i hi) he]
 rfl

theorem rep_handed (hc : closedB st as ids = true) {v : AV} {val : Value} (hv : ∀ j ∈ refs v, j ∈ ids) (h : RepAV P w ok β st.bx v val) :
  RepAV P w ok (fun k => β (bwd ids k)) (bxOf (ids.map (entOf st ids))) (renA (fwd ids) v) val := by
 refine h.ren (fwd ids) (fun _ _ => rfl) (fun _ h => h) (fun i hi e' he' => ?_)
 obtain ⟨_, _, h3⟩ := closedB_spec hc
 obtain ⟨e, he, _⟩ := h3 i (hv i hi)
 rw [bxOf_fwd (hv i hi) he] at he'
 cases he'
 refine ⟨e, he, ?_⟩
 simp only [bwd_fwd (hv i hi)]
 exact alike_handed _ _ _

theorem heap_handed (H : HeapOK P w ok β st.bx) (hc : closedB st as ids = true) : HeapOK P w ok (fun k => β (bwd ids k)) (bxOf (ids.map (entOf st ids))) := by
 have hrefs : ∀ {e : Ent} {v : AV}, (∀ j ∈ refsE e, j ∈ ids) -> e.c = some v -> ∀ j ∈ refs v, j ∈ ids := by
  intro e v h hv j hj
  exact h j (by unfold refsE; rw [hv]; exact hj)
 refine ⟨fun k e' hk hl => ?_, fun b k e' hb hk hl => ?_, fun k m e' f' hk hm hel hfl heq => ?_, fun k e' hk h0 hcc => ?_, fun k e' v hk h0 hcc => ?_, fun k e' hk h0 => ?_, fun k e' v hk hcc => ?_, fun k e' hk h0 => ?_⟩
 ·obtain ⟨_, _, e, he, rfl, _⟩ := bxOf_get hc hk
  rw [live_ren] at hl
  exact H.siz _ e he hl
 ·obtain ⟨_, _, e, he, rfl, _⟩ := bxOf_get hc hk
  rw [live_ren] at hl
  exact H.sep b _ e hb he hl
 ·obtain ⟨h1, h2, e, he, rfl, _⟩ := bxOf_get hc hk
  obtain ⟨g1, g2, f, hf, rfl, _⟩ := bxOf_get hc hm
  rw [live_ren] at hel hfl
  have := H.inj _ _ e f he hf hel hfl heq
  have hn := (closedB_spec hc).1
  rw [<- (fwd_bwd hn h1 h2).2, <- (fwd_bwd hn g1 g2).2, this]
 ·obtain ⟨_, _, e, he, rfl, _⟩ := bxOf_get hc hk
  have h0' : e.row = 0 := (handed_zero _).1 h0
  have hc' : e.c = none := by simpa [Ent.ren] using hcc
  exact H.box _ e he h0' hc'
 ·obtain ⟨_, _, e, he, rfl, _, hr⟩ := bxOf_get hc hk
  have h0' : e.row = 0 := (handed_zero _).1 h0
  simp only [Ent.ren, Option.map_eq_some_iff] at hcc
  obtain ⟨u, hu, rfl⟩ := hcc
  obtain ⟨g1, val, g2, g3, g4⟩ := H.con _ e u he h0' hu
  have ht := ren_tag (fwd ids) u
  exact ⟨g1.like ht.1 ht.2.2.1 ht.2.2.2.1, val, by rw [objC_like ht.1 ht.2.2.2.1 ht.2.1]; exact g2, fun hh => g3 (by rw [<- ht.1]; exact hh), rep_handed hc (hrefs hr hu) g4⟩
 ·obtain ⟨_, _, e, he, rfl, _⟩ := bxOf_get hc hk
  have h0' : e.row ≠ 0 := fun hh => h0 ((handed_zero _).2 hh)
  exact (H.row _ e he h0').like rfl rfl (live_ren _ _)
 ·obtain ⟨_, _, e, he, rfl, _, hr⟩ := bxOf_get hc hk
  simp only [Ent.ren, Option.map_eq_some_iff] at hcc
  obtain ⟨u, hu, rfl⟩ := hcc
  exact live_handed hc (hrefs hr hu)
 ·obtain ⟨_, _, e, he, rfl, _⟩ := bxOf_get hc hk
  have h0' : e.row ≠ 0 := fun hh => h0 ((handed_zero _).2 hh)
  simp [Ent.ren, H.rc _ e he h0']

/-! ### Taken back -/
theorem gone_spec : ∀ {ids : List Nat} {h : List (Option Ent)} (hl : h.length = ids.length) (hn : ids.Nodup) (i : Nat), i ∈ ids -> i ∉ goneOf ids h ->
  ∃ e, h[posOf ids i]? = some (some e) /\ (e.row = 0 \/ e.row = 3 \/ e.row = 4)
 | [], [], _, _, i, hi, _ => by cases hi
 | j :: ids, none :: h, hl, hn, i, hi, hg => by
  rw [List.nodup_cons] at hn
  have hne : i ≠ j := fun hh => hg (by simp [goneOf, hh])
  unfold posOf
  rw [if_neg hne, List.getElem?_cons_succ]
  exact gone_spec (by simpa using hl) hn.2 i (by simpa [hne] using hi) (fun hh => hg (by simp [goneOf, hh]))
 | j :: ids, some e :: h, hl, hn, i, hi, hg => by
  rw [List.nodup_cons] at hn
  by_cases hij : i = j
  ·subst hij
   refine ⟨e, by unfold posOf; simp, ?_⟩
   unfold goneOf at hg
   split at hg
   ·rename_i hc
    simp only [Bool.or_eq_true, beq_iff_eq] at hc
    rcases hc with (h | h) | h
    ·exact .inl h
    ·exact .inr (.inl h)
    ·exact .inr (.inr h)
   ·exact absurd (by simp) hg
  ·unfold posOf
   rw [if_neg hij, List.getElem?_cons_succ]
   refine gone_spec (by simpa using hl) hn.2 i (by simpa [hij] using hi) (fun hh => hg ?_)
   unfold goneOf
   split
   ·exact hh
   ·simp [hh]
 | [], _ :: _, hl, _, _, _, _ => by simp at hl
 | _ :: _, [], hl, _, _, _, _ => by simp at hl

theorem bxOf'_fwd {h : List (Option Ent)} (i : Nat) : bxOf' h (fwd ids i) = (h[posOf ids i]?).join := by
 unfold bxOf' fwd
 rw [if_neg (by omega), Nat.add_sub_cancel_left]

/-- What is known of a row that is where it was. -/
theorem taken_live {b b' : Nat × Nat} {e e' : Ent} {g : Nat -> Nat} (h : (e'.row = 0 \/ e'.row = 3 \/ e'.row = 4) -> Alike b e b' e') : (e'.ren g (taken (some e))).live = e'.live := by
 by_cases hr : e'.row = 3 \/ e'.row = 4
 ·have hA := h (.inr hr)
  have hr0 : e'.row ≠ 0 := by omega
  have h0 : e.row ≠ 0 := fun hh => hr0 (hA.2.1.2 hh)
  have hlen := (hA.2.2.2 h0).2
  have hE : ((elemsD e'.d).isEmpty) = ((elemsD e.d).isEmpty) := by
   cases h1 : elemsD e'.d <;> cases h2 : elemsD e.d <;> simp [h1, h2] at hlen ⊢
  rw [hA.live]
  unfold Ent.live Ent.ren taken
  have : (e'.row == 3 || e'.row == 4) = true := by simpa using hr
  simp only [this, if_true, hE]
 ·have : (e'.row == 3 || e'.row == 4) = false := by
   rw [Bool.eq_false_iff]
   intro hh
   exact hr (by simpa using hh)
  unfold Ent.live Ent.ren taken
  simp only [this, Bool.false_eq_true, if_false]

theorem taken_zero {b b' : Nat × Nat} {e e' : Ent} (h : (e'.row = 0 \/ e'.row = 3 \/ e'.row = 4) -> Alike b e b' e') : taken (some e) e'.row = 0 ↔ e'.row = 0 := by
 unfold taken
 split
 ·rename_i hr
  have hr : e'.row = 3 \/ e'.row = 4 := by simpa using hr
  have hA := h (.inr hr)
  have := hA.2.1
  exact this.symm
 ·exact Iff.rfl

theorem RelX.tabsH (R : RelX P F st ok β a w) (hc : closedB st as ids = true) : TabOn P (XOf (fun k => β (bwd ids k)) (bxOf (ids.map (entOf st ids)))) w := by
 refine R.tabs ?_
 rintro b ⟨k, e', hk, hlv, rfl⟩
 obtain ⟨_, _, e, he, rfl, hm, _⟩ := bxOf_get hc hk
 exact R.own _ e he (by rw [<- live_ren (fwd ids)]; exact hlv)
theorem RelX.afterX (R : RelX P F st ok β a w) (hc : closedB st as ids = true) {h : List (Option Ent)} (hl : h.length = ids.length) {r : AV} {v : Value} {ok1 : Nat -> Prop} {β1 : Nat -> Nat × Nat}
  (hbel : BelowX (XOf (fun k => β (bwd ids k)) (bxOf (ids.map (entOf st ids)))) w.heap.size w w') (hok1 : ∀ b, ok1 b -> b < w'.heap.size /\ (ok b \/ w.heap.size <= b \/ XOf (fun k => β (bwd ids k)) (bxOf (ids.map (entOf st ids))) b))
  (H1 : HeapOK P w' ok1 β1 (bxOf' h)) (hr : RepAV P w' ok1 β1 (bxOf' h) r v) (hrl : LiveB (bxOf' h) r)
  (hown : ∀ i e, bxOf' h i = some e -> e.live = true -> w.heap.size <= (β1 i).1 \/ XOf (fun k => β (bwd ids k)) (bxOf (ids.map (entOf st ids))) (β1 i).1)
  (hal : ∀ i e', bxOf' h i = some e' -> (e'.row = 0 \/ e'.row = 3 \/ e'.row = 4) -> ∃ e, bxOf (ids.map (entOf st ids)) i = some e /\ Alike (β (bwd ids i)) e (β1 i) e') :
  ∃ β', RelX P F (st.after ids h) (fun b => ok b \/ ok1 b) β' a w' /\ RepAV P w' (fun b => ok b \/ ok1 b) β' (st.after ids h).bx (renA (bwd ids) r) v /\ LiveB (st.after ids h).bx (renA (bwd ids) r) /\
   ∀ i f, (st.after ids h).bx i = some f -> f.live = true -> (∃ k e', bxOf' h k = some e' /\ e'.live = true /\ (β1 k).1 = (β' i).1) \/ (i ∉ ids /\ ∃ e, st.bx i = some e /\ e.live = true /\ (β i).1 = (β' i).1) := by
 have H := R.hp
 obtain ⟨hn, hargs, hids⟩ := closedB_spec hc
 -- blocks of what was handed over
 have hX : ∀ b, XOf (fun k => β (bwd ids k)) (bxOf (ids.map (entOf st ids))) b -> ∃ i e, i ∈ ids /\ st.bx i = some e /\ e.live = true /\ (β i).1 = b := by
  rintro b ⟨k, e', hk, hlv, rfl⟩
  obtain ⟨_, _, e, he, rfl, hm, _⟩ := bxOf_get hc hk
  exact ⟨bwd ids k, e, hm, he, by rw [<- live_ren (fwd ids)]; exact hlv, rfl⟩
 have hnX : ∀ b, ok b -> ¬ XOf (fun k => β (bwd ids k)) (bxOf (ids.map (entOf st ids))) b := by
  intro b hb hx
  obtain ⟨i, e, _, he, hlv, rfl⟩ := hX b hx
  exact H.sep _ i e hb he hlv rfl
 have hsame : ∀ b, ok b -> w'.heap[b]? = w.heap[b]? := fun b hb => hbel.block b (R.okb b hb).1 (hnX b hb)
 have hother : ∀ j e, j ∉ ids -> st.bx j = some e -> e.live = true -> w'.heap[(β j).1]? = w.heap[(β j).1]? := by
  intro j e hj hje hlv
  refine hbel.block _ (H.siz j e hje hlv) (fun hx => ?_)
  obtain ⟨i, f, hi, hf, hfl, heq⟩ := hX _ hx
  exact hj (H.inj i j f e hf hje hfl hlv heq ▸ hi)
 -- the new heap, by names
 have hbx : ∀ j, (st.after ids h).bx j = if j ∈ ids then (bxOf' h (fwd ids j)).map (Ent.ren (bwd ids) (taken (st.bx j))) else (st.bx j).map (Ent.mapC (killL (goneOf ids h))) := by
  intro j
  have hs := lookI_spec hl j
  show (match lookI ids h j with | some e => e.map (Ent.ren (bwd ids) (taken (st.bx j))) | none => (st.bx j).map (Ent.mapC (killL (goneOf ids h)))) = _
  by_cases hj : j ∈ ids
  ·rw [if_pos hj, hs.1 hj, bxOf'_fwd]
   have hlt : posOf ids j < h.length := by rw [hl]; exact posOf_lt hj
   rw [List.getElem?_eq_getElem hlt]
   rfl
  ·rw [if_neg hj, hs.2 hj]
 have hin : ∀ j f, j ∈ ids -> (st.after ids h).bx j = some f -> ∃ e e', st.bx j = some e /\ bxOf' h (fwd ids j) = some e' /\ f = e'.ren (bwd ids) (taken (some e)) /\ ((e'.row = 0 \/ e'.row = 3 \/ e'.row = 4) -> Alike (β j) e (β1 (fwd ids j)) e') := by
  intro j f hj hf
  rw [hbx, if_pos hj] at hf
  obtain ⟨e', he', rfl⟩ := Option.map_eq_some_iff.1 hf
  obtain ⟨e, hje, _⟩ := hids j hj
  rw [hje]
  refine ⟨e, e', rfl, he', rfl, fun hk => ?_⟩
  obtain ⟨e0, h0, hA⟩ := hal _ e' he' hk
  rw [bxOf_fwd hj hje] at h0
  cases h0
  have := hA.unhanded
  simp only [bwd_fwd hj] at this
  exact this
 have hout : ∀ j f, j ∉ ids -> (st.after ids h).bx j = some f -> ∃ e, st.bx j = some e /\ f = e.mapC (killL (goneOf ids h)) := by
  intro j f hj hf
  rw [hbx, if_neg hj] at hf
  obtain ⟨e, he, rfl⟩ := Option.map_eq_some_iff.1 hf
  exact ⟨e, he, rfl⟩
 -- addresses
 let β2 : Nat -> Nat × Nat := fun j => if j ∈ ids then β1 (fwd ids j) else β j
 have hβin : ∀ j, j ∈ ids -> β2 j = β1 (fwd ids j) := fun j hj => if_pos hj
 have hβout : ∀ j, j ∉ ids -> β2 j = β j := fun j hj => if_neg hj
 let ok2 : Nat -> Prop := fun b => ok b \/ ok1 b
 have hk1 : ∀ b, ok1 b -> ok2 b := fun b hb => .inr hb
 have hk0 : ∀ b, ok b -> ok2 b := fun b hb => .inl hb
 -- what comes from the callee
 have htr1 : ∀ u val, LiveB (bxOf' h) u -> RepAV P w' ok1 β1 (bxOf' h) u val -> RepAV P w' ok2 β2 (st.after ids h).bx (renA (bwd ids) u) val /\ LiveB (st.after ids h).bx (renA (bwd ids) u) := by
  intro u val hlu hru
  have hk : ∀ k ∈ refs u, bwd ids k ∈ ids /\ fwd ids (bwd ids k) = k := by
   intro k hk
   have := hlu k hk
   unfold bxOf' at this
   split at this
   ·cases this
   ·rename_i hlt
    have hlt2 : k - OID < ids.length := by
     rw [<- hl]
     cases hh : h[k - OID]? with
     | none => rw [hh] at this; cases this
     | some x => exact (List.getElem?_eq_some_iff.1 hh).1
    exact fwd_bwd hn (by omega) hlt2
  refine ⟨hru.ren (bwd ids) (fun _ _ => rfl) hk1 (fun k hkr f hf => ?_), fun j hj => ?_⟩
  ·obtain ⟨m1, m2⟩ := hk k hkr
   obtain ⟨e, e', _, he', rfl, hA⟩ := hin _ f m1 hf
   rw [m2] at he' hA
   refine ⟨e', he', ?_⟩
   rw [hβin _ m1, m2]
   refine ⟨rfl, taken_zero hA, fun _ => rfl, fun _ => ⟨hv_of (taken_live hA) rfl, rfl⟩⟩
  ·rw [refs_ren, List.mem_map] at hj
   obtain ⟨k, hkr, rfl⟩ := hj
   obtain ⟨m1, m2⟩ := hk k hkr
   rw [hbx, if_pos m1, m2]
   have := hlu k hkr
   simpa using this
 -- what was there and is kept
 have htr0 : ∀ u val, LiveB st.bx u -> (∀ j ∈ refs u, j ∉ goneOf ids h) -> RepAV P w ok β st.bx u val -> RepAV P w' ok2 β2 (st.after ids h).bx u val /\ LiveB (st.after ids h).bx u := by
  intro u val hlu hng hru
  refine ⟨hru.tr hsame hk0 (fun i hi f hf => ?_), fun j hj => ?_⟩
  ·by_cases hm : i ∈ ids
   ·obtain ⟨e, e', hie, he', rfl, hA⟩ := hin i f hm hf
    obtain ⟨e2, h2, hrow⟩ := gone_spec hl hn i hm (hng i hi)
    rw [bxOf'_fwd, h2] at he'
    cases he'
    have hA' := hA hrow
    refine ⟨e, hie, ?_⟩
    rw [hβin i hm]
    obtain ⟨a1, a2, a3, a4⟩ := hA'
    refine ⟨a1, (taken_zero hA).trans a2, a3, fun hr0 => ?_⟩
    obtain ⟨a5, a6⟩ := a4 hr0
    exact ⟨by rw [<- a5]; exact hv_of (taken_live hA) rfl, a6⟩
   ·obtain ⟨e, hie, rfl⟩ := hout i f hm hf
    refine ⟨e, hie, ?_⟩
    rw [hβout i hm]
    exact Alike.mapC _ _ _
  ·rw [hbx]
   split
   ·rename_i hm
    obtain ⟨e2, h2, _⟩ := gone_spec hl hn j hm (hng j hj)
    rw [bxOf'_fwd, h2]
    rfl
   ·have := hlu j hj
    simpa using this
 have hkill : ∀ u val, LiveB st.bx u -> RepAV P w ok β st.bx u val -> RepAV P w' ok2 β2 (st.after ids h).bx (killL (goneOf ids h) u) val /\ LiveB (st.after ids h).bx (killL (goneOf ids h) u) := by
  intro u val hlu hru
  rcases killL_cases (goneOf ids h) u with hd | ⟨hs, hng⟩
  ·rw [hd]; exact ⟨repAV_dz hru hsame hk0, live_of_refs (refs_dz u)⟩
  ·rw [hs]; exact htr0 u val hlu hng hru
 -- where things lie
 have hinown : ∀ j f, j ∈ ids -> (st.after ids h).bx j = some f -> f.live = true -> w.heap.size <= (β2 j).1 \/ ∃ i e, i ∈ ids /\ st.bx i = some e /\ e.live = true /\ (β i).1 = (β2 j).1 := by
  intro j f hj hf hlv
  obtain ⟨e, e', hje, he', rfl, hA⟩ := hin j f hj hf
  rw [taken_live hA] at hlv
  rw [hβin j hj]
  rcases hown _ e' he' hlv with h1 | h1
  ·exact .inl h1
  ·exact .inr (hX _ h1)
 have R' : RelX P F (st.after ids h) ok2 β2 a w' := by
  refine ⟨by simp only [St.after, List.length_map]; exact R.len, R.df, ⟨?_, ?_, ?_, ?_, ?_, ?_, ?_, ?_⟩, ?_, Nat.le_trans R.bas hbel.size, ?_, ?_, ?_, ?_, ?_⟩
  ·intro j f hf hlv
   by_cases hj : j ∈ ids
   ·obtain ⟨e, e', hje, he', rfl, hA⟩ := hin j f hj hf
    rw [taken_live hA] at hlv
    rw [hβin j hj]
    exact H1.siz _ e' he' hlv
   ·obtain ⟨e, hje, rfl⟩ := hout j f hj hf
    rw [hβout j hj]
    exact Nat.lt_of_lt_of_le (H.siz j e hje hlv) hbel.size
  ·intro b j f hb hf hlv
   by_cases hj : j ∈ ids
   ·rcases hb with hb | hb
    ·rcases hinown j f hj hf hlv with h1 | ⟨i, e, _, hie, hel, heq⟩
     ·have := (R.okb b hb).1; omega
     ·rw [<- heq]; exact H.sep b i e hb hie hel
    ·obtain ⟨e, e', hje, he', rfl, hA⟩ := hin j f hj hf
     rw [taken_live hA] at hlv
     rw [hβin j hj]
     exact H1.sep b _ e' hb he' hlv
   ·obtain ⟨e, hje, rfl⟩ := hout j f hj hf
    rw [hβout j hj]
    rcases hb with hb | hb
    ·exact H.sep b j e hb hje hlv
    ·rcases (hok1 b hb).2 with h1 | h1 | h1
     ·exact H.sep b j e h1 hje hlv
     ·have := H.siz j e hje hlv; omega
     ·obtain ⟨i, f, hi, hf, hfl, heq⟩ := hX _ h1
      intro hh
      exact hj (H.inj i j f e hf hje hfl hlv (by rw [heq, hh]) ▸ hi)
  ·have mixed : ∀ j k f g, j ∈ ids -> k ∉ ids -> (st.after ids h).bx j = some f -> (st.after ids h).bx k = some g -> f.live = true -> g.live = true -> (β2 j).1 ≠ (β2 k).1 := by
    intro j k f g hj hk hf hg hfl hgl heq
    obtain ⟨e, hke, rfl⟩ := hout k g hk hg
    rw [hβout k hk] at heq
    rcases hinown j f hj hf hfl with h1 | ⟨i, e2, hi, hie, hel, h2⟩
    ·have := H.siz k e hke hgl; omega
    ·exact hk (H.inj i k e2 e hie hke hel hgl (by rw [h2, heq]) ▸ hi)
   intro j k f g hf hg hfl hgl heq
   by_cases hj : j ∈ ids <;> by_cases hk : k ∈ ids
   ·obtain ⟨e, e', hje, he', rfl, hA⟩ := hin j f hj hf
    obtain ⟨e2, e2', hke, he2', rfl, hA2⟩ := hin k g hk hg
    rw [taken_live hA] at hfl
    rw [taken_live hA2] at hgl
    rw [hβin j hj, hβin k hk] at heq
    have := H1.inj _ _ e' e2' he' he2' hfl hgl heq
    rw [<- bwd_fwd hj, <- bwd_fwd hk, this]
   ·exact absurd heq (mixed j k f g hj hk hf hg hfl hgl)
   ·exact absurd heq.symm (mixed k j g f hk hj hg hf hgl hfl)
   ·obtain ⟨e, hje, rfl⟩ := hout j f hj hf
    obtain ⟨e2, hke, rfl⟩ := hout k g hk hg
    rw [hβout j hj, hβout k hk] at heq
    exact H.inj j k e e2 hje hke hfl hgl heq
  ·intro j f hf h0 hcc
   by_cases hj : j ∈ ids
   ·obtain ⟨e, e', hje, he', rfl, hA⟩ := hin j f hj hf
    rw [hβin j hj]
    have h0' := (taken_zero hA).1 h0
    have hc' : e'.c = none := by simpa [Ent.ren] using hcc
    obtain ⟨cs, c1, n, c2⟩ := H1.box _ e' he' h0' hc'
    exact ⟨cs, c1, n, c2.move (fun _ _ => rfl) hk1⟩
   ·obtain ⟨e, hje, rfl⟩ := hout j f hj hf
    rw [hβout j hj]
    have hc' : e.c = none := by simpa [Ent.mapC] using hcc
    obtain ⟨cs, c1, n, c2⟩ := H.box j e hje h0 hc'
    exact ⟨cs, by rw [hother j e hj hje (live_box h0)]; exact c1, n, c2.move hsame hk0⟩
  ·intro j f u hf h0 hcc
   by_cases hj : j ∈ ids
   ·obtain ⟨e, e', hje, he', rfl, hA⟩ := hin j f hj hf
    rw [hβin j hj]
    have h0' := (taken_zero hA).1 h0
    simp only [Ent.ren, Option.map_eq_some_iff] at hcc
    obtain ⟨x, hx, rfl⟩ := hcc
    obtain ⟨g1, val, g2, g3, g4⟩ := H1.con _ e' x he' h0' hx
    have ht := ren_tag (bwd ids) x
    exact ⟨g1.like ht.1 ht.2.2.1 ht.2.2.2.1, val, by rw [objC_like ht.1 ht.2.2.2.1 ht.2.1]; exact g2, fun hh => g3 (by rw [<- ht.1]; exact hh), (htr1 x val (H1.nb _ e' x he' hx) g4).1⟩
   ·obtain ⟨e, hje, rfl⟩ := hout j f hj hf
    rw [hβout j hj]
    simp only [Ent.mapC, Option.map_eq_some_iff] at hcc
    obtain ⟨x, hx, rfl⟩ := hcc
    obtain ⟨g1, val, g2, g3, g4⟩ := H.con j e x hje h0 hx
    have ht : ((killL (goneOf ids h) x).tag = 7 ↔ x.tag = 7) /\ (x.tag = 7 -> (killL (goneOf ids h) x).ty = x.ty) := by
     rcases killL_cases (goneOf ids h) x with hd | ⟨hs, _⟩
     ·rw [hd]; exact dz_tag x
     ·rw [hs]; exact ⟨Iff.rfl, fun _ => rfl⟩
    have hct : CT P e.ty (killL (goneOf ids h) x) /\ objC (killL (goneOf ids h) x) val e.ty = objC x val e.ty := by
     rcases killL_cases (goneOf ids h) x with hd | ⟨hs, _⟩
     ·rw [hd]; exact ⟨g1.dz, objC_dz _ _ _⟩
     ·rw [hs]; exact ⟨g1, rfl⟩
    exact ⟨hct.1, val, by rw [hother j e hj hje (live_box h0)]; show _ = some (objC (killL (goneOf ids h) x) val e.ty); rw [hct.2]; exact g2, fun hh => g3 (fun h7 => hh (ht.1.2 h7)), (hkill x val (H.nb j e x hje hx) g4).1⟩
  ·intro j f hf h0
   by_cases hj : j ∈ ids
   ·obtain ⟨e, e', hje, he', rfl, hA⟩ := hin j f hj hf
    rw [hβin j hj]
    have h0' : e'.row ≠ 0 := fun hh => h0 ((taken_zero hA).2 hh)
    exact ((H1.row _ e' he' h0').move (fun _ => rfl) (fun _ _ => rfl) hk1).like rfl rfl (taken_live hA)
   ·obtain ⟨e, hje, rfl⟩ := hout j f hj hf
    rw [hβout j hj]
    exact (H.row j e hje h0).move (hother j e hj hje) hsame hk0
  ·intro j f u hf hcc
   by_cases hj : j ∈ ids
   ·obtain ⟨e, e', hje, he', rfl, hA⟩ := hin j f hj hf
    simp only [Ent.ren, Option.map_eq_some_iff] at hcc
    obtain ⟨x, hx, rfl⟩ := hcc
    have hlx := H1.nb _ e' x he' hx
    by_cases h0 : e'.row = 0
    ·obtain ⟨_, val, _, _, g4⟩ := H1.con _ e' x he' h0 hx
     exact (htr1 x val hlx g4).2
    ·have := H1.rc _ e' he' h0
     rw [hx] at this
     cases this
   ·obtain ⟨e, hje, rfl⟩ := hout j f hj hf
    simp only [Ent.mapC, Option.map_eq_some_iff] at hcc
    obtain ⟨x, hx, rfl⟩ := hcc
    by_cases h0 : e.row = 0
    ·obtain ⟨_, val, _, _, g4⟩ := H.con j e x hje h0 hx
     exact (hkill x val (H.nb j e x hje hx) g4).2
    ·have := H.rc j e hje h0
     rw [hx] at this
     cases this
  ·intro j f hf h0
   by_cases hj : j ∈ ids
   ·obtain ⟨e, e', hje, he', rfl, hA⟩ := hin j f hj hf
    have h0' : e'.row ≠ 0 := fun hh => h0 ((taken_zero hA).2 hh)
    simp [Ent.ren, H1.rc _ e' he' h0']
   ·obtain ⟨e, hje, rfl⟩ := hout j f hj hf
    have := H.rc j e hje h0
    simp [Ent.mapC, this]
  ·refine R.bel.trans ⟨hbel.os, hbel.tape, hbel.output, hbel.size, fun k hk hX' => hbel.block k (Nat.lt_of_lt_of_le hk R.bas) (fun hx => ?_)⟩
   obtain ⟨i, e, _, hie, hel, rfl⟩ := hX _ hx
   rcases R.own i e hie hel with h1 | h1
   ·omega
   ·exact hX' h1
  ·intro b hb
   rcases hb with hb | hb
   ·exact ⟨Nat.lt_of_lt_of_le (R.okb b hb).1 hbel.size, (R.okb b hb).2⟩
   ·refine ⟨(hok1 b hb).1, ?_⟩
    rcases (hok1 b hb).2 with h1 | h1 | h1
    ·exact (R.okb b h1).2
    ·exact .inr (.inl (Nat.le_trans R.bas h1))
    ·obtain ⟨i, e, _, hie, hel, rfl⟩ := hX _ h1
     exact .inr (R.own i e hie hel)
  ·intro j f hf hlv
   by_cases hj : j ∈ ids
   ·rcases hinown j f hj hf hlv with h1 | ⟨i, e, _, hie, hel, heq⟩
    ·exact .inl (Nat.le_trans R.bas h1)
    ·rw [<- heq]; exact R.own i e hie hel
   ·obtain ⟨e, hje, rfl⟩ := hout j f hj hf
    rw [hβout j hj]
    exact R.own j e hje hlv
  ·intro j f hf hcond
   by_cases hj : j ∈ ids
   ·obtain ⟨e, e', hje, he', rfl, hA⟩ := hin j f hj hf
    rw [hβin j hj]
    have hrow : e'.row = 0 \/ e'.row = 3 \/ e'.row = 4 := by
     by_cases h34 : e'.row = 3 \/ e'.row = 4
     ·exact .inr h34
     ·have ht : taken (some e) e'.row = e'.row := by
       unfold taken
       have : (e'.row == 3 || e'.row == 4) = false := by
        rw [Bool.eq_false_iff]; intro hh; exact h34 (by simpa using hh)
       rw [this]
       rfl
      have hcond' : (OID <= j /\ e'.row = 0) \/ e'.row = 3 \/ e'.row = 4 := by
       simpa only [Ent.ren, ht] using hcond
      rcases hcond' with h1 | h1 | h1
      ·exact .inl h1.2
      ·exact .inr (.inl h1)
      ·exact .inr (.inr h1)
    have hA' := hA hrow
    have hz := taken_zero hA
    have hcond0 : (OID <= j /\ e.row = 0) \/ e.row = 3 \/ e.row = 4 := by
     by_cases h34 : e'.row = 3 \/ e'.row = 4
     ·have ht : taken (some e) e'.row = e.row := by
       unfold taken
       have : (e'.row == 3 || e'.row == 4) = true := by simpa using h34
       rw [this]
       rfl
      simpa only [Ent.ren, ht] using hcond
     ·have h0 : e'.row = 0 := by
       rcases hrow with h1 | h1 | h1
       ·exact h1
       ·exact absurd (.inl h1) h34
       ·exact absurd (.inr h1) h34
      have h00 : (e'.ren (bwd ids) (taken (some e))).row = 0 := hz.2 h0
      rcases hcond with h1 | h1 | h1
      ·exact .inl ⟨h1.1, hA'.2.1.1 h0⟩
      ·rw [h00] at h1; cases h1
      ·rw [h00] at h1; cases h1
    have hh := R.hdr j e hje hcond0
    refine ⟨?_, by rw [<- hh.2]; exact hA'.1⟩
    rw [<- hh.1]
    unfold hval
    by_cases h0 : e.row = 0
    ·have hz0 : (e'.ren (bwd ids) (taken (some e))).row = 0 := hz.2 (hA'.2.1.2 h0)
     rw [if_pos h0, if_pos hz0, hA'.2.2.1 (live_box h0)]
    ·have hz0 : ¬ (e'.ren (bwd ids) (taken (some e))).row = 0 := fun h => h0 (hA'.2.1.1 (hz.1 h))
     rw [if_neg h0, if_neg hz0, <- (hA'.2.2.2 h0).1]
     exact hv_of (taken_live hA) rfl
   ·obtain ⟨e, hje, rfl⟩ := hout j f hj hf
    rw [hβout j hj]
    exact R.hdr j e hje hcond
  ·intro i
   have hg : (st.after ids h).get i = killL (goneOf ids h) (st.get i) := map_get _ (killL_dead _) i
   rw [hg]
   exact (hkill _ _ (R.nd i) (R.slot i)).1
  ·intro i
   have hg : (st.after ids h).get i = killL (goneOf ids h) (st.get i) := map_get _ (killL_dead _) i
   rw [hg]
   exact (hkill _ _ (R.nd i) (R.slot i)).2
 refine ⟨β2, R', (htr1 r v hrl hr).1, (htr1 r v hrl hr).2, fun i f hf hlv => ?_⟩
 by_cases hi : i ∈ ids
 ·obtain ⟨e, e', hie, he', rfl, hA⟩ := hin i f hi hf
  rw [taken_live hA] at hlv
  exact .inl ⟨fwd ids i, e', he', hlv, by rw [hβin i hi]⟩
 ·obtain ⟨e, hie, rfl⟩ := hout i f hi hf
  exact .inr ⟨hi, e, hie, hlv, by rw [hβout i hi]⟩

theorem RelX.after (R : RelX P F st ok β a w) (hc : closedB st as ids = true) {h : List (Option Ent)} (hl : h.length = ids.length) {r : AV} {e : Ending}
  (hp : HPost P (ids.map (entOf st ids)) r h w ok (fun k => β (bwd ids k)) e w') :
  ∃ v ok' β', e = .returned v /\ RelX P F (st.after ids h) ok' β' a w' /\ RepAV P w' ok' β' (st.after ids h).bx (renA (bwd ids) r) v /\ LiveB (st.after ids h).bx (renA (bwd ids) r) := by
 obtain ⟨v, ok1, β1, he, hbel, hok1, H1, hr, hrl, hown, hal⟩ := hp
 obtain ⟨β', h1, h2, h3, _⟩ := R.afterX hc hl hbel hok1 H1 hr hrl hown hal
 exact ⟨v, _, β', he, h1, h2, h3⟩

end
end
section
section
variable {P : Program} {w w' : World} {ok ok' : Nat -> Prop} {β β' : Nat -> Nat × Nat} {bx bx' : Nat -> Option Ent}
variable {F : Fr P} {st st' : St} {a : Act} {env : Env} {o : Oper} {Q : Exit -> Act -> World -> Prop}

theorem bornIds_get {d m k : Nat} (h : k < m) : (bornIds d m)[k]? = some (d + (k + 1) * RID) := by
 unfold bornIds
 rw [List.getElem?_map, List.getElem?_range h]
 rfl
theorem bornIds_len (d m : Nat) : (bornIds d m).length = m := by simp [bornIds]
theorem bornIds_nodup (d m : Nat) : (bornIds d m).Nodup := by
 unfold bornIds
 refine List.Pairwise.map _ (fun a b h => ?_) List.nodup_range
 intro hh
 apply h
 have : (a + 1) * RID = (b + 1) * RID := by omega
 have := Nat.eq_of_mul_eq_mul_right (by decide) this
 omega

theorem unhand_zero (r : Nat) : unhand r = 0 ↔ r = 0 := by
 unfold unhand
 by_cases h1 : r = 3
 ·simp [h1]
 ·by_cases h2 : r = 4
  ·simp [h2]
  ·simp [h1, h2]
theorem unhand_ne (r : Nat) : unhand r ≠ 3 /\ unhand r ≠ 4 := by
 unfold unhand
 by_cases h1 : r = 3
 ·simp [h1]
 ·by_cases h2 : r = 4
  ·simp [h2]
  ·simp [h1, h2]
theorem live_unhand (g : Nat -> Nat) (e : Ent) : (e.ren g unhand).live = e.live := by
 unfold Ent.live Ent.ren unhand
 by_cases h1 : e.row = 3
 ·simp [h1]
 ·by_cases h2 : e.row = 4
  ·simp [h2]
  ·simp [h1, h2]

theorem born_bx (st : St) (d : Nat) (es : List Ent) (j : Nat) : (st.born d es).bx j = if j ∈ bornIds d es.length then (bxOf es (fwd (bornIds d es.length) j)).map (Ent.ren (bwd (bornIds d es.length)) unhand) else st.bx j := by
 have hl : (es.map some).length = (bornIds d es.length).length := by rw [bornIds_len]; simp
 have hs := lookI_spec hl j
 show (match lookI (bornIds d es.length) (es.map some) j with | some (some e) => some (e.ren (bwd (bornIds d es.length)) unhand) | _ => st.bx j) = _
 by_cases hj : j ∈ bornIds d es.length
 ·rw [if_pos hj, hs.1 hj]
  have hlt := posOf_lt hj
  rw [bornIds_len] at hlt
  unfold bxOf fwd
  rw [if_neg (by omega), Nat.add_sub_cancel_left, List.getElem?_map, List.getElem?_eq_getElem hlt]
  rfl
 ·rw [if_neg hj, hs.2 hj]

theorem alike_unhand (b : Nat × Nat) (e : Ent) (g : Nat -> Nat) : Alike b e b (e.ren g unhand) :=
 ⟨rfl, unhand_zero _, fun _ => rfl, fun _ => ⟨hv_of (live_unhand g e) rfl, rfl⟩⟩

/-- Boxes and rows that a call made. -/
theorem RelX.born (R : RelX P F st ok β a w) {d : Nat} {es : List Ent} {ok1 : Nat -> Prop} {β1 : Nat -> Nat × Nat} (hfree : ∀ i ∈ bornIds d es.length, st.bx i = none) (hd : d < RID) (hm : es.length <= 7)
  (hb : Below w.heap.size w w') (hok1 : ∀ b, ok1 b -> b < w'.heap.size /\ (ok b \/ w.heap.size <= b)) (H1 : HeapOK P w' ok1 β1 (bxOf es)) (hown : ∀ i e, bxOf es i = some e -> e.live = true -> w.heap.size <= (β1 i).1) :
  ∃ ok' β', RelX P F (st.born d es) ok' β' a w' /\ ∀ u val, LiveB (bxOf es) u -> RepAV P w' ok1 β1 (bxOf es) u val ->
   RepAV P w' ok' β' (st.born d es).bx (renA (bwd (bornIds d es.length)) u) val /\ LiveB (st.born d es).bx (renA (bwd (bornIds d es.length)) u) := by
 have H := R.hp
 have hn := bornIds_nodup d es.length
 have hlen := bornIds_len d es.length
 have hbx := born_bx st d es
 generalize hids : bornIds d es.length = ids at *
 have hsame : ∀ b, ok b -> w'.heap[b]? = w.heap[b]? := fun b h => hb.block b (R.okb b h).1
 have hlow : ∀ i ∈ ids, i < OID := by
  intro i hi
  rw [<- hids] at hi
  unfold bornIds at hi
  rw [List.mem_map] at hi
  obtain ⟨k, hk, rfl⟩ := hi
  have hk := List.mem_range.1 hk
  have : (k + 1) * RID <= 7 * RID := Nat.mul_le_mul_right _ (by omega)
  have h1 : RID = 100000 := rfl
  have h2 : OID = 1000000 := rfl
  omega
 have hbxOf : ∀ k e, bxOf es k = some e -> OID <= k /\ k - OID < es.length := by
  intro k e h
  unfold bxOf at h
  split at h
  ·cases h
  ·exact ⟨by omega, (List.getElem?_eq_some_iff.1 h).1⟩
 let β2 : Nat -> Nat × Nat := fun j => if j ∈ ids then β1 (fwd ids j) else β j
 have hβin : ∀ j, j ∈ ids -> β2 j = β1 (fwd ids j) := fun j hj => if_pos hj
 have hβout : ∀ j, j ∉ ids -> β2 j = β j := fun j hj => if_neg hj
 let ok2 : Nat -> Prop := fun b => ok b \/ ok1 b
 have hk1 : ∀ b, ok1 b -> ok2 b := fun b hb => .inr hb
 have hk0 : ∀ b, ok b -> ok2 b := fun b hb => .inl hb
 have hin : ∀ j f, j ∈ ids -> (st.born d es).bx j = some f -> ∃ e, bxOf es (fwd ids j) = some e /\ f = e.ren (bwd ids) unhand := by
  intro j f hj hf
  rw [hbx, if_pos hj] at hf
  obtain ⟨e, he, rfl⟩ := Option.map_eq_some_iff.1 hf
  exact ⟨e, he, rfl⟩
 have hout : ∀ j f, j ∉ ids -> (st.born d es).bx j = some f -> st.bx j = some f := by
  intro j f hj hf
  rwa [hbx, if_neg hj] at hf
 have htr1 : ∀ u val, LiveB (bxOf es) u -> RepAV P w' ok1 β1 (bxOf es) u val -> RepAV P w' ok2 β2 (st.born d es).bx (renA (bwd ids) u) val /\ LiveB (st.born d es).bx (renA (bwd ids) u) := by
  intro u val hlu hru
  have hk : ∀ k ∈ refs u, bwd ids k ∈ ids /\ fwd ids (bwd ids k) = k := by
   intro k hk
   obtain ⟨e, he⟩ := Option.isSome_iff_exists.1 (hlu k hk)
   obtain ⟨h1, h2⟩ := hbxOf k e he
   exact fwd_bwd hn h1 (by rw [hlen]; exact h2)
  refine ⟨hru.ren (bwd ids) (fun _ _ => rfl) hk1 (fun k hkr f hf => ?_), fun j hj => ?_⟩
  ·obtain ⟨m1, m2⟩ := hk k hkr
   obtain ⟨e, he, rfl⟩ := hin _ f m1 hf
   rw [m2] at he
   refine ⟨e, he, ?_⟩
   rw [hβin _ m1, m2]
   exact alike_unhand _ _ _
  ·rw [refs_ren, List.mem_map] at hj
   obtain ⟨k, hkr, rfl⟩ := hj
   obtain ⟨m1, m2⟩ := hk k hkr
   rw [hbx, if_pos m1, m2]
   have := hlu k hkr
   simpa using this
 have hnot : ∀ u, LiveB st.bx u -> ∀ i ∈ refs u, i ∉ ids := by
  intro u hl i hi hm
  have := hl i hi
  rw [hfree i hm] at this
  cases this
 have htr0 : ∀ u val, LiveB st.bx u -> RepAV P w ok β st.bx u val -> RepAV P w' ok2 β2 (st.born d es).bx u val := by
  intro u val hlu hru
  refine hru.tr hsame hk0 (fun i hi f hf => ?_)
  have hni := hnot u hlu i hi
  exact ⟨f, hout i f hni hf, by rw [hβout i hni]; exact Alike.refl _ _⟩
 have hlv0 : ∀ u, LiveB st.bx u -> LiveB (st.born d es).bx u := by
  intro u hl i hi
  rw [hbx, if_neg (hnot u hl i hi)]
  exact hl i hi
 refine ⟨ok2, β2, ⟨R.len, R.df, ⟨?_, ?_, ?_, ?_, ?_, ?_, ?_, ?_⟩, R.bel.trans (.of (hb.mono R.bas)), Nat.le_trans R.bas hb.size, ?_, ?_, ?_, ?_, ?_⟩, htr1⟩
 ·intro j f hf hl
  by_cases hj : j ∈ ids
  ·obtain ⟨e, he, rfl⟩ := hin j f hj hf
   rw [live_unhand] at hl
   rw [hβin j hj]
   exact H1.siz _ e he hl
  ·rw [hβout j hj]
   exact Nat.lt_of_lt_of_le (H.siz j f (hout j f hj hf) hl) hb.size
 ·intro b j f hbk hf hl
  by_cases hj : j ∈ ids
  ·obtain ⟨e, he, rfl⟩ := hin j f hj hf
   rw [live_unhand] at hl
   rw [hβin j hj]
   rcases hbk with hbk | hbk
   ·have h1 := (R.okb b hbk).1
    have h2 := hown _ e he hl
    omega
   ·exact H1.sep b _ e hbk he hl
  ·have hf' := hout j f hj hf
   rw [hβout j hj]
   rcases hbk with hbk | hbk
   ·exact H.sep b j f hbk hf' hl
   ·rcases (hok1 b hbk).2 with h1 | h1
    ·exact H.sep b j f h1 hf' hl
    ·have := H.siz j f hf' hl; omega
 ·intro j k f g hf hg hfl hgl heq
  by_cases hj : j ∈ ids <;> by_cases hk : k ∈ ids
  ·obtain ⟨e, he, rfl⟩ := hin j f hj hf
   obtain ⟨e2, he2, rfl⟩ := hin k g hk hg
   rw [live_unhand] at hfl hgl
   rw [hβin j hj, hβin k hk] at heq
   have := H1.inj _ _ e e2 he he2 hfl hgl heq
   rw [<- bwd_fwd hj, <- bwd_fwd hk, this]
  ·obtain ⟨e, he, rfl⟩ := hin j f hj hf
   rw [live_unhand] at hfl
   rw [hβin j hj, hβout k hk] at heq
   have h1 := hown _ e he hfl
   have h2 := H.siz k g (hout k g hk hg) hgl
   omega
  ·obtain ⟨e, he, rfl⟩ := hin k g hk hg
   rw [live_unhand] at hgl
   rw [hβin k hk, hβout j hj] at heq
   have h1 := hown _ e he hgl
   have h2 := H.siz j f (hout j f hj hf) hfl
   omega
  ·rw [hβout j hj, hβout k hk] at heq
   exact H.inj j k f g (hout j f hj hf) (hout k g hk hg) hfl hgl heq
 ·intro j f hf h0 hcc
  by_cases hj : j ∈ ids
  ·obtain ⟨e, he, rfl⟩ := hin j f hj hf
   rw [hβin j hj]
   obtain ⟨cs, c1, n, c2⟩ := H1.box _ e he ((unhand_zero _).1 h0) (by simpa [Ent.ren] using hcc)
   exact ⟨cs, c1, n, c2.move (fun _ _ => rfl) hk1⟩
  ·have hf' := hout j f hj hf
   rw [hβout j hj]
   obtain ⟨cs, c1, n, c2⟩ := H.box j f hf' h0 hcc
   exact ⟨cs, by rw [hb.block _ (H.siz j f hf' (live_box h0))]; exact c1, n, c2.move hsame hk0⟩
 ·intro j f u hf h0 hcc
  by_cases hj : j ∈ ids
  ·obtain ⟨e, he, rfl⟩ := hin j f hj hf
   rw [hβin j hj]
   simp only [Ent.ren, Option.map_eq_some_iff] at hcc
   obtain ⟨x, hx, rfl⟩ := hcc
   obtain ⟨g1, val, g2, g3, g4⟩ := H1.con _ e x he ((unhand_zero _).1 h0) hx
   have ht := ren_tag (bwd ids) x
   exact ⟨g1.like ht.1 ht.2.2.1 ht.2.2.2.1, val, by rw [objC_like ht.1 ht.2.2.2.1 ht.2.1]; exact g2, fun hh => g3 (by rw [<- ht.1]; exact hh), (htr1 x val (H1.nb _ e x he hx) g4).1⟩
  ·have hf' := hout j f hj hf
   rw [hβout j hj]
   obtain ⟨g1, val, g2, g3, g4⟩ := H.con j f u hf' h0 hcc
   exact ⟨g1, val, by rw [hb.block _ (H.siz j f hf' (live_box h0))]; exact g2, g3, htr0 u val (H.nb j f u hf' hcc) g4⟩
 ·intro j f hf h0
  by_cases hj : j ∈ ids
  ·obtain ⟨e, he, rfl⟩ := hin j f hj hf
   rw [hβin j hj]
   have h0' : e.row ≠ 0 := fun hh => h0 ((unhand_zero _).2 hh)
   exact ((H1.row _ e he h0').move (fun _ => rfl) (fun _ _ => rfl) hk1).like rfl rfl (live_unhand _ _)
  ·have hf' := hout j f hj hf
   rw [hβout j hj]
   exact (H.row j f hf' h0).move (fun hl => hb.block _ (H.siz j f hf' hl)) hsame hk0
 ·intro j f u hf hcc
  by_cases hj : j ∈ ids
  ·obtain ⟨e, he, rfl⟩ := hin j f hj hf
   simp only [Ent.ren, Option.map_eq_some_iff] at hcc
   obtain ⟨x, hx, rfl⟩ := hcc
   have hlx := H1.nb _ e x he hx
   intro i hi
   rw [refs_ren, List.mem_map] at hi
   obtain ⟨k, hkr, rfl⟩ := hi
   obtain ⟨e2, he2⟩ := Option.isSome_iff_exists.1 (hlx k hkr)
   obtain ⟨h1, h2⟩ := hbxOf k e2 he2
   obtain ⟨m1, m2⟩ := fwd_bwd hn h1 (by rw [hlen]; exact h2)
   rw [hbx, if_pos m1, m2, he2]
   rfl
  ·exact hlv0 u (H.nb j f u (hout j f hj hf) hcc)
 ·intro j f hf h0
  by_cases hj : j ∈ ids
  ·obtain ⟨e, he, rfl⟩ := hin j f hj hf
   have h0' : e.row ≠ 0 := fun hh => h0 ((unhand_zero _).2 hh)
   simp [Ent.ren, H1.rc _ e he h0']
  ·exact H.rc j f (hout j f hj hf) h0
 ·intro b hbk
  rcases hbk with hbk | hbk
  ·exact ⟨Nat.lt_of_lt_of_le (R.okb b hbk).1 hb.size, (R.okb b hbk).2⟩
  ·refine ⟨(hok1 b hbk).1, ?_⟩
   rcases (hok1 b hbk).2 with h1 | h1
   ·exact (R.okb b h1).2
   ·exact .inr (.inl (Nat.le_trans R.bas h1))
 ·intro j f hf hl
  by_cases hj : j ∈ ids
  ·obtain ⟨e, he, rfl⟩ := hin j f hj hf
   rw [live_unhand] at hl
   rw [hβin j hj]
   exact .inl (Nat.le_trans R.bas (hown _ e he hl))
  ·rw [hβout j hj]
   exact R.own j f (hout j f hj hf) hl
 ·intro j f hf hcase
  by_cases hj : j ∈ ids
  ·obtain ⟨e, he, rfl⟩ := hin j f hj hf
   have hl := hlow j hj
   have hu := unhand_ne e.row
   rcases hcase with h | h | h
   ·omega
   ·exact absurd h hu.1
   ·exact absurd h hu.2
  ·rw [hβout j hj]
   exact R.hdr j f (hout j f hj hf) hcase
 ·intro i
  exact htr0 _ _ (R.nd i) (R.slot i)
 ·intro i
  exact hlv0 _ (R.nd i)

theorem bornCall_sound (henv : EnvOK P env) (R : RelX P F st ok β a w) {c : Call} (hop : o.op = .call c) (hnn : appNil c = none) (hna : appOf c = none) (hnh : heapF P env st c = none) (hro : roSlot st c = none) (hfr : freshF env c = none)
  (hc : chkOp P env st o = true) (h : bornCall P env o st c = some st') : o.wp P a w (fun a' w' => ∃ ok' β', RelX P F st' ok' β' a' w') Q := by
 unfold bornCall at h
 split at h
 ·rename_i t pre FF as d hbf has hd
  split at h
  ·rename_i hcond
   simp only [Bool.and_eq_true, beq_iff_eq, decide_eq_true_eq] at hcond
   obtain ⟨hty, hlt⟩ := hcond
   split at h
   ·rename_i r es hF
    split at h
    ·rename_i hk
     simp only [Bool.and_eq_true, List.all_eq_true, decide_eq_true_eq] at hk
     cases h
     have hpre : pre as = true := by
      simpa only [chkOp, hop, hnn, hna, hnh, hro, hfr, hbf, has] using hc
     obtain ⟨f, hcal, hfe⟩ : ∃ f, c.callee = .value (.func f) /\ env.g f = some (t, pre, FF) := by
      unfold bornF at hbf
      split at hbf
      ·rename_i f hcal; exact ⟨f, hcal, hbf⟩
      ·cases hbf
     have hkc := henv.g f t pre FF as r es hfe hpre hF
     obtain ⟨fn, cd, hfn, hbody, hname⟩ := hkc.fn
     have hx : (execOp a.eval o).run P w = .ok (.enter f (c.args.toList.map a.eval).toArray) w := by
      unfold execOp
      have hev : a.eval (.func f) = .func (.func f) #[] #[] := rfl
      simp only [hop, resolve, hcal, hev, Deferred.ofValue, Sem.run_bind, Sem.run_pure, Result.andThen_ok, invoke]
      have e : (#[] ++ c.args.map a.eval ++ #[] : Array Value) = (c.args.toList.map a.eval).toArray := by
       apply Array.ext'; simp
      rw [e]
      have h1 : fn.name ≠ "runtime.NumGoroutine" := by simpa using hname
      simp [callFunc, hfn, h1, hbody]
     unfold Oper.wp
     rw [hx]
     refine (hkc.call w ok (c.args.toList.map a.eval) R.tabs0 (fun b hb => (R.okb b hb).1) (argsOf_rep R _ _ _ has)).mono ?_
     rintro e w' ⟨v, ok1, β1, rfl, hb, hok1, H1, hr, hrl, hown⟩
     obtain ⟨ok2, β2, R2, htr⟩ := R.born (d := d) (es := es) (fun i hi => by simpa using hk.1.1 i hi) hlt hk.1.2 hb hok1 H1 hown
     obtain ⟨hr2, hl2⟩ := htr r v hrl hr
     refine ⟨ok2, β2, ?_⟩
     rw [hd]
     exact R2.put hr2 hl2 (some d)
    ·cases h
   ·cases h
  ·cases h
 ·cases h

end
end
end Go.Ev
