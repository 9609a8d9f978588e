/- Trees of functions, and lemmas. Nothing here is trusted. -/
import Derived.Test.YtngkmngbnlmgjaaZ13
namespace Go.Ev
open Go.RowKit
set_option linter.unusedVariables false
set_option linter.unusedSimpArgs false
section
variable {P : Program} {w w' : World} {ok ok' : Nat -> Prop} {β : Nat -> Nat × Nat} {ops : Array Oper}
variable {F : Fr P} {st st' s s' s1 s2 s12 : St} {a : Act} {env : Env} {o oi oj : Oper} {av r : AV} {ρ : Type} {rr : ρ} {Q : Exit -> Act -> World -> Prop}

theorem know_self {c : Nat} {b : Bool} (h : boolOf P (st.get c) = some b) : st.know c b = st := by
 obtain ⟨_, _, hd⟩ := boolOf_spec h
 unfold St.know
 have : ({ st.get c with d := .lit (.bool b) } : AV) = st.get c := by rw [<- hd]
 rw [this]
 unfold St.put St.get
 simp only
 by_cases hc : c < st.sl.length
 ·simp [List.getD, hc]
 ·have e : st.sl.set c (st.sl.getD c dead) = st.sl := List.set_eq_of_length_le (by omega)
  rw [e]

theorem evOne_run {K : St -> Option ρ} (h : evOne P env o st K = some rr) : ∃ s', chkOp P env st o = true /\ evOp P env o st = some s' /\ K s' = some rr := by
 unfold evOne at h
 split at h
 ·rename_i c x y hop
  cases hb : boolOf P (st.get c) with
  | none => rw [hb] at h; cases h
  | some t =>
   rw [hb] at h
   simp only at h
   have hchk : chkOp P env st o = true := by unfold chkOp; rw [hop]
   cases t with
   | true =>
    rw [cond_true, know_self hb] at h
    refine ⟨_, hchk, ?_, h⟩
    have hb' : boolOf P (opd0 P st o (.tmp c)) = some true := hb
    unfold evOp
    simp only [hop, evVal, hb', Option.map_some, if_true]
   | false =>
    rw [cond_false, know_self hb] at h
    refine ⟨_, hchk, ?_, h⟩
    have hb' : boolOf P (opd0 P st o (.tmp c)) = some false := hb
    unfold evOp
    simp only [hop, evVal, hb', Option.map_some, Bool.false_eq_true, if_false]
 ·cases hc : chkOp P env st o with
  | true => rw [hc, cond_true] at h; obtain ⟨s', h1, h2⟩ := Option.bind_eq_some_iff.1 h; exact ⟨s', rfl, h1, h2⟩
  | false => rw [hc, cond_false] at h; cases h
 ·cases hc : chkOp P env st o with
  | true => rw [hc, cond_true] at h; obtain ⟨s', h1, h2⟩ := Option.bind_eq_some_iff.1 h; exact ⟨s', rfl, h1, h2⟩
  | false => rw [hc, cond_false] at h; cases h
 ·cases hc : chkOp P env st o with
  | true => rw [hc, cond_true] at h; obtain ⟨s', h1, h2⟩ := Option.bind_eq_some_iff.1 h; exact ⟨s', rfl, h1, h2⟩
  | false => rw [hc, cond_false] at h; cases h
 ·cases hc : chkOp P env st o with
  | true => rw [hc, cond_true] at h; obtain ⟨s', h1, h2⟩ := Option.bind_eq_some_iff.1 h; exact ⟨s', rfl, h1, h2⟩
  | false => rw [hc, cond_false] at h; cases h
 ·cases hc : chkOp P env st o with
  | true => rw [hc, cond_true] at h; obtain ⟨s', h1, h2⟩ := Option.bind_eq_some_iff.1 h; exact ⟨s', rfl, h1, h2⟩
  | false => rw [hc, cond_false] at h; cases h
 ·rename_i i hop
  cases hit : itAt st i with
  | none => rw [hit] at h; cases h
  | some q =>
   obtain ⟨s, p⟩ := q
   rw [hit] at h
   simp only at h
   have hchk : chkOp P env st o = true := by unfold chkOp; rw [hop]
   split at h
   ·rename_i hrt
    cases hd : decide (p < s.length) with
    | true =>
     rw [hd, cond_true] at h
     refine ⟨_, hchk, ?_, h⟩
     unfold evOp
     simp only [hop, hit, hrt, hd, if_true]
    | false =>
     rw [hd, cond_false] at h
     refine ⟨_, hchk, ?_, h⟩
     unfold evOp
     simp only [hop, hit, hrt, hd, if_true, Bool.false_eq_true, if_false]
   ·cases h
 ·cases hc : chkOp P env st o with
  | true => rw [hc, cond_true] at h; obtain ⟨s', h1, h2⟩ := Option.bind_eq_some_iff.1 h; exact ⟨s', rfl, h1, h2⟩
  | false => rw [hc, cond_false] at h; cases h
 ·cases hc : chkOp P env st o with
  | true => rw [hc, cond_true] at h; obtain ⟨s', h1, h2⟩ := Option.bind_eq_some_iff.1 h; exact ⟨s', rfl, h1, h2⟩
  | false => rw [hc, cond_false] at h; cases h
 ·cases hc : chkOp P env st o with
  | true => rw [hc, cond_true] at h; obtain ⟨s', h1, h2⟩ := Option.bind_eq_some_iff.1 h; exact ⟨s', rfl, h1, h2⟩
  | false => rw [hc, cond_false] at h; cases h
 ·cases hc : chkOp P env st o with
  | true => rw [hc, cond_true] at h; obtain ⟨s', h1, h2⟩ := Option.bind_eq_some_iff.1 h; exact ⟨s', rfl, h1, h2⟩
  | false => rw [hc, cond_false] at h; cases h
 ·cases hc : chkOp P env st o with
  | true => rw [hc, cond_true] at h; obtain ⟨s', h1, h2⟩ := Option.bind_eq_some_iff.1 h; exact ⟨s', rfl, h1, h2⟩
  | false => rw [hc, cond_false] at h; cases h
 ·rename_i n1 n2 n3 n4 n5 n6 n7 n8 n9 n10 n11 n12
  obtain ⟨s', h1, h2⟩ := Option.bind_eq_some_iff.1 h
  refine ⟨s', ?_, h1, h2⟩
  unfold chkOp
  split
  ·rename_i hop; exact (n2 _ _ _ _ hop).elim
  ·rename_i hop; exact (n3 _ _ _ _ hop).elim
  ·rename_i hop; exact (n4 _ _ _ _ hop).elim
  ·rename_i hop; exact (n5 _ _ _ _ hop).elim
  ·rename_i hop; exact (n9 _ _ _ hop).elim
  ·rename_i hop; exact (n11 _ _ _ hop).elim
  ·rename_i hop; exact (n8 _ _ _ _ _ hop).elim
  ·rename_i hop; exact (n10 _ _ _ hop).elim
  ·rename_i hop; exact (n6 _ _ _ _ hop).elim
  ·rename_i hop; exact (n12 _ hop).elim
  ·rfl

theorem evOps_run : ∀ (l : List Oper) (st : St) (K : St -> Option ρ), evOps P env ops l st K = some rr -> ∃ s', runOps P env ops l st = some s' /\ K s' = some rr
 | [], st, K, h => ⟨st, rfl, h⟩
 | o :: l, st, K, h => by
  unfold evOps at h
  cases hg : o.guard with
  | none =>
   rw [hg] at h
   simp only at h
   obtain ⟨s1, hc, he, hk⟩ := evOne_run h
   obtain ⟨s', h1, h2⟩ := evOps_run l s1 K hk
   refine ⟨s', ?_, h2⟩
   simp only [runOps, opStep_mk (ops := ops) (by unfold asked; rw [hg]) hc he, Option.bind_some, h1]
  | some g =>
   obtain ⟨j, want⟩ := g
   rw [hg] at h
   simp only at h
   cases hd : (ops[j]?).bind (·.dst) with
   | none => rw [hd] at h; cases h
   | some g =>
    rw [hd] at h
    simp only at h
    split at h
    ·rename_i h9
     obtain ⟨s', h1, h2⟩ := evOps_run l _ K h
     refine ⟨s', ?_, h2⟩
     have ha : asked P ops o st = some false := by unfold asked guardOf; rw [hg]; simp only [hd, h9, if_true]
     simp only [runOps, opStep_skip ha, Option.bind_some, h1]
    ·rename_i h9
     cases hb : boolOf P (st.get g) with
     | none => rw [hb] at h; cases h
     | some b =>
      rw [hb] at h
      simp only at h
      have ha : asked P ops o st = some (b == want) := by unfold asked guardOf; rw [hg]; simp only [hd, h9, if_false, hb, Option.map_some]
      cases hbw : (b == want) with
      | true =>
       rw [hbw, cond_true] at h
       have e : b = want := by simpa using hbw
       subst e
       rw [know_self hb] at h
       obtain ⟨s1, hc, he, hk⟩ := evOne_run h
       obtain ⟨s', h1, h2⟩ := evOps_run l s1 K hk
       refine ⟨s', ?_, h2⟩
       rw [hbw] at ha
       simp only [runOps, opStep_mk ha hc he, Option.bind_some, h1]
      | false =>
       rw [hbw, cond_false] at h
       have e : b = !want := by cases b <;> cases want <;> simp at hbw ⊢
       rw [<- e, know_self hb] at h
       obtain ⟨s', h1, h2⟩ := evOps_run l _ K h
       refine ⟨s', ?_, h2⟩
       rw [hbw] at ha
       simp only [runOps, opStep_skip ha, Option.bind_some, h1]

/-! ### Weakenings -/
theorem Rel.forget (R : Rel P F st a w) (i : Nat) : Rel P F (st.put (some i) dead) a w := by
 obtain ⟨ok, β, R⟩ := R
 refine ⟨ok, β, by rw [put_len]; exact R.len, R.df, by rw [put_bx]; exact R.hp, R.bel, R.bas, R.okb, by rw [put_bx]; exact R.own, by rw [put_bx]; exact R.hdr, fun j => ?_, fun j => ?_⟩
 ·rw [get_put, put_bx]
  split
  ·exact repAV_dead _
  ·exact R.slot j
 ·rw [get_put, put_bx]
  split
  ·exact live_of_refs refs_dead
  ·exact R.nd j

theorem Rel.drop (R : Rel P F st a w) (l : List Nat) : Rel P F (st.drop l) a w := by
 unfold St.drop
 induction l generalizing st with
 | nil => exact R
 | cons i l ih => exact ih (R.forget i)

/-- Boxes and rows are forgotten, and what leads to them. -/
theorem HeapOK.less {bx bx' : Nat -> Option Ent} (H : HeapOK P w ok β bx) (κ : AV -> AV) (hbx : ∀ j f, bx' j = some f -> ∃ e, bx j = some e /\ f = e.mapC κ)
  (hκ : ∀ v val, LiveB bx v -> RepAV P w ok β bx v val -> RepAV P w ok β bx' (κ v) val /\ LiveB bx' (κ v)) (hκ7 : ∀ v, κ v = dz v \/ κ v = v \/ (v.tag = 1 /\ κ v = dat v.ty v.d)) : HeapOK P w ok β bx' := by
 refine ⟨fun i f hi hl => ?_, fun b i f hb hi hl => ?_, fun i j f g hi hj hfl hgl heq => ?_, fun i f hi h0 hc => ?_, fun i f v hi h0 hc => ?_, fun i f hi h0 => ?_, fun i f v hi hc => ?_, fun i f hi h0 => ?_⟩
 ·obtain ⟨e, he, rfl⟩ := hbx i f hi; exact H.siz i e he hl
 ·obtain ⟨e, he, rfl⟩ := hbx i f hi; exact H.sep b i e hb he hl
 ·obtain ⟨e, he, rfl⟩ := hbx i f hi
  obtain ⟨e2, he2, rfl⟩ := hbx j g hj
  exact H.inj i j e e2 he he2 hfl hgl heq
 ·obtain ⟨e, he, rfl⟩ := hbx i f hi
  exact H.box i e he h0 (by simpa [Ent.mapC] using hc)
 ·obtain ⟨e, he, rfl⟩ := hbx i f hi
  simp only [Ent.mapC, Option.map_eq_some_iff] at hc
  obtain ⟨u, hu, rfl⟩ := hc
  obtain ⟨g1, val, g2, g3, g4⟩ := H.con i e u he h0 hu
  have hr := (hκ u val (H.nb i e u he hu) g4).1
  have ht : CT P e.ty (κ u) /\ objC (κ u) val e.ty = objC u val e.ty /\ ((κ u).tag ≠ 7 -> u.tag ≠ 7) := by
   rcases hκ7 u with h | h | ⟨h1, h⟩
   ·rw [h]; exact ⟨g1.dz, objC_dz _ _ _, fun hh h7 => hh ((dz_tag u).1.2 h7)⟩
   ·rw [h]; exact ⟨g1, rfl, fun hh => hh⟩
   ·rw [h]
    exact ⟨⟨fun _ _ => g1.1 (by omega) (by omega), fun hh => by simp [dat] at hh, fun hh => by simp [dat] at hh⟩, by rw [objC_ne (by simp [dat]), objC_ne (by omega)], fun _ => by omega⟩
  exact ⟨ht.1, val, by show _ = some (objC (κ u) val e.ty); rw [ht.2.1]; exact g2, fun hh => g3 (ht.2.2 hh), hr⟩
 ·obtain ⟨e, he, rfl⟩ := hbx i f hi; exact H.row i e he h0
 ·obtain ⟨e, he, rfl⟩ := hbx i f hi
  simp only [Ent.mapC, Option.map_eq_some_iff] at hc
  obtain ⟨u, hu, rfl⟩ := hc
  by_cases h0 : e.row = 0
  ·obtain ⟨_, val, _, _, g4⟩ := H.con i e u he h0 hu
   exact (hκ u val (H.nb i e u he hu) g4).2
  ·rw [H.rc i e he h0] at hu; cases hu
 ·obtain ⟨e, he, rfl⟩ := hbx i f hi
  simp [Ent.mapC, H.rc i e he h0]

theorem RelX.less (R : RelX P F st ok β a w) {st' : St} (κ : AV -> AV) (hbx : ∀ j f, st'.bx j = some f -> ∃ e, st.bx j = some e /\ f = e.mapC κ) (hsl : ∀ i, st'.get i = κ (st.get i)) (hlen : st'.sl.length = st.sl.length)
  (hκ : ∀ v val, LiveB st.bx v -> RepAV P w ok β st.bx v val -> RepAV P w ok β st'.bx (κ v) val /\ LiveB st'.bx (κ v)) (hκ7 : ∀ v, κ v = dz v \/ κ v = v \/ (v.tag = 1 /\ κ v = dat v.ty v.d)) : RelX P F st' ok β a w := by
 refine ⟨by rw [hlen]; exact R.len, R.df, R.hp.less κ hbx hκ hκ7, R.bel, R.bas, R.okb, fun i f hi hl => ?_, fun i f hi hc => ?_, fun i => ?_, fun i => ?_⟩
 ·obtain ⟨e, he, rfl⟩ := hbx i f hi; exact R.own i e he hl
 ·obtain ⟨e, he, rfl⟩ := hbx i f hi; exact R.hdr i e he hc
 ·rw [hsl]; exact (hκ _ _ (R.nd i) (R.slot i)).1
 ·rw [hsl]; exact (hκ _ _ (R.nd i) (R.slot i)).2

theorem rep_less {bx bx' : Nat -> Option Ent} {v : AV} {val : Value} (κ : AV -> AV) (hbx : ∀ j f, bx' j = some f -> ∃ e, bx j = some e /\ f = e.mapC κ) (h : RepAV P w ok β bx v val) : RepAV P w ok β bx' v val :=
 h.tr (fun _ _ => rfl) (fun _ h => h) (fun i _ f hf => by
  obtain ⟨e, he, rfl⟩ := hbx i f hf
  exact ⟨e, he, Alike.mapC _ _ _⟩)

theorem kill_get (i j : Nat) : (st.kill i).get j = killL [i] (st.get j) := map_get _ (killL_dead _) j

theorem Rel.kill (R : Rel P F st a w) (i : Nat) : Rel P F (st.kill i) a w := by
 obtain ⟨ok, β, R⟩ := R
 have hb : ∀ j, (st.kill i).bx j = if j = i then none else (st.bx j).map (Ent.mapC (killL [i])) := fun _ => rfl
 have hbx : ∀ j f, (st.kill i).bx j = some f -> ∃ e, st.bx j = some e /\ f = e.mapC (killL [i]) := by
  intro j f h
  rw [hb] at h
  split at h
  ·cases h
  ·obtain ⟨e, he, rfl⟩ := Option.map_eq_some_iff.1 h
   exact ⟨e, he, rfl⟩
 refine ⟨ok, β, R.less (killL [i]) hbx (kill_get i) (by simp [St.kill]) (fun v val hl hr => ?_) (fun v => ?_)⟩
 rotate_left
 ·rcases killL_cases [i] v with h | ⟨h, _⟩
  ·exact .inl h
  ·exact .inr (.inl h)
 rcases killL_cases [i] v with h | ⟨h, hne⟩
 ·rw [h]; exact ⟨repAV_dz hr (fun _ _ => rfl) (fun _ h => h), live_of_refs (refs_dz v)⟩
 ·rw [h]
  refine ⟨rep_less _ hbx hr, fun j hj => ?_⟩
  have hji : j ≠ i := fun hh => hne j hj (by simp [hh])
  rw [hb, if_neg hji]
  simpa using hl j hj

theorem Rel.stillSlot (R : Rel P F st a w) (i : Nat) : Rel P F (st.stillSlot i) a w := by
 unfold St.stillSlot
 split
 ·rename_i j _
  obtain ⟨ok, β, R⟩ := R
  obtain ⟨ok', R'⟩ := R.still j
  exact ⟨ok', β, R'⟩
 ·exact R
theorem Rel.stills (R : Rel P F st a w) (l : List Nat) : Rel P F (l.foldl St.stillSlot st) a w := by
 induction l generalizing st with
 | nil => exact R
 | cons i l ih => exact ih (R.stillSlot i)

theorem Rel.kills (R : Rel P F st a w) (ids : List Nat) : Rel P F (ids.foldl St.kill st) a w := by
 induction ids generalizing st with
 | nil => exact R
 | cons i ids ih => exact ih (R.kill i)

theorem Rel.still7 (R : Rel P F st a w) (i : Nat) : Rel P F (st.still7 i) a w := by
 have key : ∀ (l : List Nat) (s : St), Rel P F s a w -> Rel P F (l.foldl St.still s) a w := by
  intro l
  induction l with
  | nil => intro s h; exact h
  | cons j l ih =>
   intro s h
   obtain ⟨ok, β, h⟩ := h
   obtain ⟨ok', h'⟩ := h.still j
   exact ih _ ⟨ok', β, h'⟩
 unfold St.still7
 split
 ·split
  ·split
   ·split
    ·exact key _ _ R
    ·exact R
   ·exact R
  ·exact R
 ·exact R
theorem Rel.still7s (R : Rel P F st a w) (l : List Nat) : Rel P F (l.foldl St.still7 st) a w := by
 induction l generalizing st with
 | nil => exact R
 | cons i l ih => exact ih (R.still7 i)
theorem Rel.prep (R : Rel P F st a w) (env : Env) (l : List Oper) : Rel P F (prep env l st) a w := ((R.stills (sinks env l l)).still7s (loadsOf l)).kills (newIds l)

theorem drop_bx (l : List Nat) : (st.drop l).bx = st.bx := by
 unfold St.drop
 induction l generalizing st with
 | nil => rfl
 | cons i l ih => rw [List.foldl_cons, ih, put_bx]

theorem lookB_map (ids : List Nat) (f : Nat -> Option Ent) (j : Nat) : lookB (ids.map fun i => (i, f i)) j = if j ∈ ids then f j else none := by
 unfold lookB
 induction ids with
 | nil => rfl
 | cons i ids ih =>
  simp only [List.map_cons, List.find?_cons]
  by_cases h : i = j
  ·subst h; simp
  ·have h' : (i == j) = false := by simpa using h
   rw [h']
   simp only
   rw [ih]
   simp only [List.mem_cons]
   by_cases hj : j ∈ ids
   ·simp [hj]
   ·have : ¬ j = i := fun hh => h hh.symm
    simp [hj, this]

theorem keepA_dead (ids : List Nat) : keepA ids dead = dead := rfl
theorem keep_get (ds ids : List Nat) (j : Nat) : (st.canon ds ids).get j = keepA ids ((st.drop ds).get j) := map_get (st := st.drop ds) _ (keepA_dead ids) j

theorem canon_bx (ds ids : List Nat) (j : Nat) : (st.canon ds ids).bx j = if j ∈ ids then (st.bx j).map (Ent.mapC (keepA ids)) else none := lookB_map ids (fun i => (st.bx i).map (Ent.mapC (keepA ids))) j

theorem Rel.canon (R : Rel P F st a w) (ds ids : List Nat) : Rel P F (st.canon ds ids) a w := by
 have R0 := R.drop ds
 obtain ⟨ok, β, R⟩ := R0
 have hbx : ∀ j f, (st.canon ds ids).bx j = some f -> ∃ e, (st.drop ds).bx j = some e /\ f = e.mapC (keepA ids) := by
  intro j f h
  rw [canon_bx] at h
  split at h
  ·rw [drop_bx]
   obtain ⟨e, he, rfl⟩ := Option.map_eq_some_iff.1 h
   exact ⟨e, he, rfl⟩
  ·cases h
 refine ⟨ok, β, R.less (keepA ids) hbx (keep_get ds ids) (by simp [St.canon]) (fun v val hl hr => ?_) (fun v => ?_)⟩
 rotate_left
 ·unfold keepA
  split
  ·split
   ·rename_i ht
    rw [Bool.and_eq_true] at ht
    have h1 : v.tag = 1 := by simpa using ht.1
    exact .inr (.inr ⟨h1, rfl⟩)
   ·exact .inr (.inl rfl)
  ·exact .inl rfl
 unfold keepA
 split
 ·rename_i hall
  have hin : ∀ j ∈ refs v, ((st.canon ds ids).bx j).isSome = true := by
   intro j hj
   rw [List.all_eq_true] at hall
   have hm : j ∈ ids := by simpa using hall j hj
   rw [canon_bx, if_pos hm]
   have := hl j hj
   rw [drop_bx] at this
   simpa using this
  split
  ·rename_i ht
   rw [Bool.and_eq_true] at ht
   exact ⟨repAV_dat (hr.d1 (by simpa using ht.1)), live_of_refs rfl⟩
  ·exact ⟨rep_less _ hbx hr, hin⟩
 ·exact ⟨repAV_dz hr (fun _ _ => rfl) (fun _ h => h), live_of_refs (refs_dz v)⟩

theorem Rel.preL (R : Rel P F st a w) (h : Hints) (b : Code) : Rel P F (preL h b st) a w := by
 unfold Ev.preL
 split
 ·exact (R.stills _).canon _ _
 ·exact R

/-! ### Code -/
def Post (P : Program) (F : Fr P) (K : Exit -> St -> Option ρ) (rr : ρ) (e : Exit) (a : Act) (w : World) : Prop := ∃ s, Rel P F s a w /\ K e s = some rr

theorem rounds_sound {c : Code} {body : St -> (Exit -> St -> Option ρ) -> Option ρ}
  (hbody : ∀ (st : St) (K : Exit -> St -> Option ρ), body st K = some rr -> ∀ a w, Rel P F st a w -> c.wp P (Post P F K rr) a w) (pre : St -> St) (hpre : ∀ (st : St) (a : Act) (w : World), Rel P F st a w -> Rel P F (pre st) a w) (K : Exit -> St -> Option ρ) :
  ∀ (n : Nat) (st : St) (a : Act) (w : World), evLoop pre body n st K = some rr -> Rel P F st a w -> Code.rounds P c (Post P F K rr) n a w
 | 0, _, _, _, h, _ => by simp [evLoop] at h
 | n + 1, st, a, w, h, R => by
  unfold evLoop at h
  rw [rounds_succ]
  refine wp_mono (hbody st _ h a w R) ?_
  rintro e a' w' ⟨s', R', hk⟩
  cases e with
  | normal => exact rounds_sound hbody pre hpre K n _ a' w' hk (hpre _ _ _ R')
  | exit i => exact ⟨s', R', hk⟩
  | ret => exact ⟨s', R', hk⟩
  | goto l => cases hk
  | panic c => cases hk
  | outgrown => cases hk

theorem evCode_sound (hm : P.follows .mixedOrders = true) (henv : EnvOK P env) (hh : Hints) (fuel : Nat) : ∀ (c : Code) (st : St) (K : Exit -> St -> Option ρ), evCode P env hh fuel c st K = some rr ->
  ∀ a w, Rel P F st a w -> c.wp P (Post P F K rr) a w := by
 intro c
 induction c with
 | skip => intro st K h a w R; exact wp_skip ⟨st, R, h⟩
 | region id ops draw =>
  intro st K h a w R
  unfold evCode at h
  cases draw with
  | false =>
   simp only [Bool.false_eq_true, if_false] at h
   obtain ⟨s', h1, h2⟩ := evOps_run _ _ _ h
   exact region_sound henv h1 (R.prep env ops.toList) (fun a w R'' => ⟨s', R'', h2⟩)
  | true =>
   simp only [if_true] at h
   split at h
   ·rename_i hc
    rw [Bool.and_eq_true] at hc
    obtain ⟨s', h1, h2⟩ := evOps_run _ _ _ h
    exact region_draw_soundL (show PlainE env.lvl from plainE env) hm henv.lvl hc.2 h1 (R.prep env.plain ops.toList) (fun a w R'' => ⟨s', R'', h2⟩)
   split at h
   ·rename_i hc
    rw [Bool.and_eq_true] at hc
    obtain ⟨s', h1, h2⟩ := evOps_run _ _ _ h
    exact region_draw_sound6 hm henv hc.2 h1 (R.prep env.part ops.toList) (fun a w R'' => ⟨s', R'', h2⟩)
   split at h
   ·rename_i hc
    rw [Bool.and_eq_true] at hc
    obtain ⟨s', h1, h2⟩ := evOps_run _ _ _ h
    exact region_draw_sound5 hm henv hc.2 h1 (R.prep env.half ops.toList) (fun a w R'' => ⟨s', R'', h2⟩)
   split at h
   ·rename_i hc
    obtain ⟨s', h1, h2⟩ := evOps_run _ _ _ h
    rw [Bool.or_eq_true, Bool.or_eq_true] at hc
    rcases hc with (hc | hc) | hc
    ·exact region_draw_sound (plainE env) hm henv.plain hc h1 (R.prep env.plain ops.toList) (fun a w R'' => ⟨s', R'', h2⟩)
    ·exact region_draw_sound2 (plainE env) hm henv.plain hc (fun d hd => prep_none _ _ hd) h1 (R.prep env.plain ops.toList) (fun a w R'' => ⟨s', R'', h2⟩)
    ·exact region_draw_sound3 (plainE env) rfl hm henv.plain hc h1 (R.prep env.plain ops.toList) (fun a w R'' => ⟨s', R'', h2⟩)
   ·split at h
    ·rename_i hc
     obtain ⟨s', h1, h2⟩ := evOps_run _ _ _ h
     exact region_draw_sound4 (plainE env) rfl hm henv.plain hc (appOrd_len _ _) h1 (R.prep env.plain ops.toList) (fun a w R'' => ⟨s', R'', h2⟩)
    ·cases h
 | seq x y ihx ihy =>
  intro st K h a w R
  unfold evCode at h
  refine wp_seq (wp_mono (ihx st _ h a w R) ?_)
  rintro e a' w' ⟨s', R', hk⟩
  cases e with
  | normal => exact ihy s' K hk a' w' R'
  | exit i => exact ⟨s', R', hk⟩
  | ret => exact ⟨s', R', hk⟩
  | goto l => cases hk
  | panic c => cases hk
  | outgrown => cases hk
 | cond c x y ihx ihy =>
  intro st K h a w R
  cases c with
  | tmp c =>
   unfold evCode at h
   cases hb : boolOf P (st.get c) with
   | none => rw [hb] at h; cases h
   | some b =>
    rw [hb] at h
    simp only at h
    obtain ⟨ok, β, R0⟩ := R
    obtain ⟨t1, u1, d1⟩ := boolOf_spec hb
    obtain ⟨b', e1, e2⟩ := ((R0.slot c).d1 t1).bool u1
    have hbb : b' = b := by rw [d1] at e1; simpa using e1.symm
    subst hbb
    cases b' with
    | true =>
     rw [cond_true, know_self hb] at h
     exact wp_cond_true e2 (ihx st K h a w ⟨ok, β, R0⟩)
    | false =>
     rw [cond_false, know_self hb] at h
     exact wp_cond_false e2 (ihy st K h a w ⟨ok, β, R0⟩)
  | const v =>
   cases v with
   | bool b =>
    unfold evCode at h
    cases b with
    | true =>
     rw [cond_true] at h
     exact wp_cond_true rfl (ihx st K h a w R)
    | false =>
     rw [cond_false] at h
     exact wp_cond_false rfl (ihy st K h a w R)
   | _ => simp [evCode] at h
  | global g => simp [evCode] at h
  | func f => simp [evCode] at h
 | block id b ih =>
  intro st K h a w R
  unfold evCode at h
  refine wp_block (wp_mono (ih st _ h a w R) ?_)
  rintro e a' w' ⟨s', R', hk⟩
  cases e with
  | normal => exact ⟨s', R', hk⟩
  | exit i =>
   unfold blockK at hk
   simp only at hk
   unfold Exit.inBlock
   simp only
   split at hk
   ·rename_i hi; rw [if_pos hi]; exact ⟨s', R', hk⟩
   ·rename_i hi; rw [if_neg hi]; exact ⟨s', R', hk⟩
  | ret => exact ⟨s', R', hk⟩
  | goto l => cases hk
  | panic c => cases hk
  | outgrown => cases hk
 | loop b ih =>
  intro st K h a w R
  unfold evCode at h
  exact wp_loop_rounds fuel (rounds_sound ih (preL hh b) (fun _ _ _ R' => R'.preL hh b) K fuel _ a w h (R.preL hh b))
 | exit id => intro st K h a w R; exact wp_exit ⟨st, R, h⟩
 | label l => intro st K h a w R; exact wp_label ⟨st, R, h⟩
 | ret => intro st K h a w R; exact wp_ret ⟨st, R, h⟩
 | rangeFunc f ps x y _ _ => intro st K h a w R; simp [evCode] at h
 | scope b _ => intro st K h a w R; simp [evCode] at h
 | goto l => intro st K h a w R; simp [evCode] at h
 | refuse s => intro st K h a w R; simp [evCode] at h

/-! ### Functions -/
def resV (tmps : Array Value) : ResultVar -> Sem Value
 | .tmp t => pure (tmps.getD t undef)
 | .cell c t => do loadVar t (<- asAddr (tmps.getD c undef))

theorem results_eq (fn : Func) (tmps : Array Value) : results fn tmps = (do
  let vs <- fn.results.mapM (resV tmps)
  pure (if h : vs.size = 1 then vs[0] else .tuple vs)) := by
 have : (fun x : ResultVar => (match x with | .tmp t => (pure (tmps.getD t undef) : Sem Value) | .cell a t => do loadVar t (<- asAddr (tmps.getD a undef)))) = resV tmps := by
  funext x; cases x <;> rfl
 rw [<- this]
 rfl

theorem resOne_sound (R : RelX P F st ok β a w) {rv : ResultVar} {x : AV} (h : resOne P st rv = some x) :
  ∃ v, (resV a.tmps rv).run P w = .ok v w /\ x.tag = 1 /\ RepV P w ok x.ty v x.d := by
 cases rv with
 | tmp t =>
  simp only [resOne] at h
  split at h
  ·rename_i ht
   cases h
   have ht' : (st.get t).tag = 1 := by simpa using ht
   exact ⟨_, rfl, rfl, (R.slot t).d1 ht'⟩
  ·cases h
 | cell c t =>
  simp only [resOne] at h
  obtain ⟨d, hd, rfl⟩ := Option.map_eq_some_iff.1 h
  obtain ⟨y, u, hv, hl, hr⟩ := ldA_sound R (R.slot c) hd
  refine ⟨u, ?_, rfl, hr⟩
  simp only [resV, hv, asAddr, Sem.run_bind, Sem.run_pure, Result.andThen_ok, hl]

theorem resAll_sound (R : RelX P F st ok β a w) : ∀ (l : List ResultVar) (xs : List AV), resAll P st l = some xs ->
  ∃ vs : List Value, (l.mapM (resV a.tmps)).run P w = .ok vs w /\ ArgsRep P w ok xs vs
 | [], xs, h => by
  simp only [resAll, Option.some.injEq] at h
  subst h
  exact ⟨[], by simp, trivial⟩
 | rv :: l, xs, h => by
  simp only [resAll] at h
  split at h
  ·rename_i x xs' h1 h2
   cases h
   obtain ⟨v, g1, g2, g3⟩ := resOne_sound R h1
   obtain ⟨vs, g4, g5⟩ := resAll_sound R l xs' h2
   exact ⟨v :: vs, by rw [List.mapM_cons]; simp only [Sem.run_bind, g1, g4, Result.andThen_ok, Sem.run_pure], ⟨⟨g2, g3⟩, g5⟩⟩
  ·cases h

theorem resAll_ix : ∀ (l : List ResultVar) (xs : List AV), resAll P st l = some xs -> ∀ x ∈ xs, x.ix = 0 /\ x.tys = []
 | [], xs, h, x, hx => by
  simp only [resAll, Option.some.injEq] at h
  subst h
  cases hx
 | rv :: l, xs, h, x, hx => by
  simp only [resAll] at h
  split at h
  ·rename_i y ys h1 h2
   cases h
   rcases List.mem_cons.1 hx with rfl | hx
   ·cases rv with
    | tmp t =>
     simp only [resOne] at h1
     split at h1
     ·cases h1; exact ⟨rfl, rfl⟩
     ·cases h1
    | cell c t =>
     simp only [resOne] at h1
     obtain ⟨d, _, rfl⟩ := Option.map_eq_some_iff.1 h1
     exact ⟨rfl, rfl⟩
   ·exact resAll_ix l ys h2 x hx
  ·cases h

theorem argsRep_len : ∀ {xs : List AV} {vs : List Value}, ArgsRep P w ok xs vs -> xs.length = vs.length
 | [], [], _ => rfl
 | x :: xs, v :: vs, h => by simp [argsRep_len h.2]
 | [], _ :: _, h => h.elim
 | _ :: _, [], h => h.elim

theorem argsRep_get : ∀ {xs : List AV} {vs : List Value}, ArgsRep P w ok xs vs -> ∀ (k : Nat) (x : AV), xs[k]? = some x -> x.tag = 1 /\ RepV P w ok x.ty (vs.getD k undef) x.d
 | [], [], _, k, x, h => by simp at h
 | y :: xs, v :: vs, h, 0, x, hk => by simp at hk; subst hk; exact h.1
 | y :: xs, v :: vs, h, k + 1, x, hk => by simp at hk; have := argsRep_get h.2 k x hk; simpa using this
 | [], _ :: _, h, _, _, _ => h.elim
 | _ :: _, [], h, _, _, _ => h.elim

theorem resA_sound (R : RelX P F st ok β a w) {fn : Func} (h : resA P fn st = some r) :
  (r.tag = 1 \/ r.tag = 6) /\ ∃ v, (results fn a.tmps).run P w = .ok v w /\ RepAV P w ok (fun _ => (0, 0)) (fun _ => none) r v := by
 unfold resA at h
 have hres : ∀ (xs : List AV), resAll P st fn.results.toList = some xs -> ∃ vs : List Value, ArgsRep P w ok xs vs /\ (results fn a.tmps).run P w = .ok (if h : vs.length = 1 then vs[0] else .tuple vs.toArray) w := by
  intro xs hx
  obtain ⟨vs, h1, h2⟩ := resAll_sound R _ _ hx
  refine ⟨vs, h2, ?_⟩
  rw [results_eq, Array.mapM_eq_mapM_toList]
  simp only [Sem.run_bind, Sem.run_map]
  rw [h1]
  simp only [Result.andThen_ok, Sem.run_pure, List.size_toArray]
  congr 1
 split at h
 ·rename_i x hx
  cases h
  obtain ⟨vs, h1, h2⟩ := hres _ hx
  have hl := argsRep_len h1
  match vs, h1, hl with
  | [v], h1, _ =>
   refine ⟨.inl h1.1.1, v, by simpa using h2, ⟨fun _ => h1.1.2, fun ht => ?_, fun ht => ?_, fun ht => ?_, fun ht => ?_, fun ht => ?_, fun ht => ?_, fun _ ht => ?_, fun _ => ⟨fun ht => ?_, fun ht => ?_⟩, fun ht => ?_, fun _ => nil_none (resAll_ix _ _ hx r (by simp)).2⟩⟩ <;> (have := h1.1.1; have := (resAll_ix _ _ hx r (by simp)).1; omega)
 ·rename_i x xs hne hx
  cases h
  obtain ⟨vs, h1, h2⟩ := hres _ hx
  have hl := argsRep_len h1
  have hlen : vs.length ≠ 1 := by
   intro h1'
   rw [h1'] at hl
   simp at hl
   subst hl
   exact hne rfl
  refine ⟨.inr rfl, .tuple vs.toArray, by rw [h2]; simp [hlen], ⟨by simp [tupA], by simp [tupA], by simp [tupA], by simp [tupA], by simp [tupA], fun _ => ⟨vs.toArray, rfl, by simp [tupA] at hl ⊢; omega, fun k t hk => ?_⟩, by simp [tupA], by simp [tupA], by simp [tupA], by simp [tupA], by simp [tupA]⟩⟩
  simp only [tupA, List.getElem?_map, Option.map_eq_some_iff] at hk
  obtain ⟨y, hy, rfl⟩ := hk
  have := (argsRep_get h1 k y hy).2
  have e1 : fieldD (tupA ((x :: xs).map (·.ty)) (.agg ((x :: xs).map (·.d)))).d k = y.d := by
   simp only [tupA, fieldD, partsD, List.getD, List.getElem?_map, hy]
   rfl
  rw [e1]
  simpa using this
 ·rename_i hx
  cases h
  obtain ⟨vs, h1, h2⟩ := hres _ hx
  have hl := argsRep_len h1
  have hv0 : vs = [] := List.eq_nil_of_length_eq_zero (by simpa using hl.symm)
  subst hv0
  refine ⟨.inr rfl, .tuple #[], by simpa using h2, ⟨by simp [tupA], by simp [tupA], by simp [tupA], by simp [tupA], by simp [tupA], fun _ => ⟨#[], rfl, rfl, fun k t hk => by simp [tupA] at hk⟩, by simp [tupA], by simp [tupA], by simp [tupA], by simp [tupA], by simp [tupA]⟩⟩
 ·cases h

theorem argsRep_tags : ∀ {xs : List AV} {vs : List Value}, ArgsRep P w ok xs vs -> ∀ x ∈ xs, x.tag = 1
 | [], [], _, _, h => by cases h
 | y :: xs, v :: vs, h, x, hx => by
  rcases List.mem_cons.1 hx with rfl | hx
  ·exact h.1.1
  ·exact argsRep_tags h.2 x hx
 | [], _ :: _, h, _, _ => h.elim
 | _ :: _, [], h, _, _ => h.elim

theorem begin_get (fn : Func) (args : List AV) (bx : Nat -> Option Ent) (i : Nat) : (St.mk (args ++ List.replicate (fn.ntmps - args.length) dead) bx).get i = args.getD i dead := by
 simp only [St.get, List.getD]
 by_cases hi : i < args.length
 ·rw [List.getElem?_append_left hi]
 ·rw [List.getElem?_append_right (by omega), List.getElem?_eq_none (l := args) (by omega)]
  by_cases hh : i - args.length < fn.ntmps - args.length
  ·simp [hh]
  ·simp [hh]

theorem begin_tmps (fn : Func) (vs : List Value) (i : Nat) : (vs.toArray ++ Array.replicate (fn.ntmps - vs.toArray.size) undef).getD i undef = vs.getD i undef := by
 by_cases hi : i < vs.length
 ·simp [Array.getD_eq_getD_getElem?, Array.getElem?_append, hi, List.getD]
 ·rw [List.getD, List.getElem?_eq_none (by omega)]
  simp only [Array.getD_eq_getD_getElem?, Array.getElem?_append, List.size_toArray, hi, if_false, Array.getElem?_replicate]
  split <;> rfl

/-- A call, with what is known of its arguments. -/
theorem ev_call (hm : P.follows .mixedOrders = true) (henv : EnvOK P env) {hh : Hints} {fuel : Nat} {f : FuncId} {fn : Func} {c : Code} {args : List AV} (hf : P.funcs[f]? = some fn) (hb : fn.body = some c)
  (h : evCode P env hh fuel c (begin_ fn args) (finK P fn) = some r) {w : World} {okA : Nat -> Prop} {vs : List Value} (htb : TabOn P (fun _ => False) w) (hok : ∀ b, okA b -> b < w.heap.size) (hl : args.length = vs.length)
  (hargs : ∀ (i : Nat) (x : AV), args[i]? = some x -> x.tag = 1 /\ RepAV P w okA (fun _ => (0, 0)) (fun _ => none) x (vs.getD i undef)) :
  Calls P f vs.toArray w fun e w' => ∃ v ok', e = .returned v /\ Below w.heap.size w w' /\ (∀ b, ok' b -> b < w'.heap.size /\ (okA b \/ w.heap.size <= b)) /\
   RepAV P w' ok' (fun _ => (0, 0)) (fun _ => none) r v := by
   have R : Rel P ⟨w.heap.size, w, okA, fun _ => False, fun _ => undef, fun _ => 0, htb, []⟩ (begin_ fn args) { tmps := vs.toArray ++ Array.replicate (fn.ntmps - vs.toArray.size) undef, defers := [] } w := by
    refine ⟨okA, fun _ => (0, 0), by simp [begin_, hl], rfl, ⟨?_, ?_, ?_, ?_, ?_, ?_, ?_, ?_⟩, BelowX.refl _ _ _, Nat.le_refl _, fun b hb => ⟨hok b hb, .inl hb⟩, fun i e hi => (by cases hi), fun i e hi => (by cases hi), fun i => ?_, fun i => ?_⟩
    ·intro i e hi; cases hi
    ·intro b i e _ hi; cases hi
    ·intro i j e f hi; cases hi
    ·intro i e hi; cases hi
    ·intro i e v hi; cases hi
    ·intro i e hi; cases hi
    ·intro i e v hi; cases hi
    ·intro i e hi; cases hi
    ·have hg : (begin_ fn args).get i = args.getD i dead := begin_get fn args _ i
     rw [hg, begin_tmps]
     by_cases hi : i < args.length
     ·have e1 : args.getD i dead = args[i] := by simp [List.getD, hi]
      rw [e1]
      exact (hargs i (args[i]) (by simp [hi])).2
     ·rw [List.getD, List.getElem?_eq_none (by omega)]
      exact repAV_dead _
    ·have hg : (begin_ fn args).get i = args.getD i dead := begin_get fn args _ i
     rw [hg]
     by_cases hi : i < args.length
     ·have e1 : args.getD i dead = args[i] := by simp [List.getD, hi]
      rw [e1]
      have := (hargs i (args[i]) (by simp [hi])).1
      exact live_of_ne (by omega) (by omega) (by omega)
     ·rw [List.getD, List.getElem?_eq_none (by omega)]
      exact live_of_refs refs_dead
   refine calls_of_wp hf hb (wp_mono (evCode_sound hm henv hh fuel c _ _ h _ _ R) ?_)
   rintro e a' w' ⟨s', R0, hk⟩
   obtain ⟨ok', β', R'⟩ := R0.stills (resTmps fn.results.toList)
   have fin : resA P fn ((resTmps fn.results.toList).foldl St.stillSlot s') = some r -> a'.defers = [] /\ ∃ v, (results fn a'.tmps).run P w' = .ok v w' /\ ∃ v' ok'', Ending.returned v = .returned v' /\ Below w.heap.size w w' /\
     (∀ b, ok'' b -> b < w'.heap.size /\ (okA b \/ w.heap.size <= b)) /\ RepAV P w' ok'' (fun _ => (0, 0)) (fun _ => none) r v' := by
    intro hr
    obtain ⟨_, v, h1, h2⟩ := resA_sound R' hr
    refine ⟨R'.df, v, h1, v, ok', rfl, R'.bel.plain (fun _ h => h), fun b hb => ⟨(R'.okb b hb).1, ?_⟩, h2⟩
    rcases (R'.okb b hb).2 with h3 | h3 | h3
    ·exact .inl h3
    ·exact .inr h3
    ·exact h3.elim
   cases e with
   | normal => exact fin hk
   | ret => exact fin hk
   | exit i => cases hk
   | goto l => cases hk
   | panic c => cases hk
   | outgrown => cases hk

/-- WHAT THE EVALUATOR TELLS OF A FUNCTION IS A CONTRACT OF IT. -/
theorem evFn_sound (hm : P.follows .mixedOrders = true) (henv : EnvOK P env) {hh : Hints} {fuel : Nat} {f : FuncId} {fn : Func} {args : List AV} (hf : P.funcs[f]? = some fn)
  (hname : (fn.name == "runtime.NumGoroutine") = false) (h : evFn P env hh fuel fn args = some r) (htag : r.tag = 1 \/ r.tag = 6) : CallOK P f args r := by
 unfold evFn at h
 cases hb : fn.body with
 | none => rw [hb] at h; cases h
 | some c =>
  rw [hb] at h
  simp only at h
  split at h
  ·rename_i hall
   refine ⟨⟨fn, c, hf, hb, hname⟩, htag, fun w okA vs htb hok hargs => ?_⟩
   refine ev_call hm henv hf hb h htb hok (argsRep_len hargs) (fun i x hx => ?_)
   have hr := argsRep_get hargs i x hx
   have hix : x.ix = 0 := by
    have := List.all_eq_true.1 hall x (List.mem_of_getElem? hx)
    simp only [Bool.and_eq_true, beq_iff_eq] at this
    exact this.1.2
   have htys : x.tys = [] := by
    have := List.all_eq_true.1 hall x (List.mem_of_getElem? hx)
    simp only [Bool.and_eq_true, List.isEmpty_iff] at this
    exact this.2
   refine ⟨hr.1, fun _ => hr.2, fun ht => ?_, fun ht => ?_, fun ht => ?_, fun ht => ?_, fun ht => ?_, fun ht => ?_, fun _ ht => ?_, fun _ => ⟨fun ht => ?_, fun ht => ?_⟩, fun ht => ?_, fun _ => nil_none htys⟩ <;> (have := hr.1; omega)
  ·cases h

/-- A function of one slice, which may be nil, or not. -/
theorem evFnM_sound (hm : P.follows .mixedOrders = true) (henv : EnvOK P env) {hh : Hints} {fuel : Nat} {f : FuncId} {fn : Func} {t e : TypeId} {d : D} (hu : P.underlying t = some (.slice e)) (hf : P.funcs[f]? = some fn)
  (hname : (fn.name == "runtime.NumGoroutine") = false) (htag : r.tag = 1 \/ r.tag = 6) (h2 : d = .slice [] [] -> evFnM P env hh fuel fn [⟨1, t, .slice [] [], 0, 2, 0, []⟩] = some r) (h3 : evFnM P env hh fuel fn [⟨1, t, d, 0, 3, 0, []⟩] = some r) : CallOK P f [dat t d] r := by
 have hb : ∃ c, fn.body = some c := by
  unfold evFnM at h3
  cases hb : fn.body with
  | none => rw [hb] at h3; cases h3
  | some c => exact ⟨c, rfl⟩
 obtain ⟨c, hb⟩ := hb
 have key : ∀ x, evFnM P env hh fuel fn [x] = some r -> evCode P env hh fuel c (begin_ fn [x]) (finK P fn) = some r := by
  intro x hx
  unfold evFnM at hx
  rw [hb] at hx
  exact hx
 refine ⟨⟨fn, c, hf, hb, hname⟩, htag, fun w okA vs htb hok hargs => ?_⟩
 match vs, hargs with
 | [v], hargs =>
  have hr : RepV P w okA t v d := hargs.1.2
  obtain ⟨m, es, a, cap, rfl, rfl, hc1, hc2, hc3, _⟩ := hr.slice hu
  cases a with
  | none =>
   have hz := hc3 rfl
   have hes : es = [] := List.eq_nil_of_length_eq_zero (by omega)
   subst hes hz
   refine ev_call hm henv hf hb (key _ (h2 rfl)) htb hok rfl (fun i x hx => ?_)
   cases i with
   | zero =>
    simp only [List.getElem?_cons_zero, Option.some.injEq] at hx
    subst hx
    refine ⟨rfl, fun _ => hr, by simp, by simp, by simp, by simp, by simp, by simp, by simp, fun _ => ⟨fun _ => rfl, by simp⟩, by simp, fun _ => nil_none rfl⟩
   | succ i => simp at hx
  | some y =>
   refine ev_call hm henv hf hb (key _ h3) htb hok rfl (fun i x hx => ?_)
   cases i with
   | zero =>
    simp only [List.getElem?_cons_zero, Option.some.injEq] at hx
    subst hx
    refine ⟨rfl, fun _ => hr, by simp, by simp, by simp, by simp, by simp, by simp, by simp, fun _ => ⟨by simp, fun _ => ⟨y, es.length, cap, rfl⟩⟩, by simp, fun _ => nil_none rfl⟩
   | succ i => simp at hx

/-! ### Functions that are handed boxes and rows -/
theorem argsRepH_len {bx : Nat -> Option Ent} : ∀ {xs : List AV} {vs : List Value}, ArgsRepH P w ok β bx xs vs -> xs.length = vs.length
 | [], [], _ => rfl
 | x :: xs, v :: vs, h => by simp [argsRepH_len h.2]
 | [], _ :: _, h => h.elim
 | _ :: _, [], h => h.elim

theorem argsRepH_get {bx : Nat -> Option Ent} : ∀ {xs : List AV} {vs : List Value}, ArgsRepH P w ok β bx xs vs -> ∀ (k : Nat), RepAV P w ok β bx (xs.getD k dead) (vs.getD k undef) /\ LiveB bx (xs.getD k dead)
 | [], [], _, k => by simp only [List.getD, List.getElem?_nil, Option.getD_none]; exact ⟨repAV_dead _, live_of_refs refs_dead⟩
 | y :: xs, v :: vs, h, 0 => by simpa [List.getD] using h.1.2
 | y :: xs, v :: vs, h, k + 1 => by have := argsRepH_get h.2 k; simpa [List.getD] using this
 | [], _ :: _, h, _ => h.elim
 | _ :: _, [], h, _ => h.elim

theorem outH_get (m : Nat) (st : St) (k : Nat) : bxOf' (outH m st) k = if OID <= k /\ k - OID < m then st.bx k else none := by
 unfold bxOf' outH
 by_cases h1 : k < OID
 ·rw [if_pos h1, if_neg (by omega)]
 ·rw [if_neg h1]
  by_cases h2 : k - OID < m
  ·rw [if_pos ⟨by omega, h2⟩]
   have e : OID + (k - OID) = k := by omega
   simp only [List.getElem?_map, List.getElem?_range h2, Option.map_some, Option.join_some]
   rw [e]
  ·rw [if_neg (by omega)]
   simp only [List.getElem?_map]
   rw [List.getElem?_eq_none (by simpa using h2)]
   rfl

theorem evFnH_sound (hm : P.follows .mixedOrders = true) (henv : EnvOK P env) {hh : Hints} {fuel : Nat} {f : FuncId} {fn : Func} {args : List AV} {h : List Ent} {h' : List (Option Ent)} (hf : P.funcs[f]? = some fn)
  (hname : (fn.name == "runtime.NumGoroutine") = false) (hev : evFnH P env hh fuel fn args h = some (r, h')) : HCallOK P f args h r h' := by
 unfold evFnH at hev
 cases hb : fn.body with
 | none => rw [hb] at hev; cases hev
 | some c =>
  rw [hb] at hev
  simp only at hev
  split at hev
  ·rename_i hall
   refine ⟨⟨fn, c, hf, hb, hname⟩, fun w okA β vs htb hok H hargs => ?_⟩
   have hl := argsRepH_len hargs
   have R : Rel P ⟨w.heap.size, w, okA, XOf β (bxOf h), fun i => match bxOf h i with | some e => hval (β i) e | none => undef, fun i => match bxOf h i with | some e => e.ty | none => 0, htb, []⟩ (beginH fn args h)
     { tmps := vs.toArray ++ Array.replicate (fn.ntmps - vs.toArray.size) undef, defers := [] } w := by
    refine ⟨okA, β, by simp [beginH, hl], rfl, H, BelowX.refl _ _ _, Nat.le_refl _, fun b hb => ⟨hok b hb, .inl hb⟩, fun i e hi hlv => .inr ⟨i, e, hi, hlv, rfl⟩, fun i e hi _ => ?_, fun i => ?_, fun i => ?_⟩
    ·have hi' : bxOf h i = some e := hi
     simp only [hi']
     exact ⟨trivial, trivial⟩
    ·have hg : (beginH fn args h).get i = args.getD i dead := begin_get fn args _ i
     rw [hg, begin_tmps]
     exact (argsRepH_get hargs i).1
    ·have hg : (beginH fn args h).get i = args.getD i dead := begin_get fn args _ i
     rw [hg]
     exact (argsRepH_get hargs i).2
   refine calls_of_wp hf hb (wp_mono (evCode_sound hm henv hh fuel c _ _ hev _ _ R) ?_)
   rintro e a' w' ⟨s', R0, hk⟩
   obtain ⟨ok', β', R'⟩ := R0.stills (resTmps fn.results.toList)
   have fin : finH P fn h.length .ret s' = some (r, h') -> a'.defers = [] /\ ∃ v, (results fn a'.tmps).run P w' = .ok v w' /\ HPost P h r h' w okA β (.returned v) w' := by
    intro hr
    unfold finH at hr
    simp only at hr
    split at hr
    ·rename_i hclosed
     obtain ⟨r', hr', heq⟩ := Option.map_eq_some_iff.1 hr
     simp only [Prod.mk.injEq] at heq
     obtain ⟨rfl, rfl⟩ := heq
     obtain ⟨ht, v, h1, h2⟩ := resA_sound R' hr'
     have hget := outH_get h.length ((resTmps fn.results.toList).foldl St.stillSlot s')
     have hin : ∀ k e, bxOf' (outH h.length ((resTmps fn.results.toList).foldl St.stillSlot s')) k = some e -> ((resTmps fn.results.toList).foldl St.stillSlot s').bx k = some e /\ OID <= k /\ k - OID < h.length := by
      intro k e hk
      rw [hget] at hk
      split at hk
      ·rename_i hc; exact ⟨hk, hc⟩
      ·cases hk
     have hlive0 : refs r' = [] := by
      rcases ht with ht | ht
      ·exact refs_of_ne (by omega) (by omega) (by omega)
      ·exact refs_of_ne (by omega) (by omega) (by omega)
     have hcl : ∀ k e v, bxOf' (outH h.length ((resTmps fn.results.toList).foldl St.stillSlot s')) k = some e -> e.c = some v -> ∀ j ∈ refs v, OID <= j /\ j - OID < h.length := by
      intro k e v hk hc j hj
      obtain ⟨hk1, hk2, hk3⟩ := hin k e hk
      rw [List.all_eq_true] at hclosed
      have := hclosed (some e) (by
       unfold outH
       rw [List.mem_map]
       exact ⟨k - OID, List.mem_range.2 hk3, by rw [show OID + (k - OID) = k by omega]; exact hk1⟩)
      simp only [inOut, List.all_eq_true, Bool.and_eq_true, decide_eq_true_eq] at this
      have := this j (by unfold refsE; rw [hc]; exact hj)
      omega
     have hlv : ∀ k e v, bxOf' (outH h.length ((resTmps fn.results.toList).foldl St.stillSlot s')) k = some e -> e.c = some v -> LiveB (bxOf' (outH h.length ((resTmps fn.results.toList).foldl St.stillSlot s'))) v := by
      intro k e v hk hc j hj
      rw [hget, if_pos (hcl k e v hk hc j hj)]
      exact R'.hp.nb k e v (hin k e hk).1 hc j hj
     refine ⟨R'.df, v, h1, v, ok', β', rfl, R'.bel, fun b hb => R'.okb b hb, ?_, ?_, live_of_refs hlive0, fun i e hi hlive => R'.own i e (hin i e hi).1 hlive, fun i e' hi hrow => ?_⟩
     ·have H' := R'.hp
      refine ⟨fun i e hi => H'.siz i e (hin i e hi).1, fun b i e hb hi => H'.sep b i e hb (hin i e hi).1, fun i j e f hi hj => H'.inj i j e f (hin i e hi).1 (hin j f hj).1, fun i e hi => H'.box i e (hin i e hi).1, fun i e v hi h0 hc => ?_,
       fun i e hi => H'.row i e (hin i e hi).1, fun i e v hi hc => hlv i e v hi hc, fun i e hi => H'.rc i e (hin i e hi).1⟩
      obtain ⟨g1, val, g2, g3, g4⟩ := H'.con i e v (hin i e hi).1 h0 hc
      exact ⟨g1, val, g2, g3, g4.tr (fun _ _ => rfl) (fun _ h => h) (fun j _ f hf => ⟨f, (hin j f hf).1, Alike.refl _ _⟩)⟩
     ·rcases ht with ht | ht
      ·refine ⟨h2.d1, fun h => by omega, fun h => by omega, fun h => by omega, fun h => by omega, fun h => by omega, fun h => by omega, h2.dF, h2.dN, fun h => by omega, h2.dZ⟩
      ·refine ⟨fun h => by omega, fun h => by omega, fun h => by omega, fun h => by omega, fun h => by omega, h2.d6, fun h => by omega, fun h => by omega, fun h => by omega, fun h => by omega, fun h => by omega⟩
     ·obtain ⟨hi1, hi2, hi3⟩ := hin i e' hi
      have hcond : (OID <= i /\ e'.row = 0) \/ e'.row = 3 \/ e'.row = 4 := by
       rcases hrow with h0 | h0
       ·exact .inl ⟨hi2, h0⟩
       ·exact .inr h0
      have hh := R'.hdr i e' hi1 hcond
      have hb : bxOf h i = h[i - OID]? := by unfold bxOf; rw [if_neg (by omega)]
      obtain ⟨e, he⟩ : ∃ e, bxOf h i = some e := ⟨h[i - OID], by rw [hb]; simp [hi3]⟩
      simp only [he] at hh
      exact ⟨e, he, alike_of hh.1 hh.2⟩
    ·cases hr
   cases e with
   | normal => exact fin hk
   | ret => exact fin hk
   | exit i => cases hk
   | goto l => cases hk
   | panic c => cases hk
   | outgrown => cases hk
  ·cases hev


/-- A function that answers a closure. -/
theorem evFnG_sound (hm : P.follows .mixedOrders = true) (henv : EnvOK P env) {hh : Hints} {fuel : Nat} {f : FuncId} {fn : Func} {args : List AV} {es : List Ent} (hf : P.funcs[f]? = some fn)
  (hname : (fn.name == "runtime.NumGoroutine") = false) (h : evFnG P env hh fuel fn args = some (r, es)) : GCallOK P f args r es := by
 unfold evFnG at h
 cases hb : fn.body with
 | none => rw [hb] at h; cases h
 | some c =>
  rw [hb] at h
  simp only at h
  split at h
  ·rename_i hall
   refine ⟨⟨fn, c, hf, hb, hname⟩, fun w okA vs htb hok hargs => ?_⟩
   have hl := argsRep_len hargs
   have hone : ∀ (i : Nat) (x : AV), args[i]? = some x -> x.tag = 1 /\ RepAV P w okA (fun _ => (0, 0)) (fun _ => none) x (vs.getD i undef) := by
    intro i x hx
    have hr := argsRep_get hargs i x hx
    have hix : x.ix = 0 := by
     have := List.all_eq_true.1 hall x (List.mem_of_getElem? hx)
     simp only [Bool.and_eq_true, beq_iff_eq] at this
     exact this.1.2
    have htys : x.tys = [] := by
     have := List.all_eq_true.1 hall x (List.mem_of_getElem? hx)
     simp only [Bool.and_eq_true, List.isEmpty_iff] at this
     exact this.2
    refine ⟨hr.1, fun _ => hr.2, fun ht => ?_, fun ht => ?_, fun ht => ?_, fun ht => ?_, fun ht => ?_, fun ht => ?_, fun _ ht => ?_, fun _ => ⟨fun ht => ?_, fun ht => ?_⟩, fun ht => ?_, fun _ => nil_none htys⟩ <;> (have := hr.1; omega)
   have R : Rel P ⟨w.heap.size, w, okA, fun _ => False, fun _ => undef, fun _ => 0, htb, []⟩ (begin_ fn args) { tmps := vs.toArray ++ Array.replicate (fn.ntmps - vs.toArray.size) undef, defers := [] } w := by
    refine ⟨okA, fun _ => (0, 0), by simp [begin_, hl], rfl, ⟨?_, ?_, ?_, ?_, ?_, ?_, ?_, ?_⟩, BelowX.refl _ _ _, Nat.le_refl _, fun b hb => ⟨hok b hb, .inl hb⟩, fun i e hi => (by cases hi), fun i e hi => (by cases hi), fun i => ?_, fun i => ?_⟩
    ·intro i e hi; cases hi
    ·intro b i e _ hi; cases hi
    ·intro i j e f hi; cases hi
    ·intro i e hi; cases hi
    ·intro i e v hi; cases hi
    ·intro i e hi; cases hi
    ·intro i e v hi; cases hi
    ·intro i e hi; cases hi
    ·have hg : (begin_ fn args).get i = args.getD i dead := begin_get fn args _ i
     rw [hg, begin_tmps]
     by_cases hi : i < args.length
     ·have e1 : args.getD i dead = args[i] := by simp [List.getD, hi]
      rw [e1]
      exact (hone i (args[i]) (by simp [hi])).2
     ·rw [List.getD, List.getElem?_eq_none (by omega)]
      exact repAV_dead _
    ·have hg : (begin_ fn args).get i = args.getD i dead := begin_get fn args _ i
     rw [hg]
     by_cases hi : i < args.length
     ·have e1 : args.getD i dead = args[i] := by simp [List.getD, hi]
      rw [e1]
      have := (hone i (args[i]) (by simp [hi])).1
      exact live_of_ne (by omega) (by omega) (by omega)
     ·rw [List.getD, List.getElem?_eq_none (by omega)]
      exact live_of_refs refs_dead
   refine calls_of_wp hf hb (wp_mono (evCode_sound hm henv hh fuel c _ _ h _ _ R) ?_)
   rintro e a' w' ⟨s', R0, hk⟩
   obtain ⟨ok', β', R'⟩ := R0
   have fin : finG P fn .ret s' = some (r, es) -> a'.defers = [] /\ ∃ v, (results fn a'.tmps).run P w' = .ok v w' /\ ∃ v' ok'' β'', Ending.returned v = .returned v' /\ Below w.heap.size w w' /\
     (∀ b, ok'' b -> b < w'.heap.size /\ (okA b \/ w.heap.size <= b)) /\ HeapOK P w' ok'' β'' (bxOf es) /\ RepAV P w' ok'' β'' (bxOf es) r v' /\ LiveB (bxOf es) r /\ ∀ i e, bxOf es i = some e -> e.live = true -> w.heap.size <= (β'' i).1 := by
    intro hr
    unfold finG at hr
    simp only at hr
    split at hr
    ·rename_i t hres
     split at hr
     ·rename_i hcond
      rw [Bool.and_eq_true] at hcond
      obtain ⟨hct, hcl⟩ := hcond
      simp only [Option.some.injEq, Prod.mk.injEq] at hr
      obtain ⟨rfl, rfl⟩ := hr
      have hrf : ∀ j ∈ refs (s'.get t), j ∈ idsOf s' [s'.get t] := (closedB_spec hcl).2.1 _ (by simp)
      have e1 : fn.results = #[.tmp t] := by apply Array.ext'; rw [hres]
      refine ⟨R'.df, a'.tmps.getD t undef, ?_, a'.tmps.getD t undef, ok', _, rfl, R'.bel.plain (fun _ h => h), fun b hb => ⟨(R'.okb b hb).1, ?_⟩, heap_handed R'.hp hcl, rep_handed hcl hrf (R'.slot t), live_handed hcl hrf, ?_⟩
      ·rw [results_eq, e1]
       simp [resV]
      ·rcases (R'.okb b hb).2 with h3 | h3 | h3
       ·exact .inl h3
       ·exact .inr h3
       ·exact h3.elim
      ·intro i e hi hlv
       obtain ⟨_, _, e0, he0, rfl, hm0, _⟩ := bxOf_get hcl hi
       rw [live_ren] at hlv
       rcases R'.own _ e0 he0 hlv with h3 | h3
       ·exact h3
       ·exact h3.elim
     ·cases hr
    ·cases hr
   cases e with
   | normal => exact fin hk
   | ret => exact fin hk
   | exit i => cases hk
   | goto l => cases hk
   | panic c => cases hk
   | outgrown => cases hk
  ·cases h

end
end Go.Ev
