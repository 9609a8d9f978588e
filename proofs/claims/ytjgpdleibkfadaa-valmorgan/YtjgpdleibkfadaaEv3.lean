/- The evaluator's states and the machine's: what ties them, and that it holds behind every operation. Nothing here is trusted. -/
import Derived.Test.YtjgpdleibkfadaaEv2
import Derived.ChangeKeysEq
namespace Go.Ev
open Go.RowKit
set_option linter.unusedVariables false
set_option linter.unusedSimpArgs false

/-- The slice that leads to a row: of what block, with what room. -/
def hv (b : Nat × Nat) (e : Ent) : Value := if e.live = true then .slice (some ⟨b.1, 0, none⟩) (elemsD e.d).length b.2 else .slice none 0 0

/-- A row in memory. -/
def RowOK (P : Program) (w : World) (ok : Nat → Prop) (b : Nat × Nat) (e : Ent) : Prop :=
  ∃ el, P.underlying e.ty = some (.slice el) ∧ P.cellsOf e.ty = 1 ∧ 0 < P.cellsOf el ∧ (∃ es, e.d = .slice es []) ∧
    (e.live = true → ∃ (cur : Array Value) (n : Nat), w.heap[b.1]? = some (.cells cur el (0, 0)) ∧ (elemsD e.d).length ≤ b.2 ∧ b.2 ≤ maxLen ∧ cur.size = b.2 * P.cellsOf el ∧
      ∀ i y, (elemsD e.d)[i]? = some y → Rep P w ok n el ((cur.toList.drop (i * P.cellsOf el)).take (P.cellsOf el)) y)

structure RepAV (P : Program) (w : World) (ok : Nat → Prop) (β : Nat → Nat × Nat) (bx : Nat → Option Ent) (x : AV) (v : Value) : Prop where
  d1 : x.tag = 1 → RepV P w ok x.ty v x.d
  d2 : x.tag = 2 → ∀ e, bx x.id = some e → e.row = 0 → v = .pointer (some ⟨(β x.id).1, x.off, none⟩) ∧ (x.ix = 0 → x.off = 0 ∧ e.ty = x.ty) ∧
    (∀ k, x.ix = k + 1 → ∃ f, fieldOf P e.ty k = some f ∧ f.offset = x.off ∧ f.type = x.ty)
  d5 : x.tag = 2 → ∀ e, bx x.id = some e → e.row ≠ 0 → x.ix = 0 → v = hv (β x.id) e
  d3 : x.tag = 3 → ∃ y cs n, v = .pointer (some y) ∧ ok y.block ∧ rowAt w y cs ∧ Rep P w ok n x.ty cs x.d
  d6 : x.tag = 6 → ∃ vs : Array Value, v = .tuple vs ∧ vs.size = x.tys.length ∧ ∀ k t, x.tys[k]? = some t → RepV P w ok t (vs.getD k undef) (fieldD x.d k)
  d9 : x.tag = 9 → v = undef

structure RelX (P : Program) (base : Nat) (w0 : World) (okA : Nat → Prop) (st : St) (ok : Nat → Prop) (β : Nat → Nat × Nat) (a : Act) (w : World) : Prop where
  len : st.sl.length = a.tmps.size
  df : a.defers = []
  bel : Below base w0 w
  bas : base ≤ w.heap.size
  okb : ∀ b, ok b → b < w.heap.size ∧ (okA b ∨ base ≤ b)
  sep : ∀ b i e, ok b → st.bx i = some e → e.live = true → (β i).1 ≠ b
  inj : ∀ i j e f, st.bx i = some e → st.bx j = some f → e.live = true → f.live = true → (β i).1 = (β j).1 → i = j
  own : ∀ i e, st.bx i = some e → e.live = true → base ≤ (β i).1 ∧ (β i).1 < w.heap.size
  box : ∀ i e, st.bx i = some e → e.row = 0 → ∃ cs : Array Value, w.heap[(β i).1]? = some (.cells cs e.ty (0, 0)) ∧ ∃ n, Rep P w ok n e.ty cs.toList e.d
  row : ∀ i e, st.bx i = some e → e.row ≠ 0 → RowOK P w ok (β i) e
  slot : ∀ i, RepAV P w ok β st.bx (st.get i) (a.tmps.getD i undef)
  nd : ∀ i, (st.get i).tag = 2 → (st.bx (st.get i).id).isSome = true

section
variable {P : Program} {w w' : World} {ok ok' : Nat → Prop} {β : Nat → Nat × Nat} {bx : Nat → Option Ent}

theorem live_box {e : Ent} (h : e.row = 0) : e.live = true := by unfold Ent.live; rw [h]; rfl

theorem repAV_dead (v : Value) : RepAV P w ok β bx dead v := ⟨by simp [dead], by simp [dead], by simp [dead], by simp [dead], by simp [dead], by simp [dead]⟩
theorem repAV_undA : RepAV P w ok β bx undA undef := ⟨by simp [undA], by simp [undA], by simp [undA], by simp [undA], by simp [undA], fun _ => rfl⟩
theorem repAV_dat {t : TypeId} {v : Value} {d : D} (h : RepV P w ok t v d) : RepAV P w ok β bx (dat t d) v := ⟨fun _ => h, by simp [dat], by simp [dat], by simp [dat], by simp [dat], by simp [dat]⟩
theorem repAV_refp {t : TypeId} {y : Addr} {cs : List Value} {n : Nat} {d : D} (h1 : ok y.block) (h2 : rowAt w y cs) (h3 : Rep P w ok n t cs d) : RepAV P w ok β bx (refp t d) (.pointer (some y)) :=
  ⟨by simp [refp], by simp [refp], by simp [refp], fun _ => ⟨y, cs, n, rfl, h1, h2, h3⟩, by simp [refp], by simp [refp]⟩

theorem RowOK.move {b : Nat × Nat} {e : Ent} (h : RowOK P w ok b e) (hh : e.live = true → w'.heap[b.1]? = w.heap[b.1]?) (hb : ∀ b, ok b → w'.heap[b]? = w.heap[b]?) (hk : ∀ b, ok b → ok' b) : RowOK P w' ok' b e := by
  obtain ⟨el, h1, h2, h3, h4, h5⟩ := h
  refine ⟨el, h1, h2, h3, h4, fun hl => ?_⟩
  obtain ⟨cur, n, g1, g2, g3, g4, g5⟩ := h5 hl
  exact ⟨cur, n, by rw [hh hl]; exact g1, g2, g3, g4, fun i y hy => (g5 i y hy).move hb hk⟩

theorem RepAV.move (hb : ∀ b, ok b → w'.heap[b]? = w.heap[b]?) (hk : ∀ b, ok b → ok' b) {x : AV} {v : Value} (h : RepAV P w ok β bx x v) : RepAV P w' ok' β bx x v := by
  refine ⟨fun e => (h.d1 e).move hb hk, h.d2, h.d5, fun e => ?_, fun e => ?_, h.d9⟩
  · obtain ⟨y, cs, n, e1, e2, e3, e4⟩ := h.d3 e
    exact ⟨y, cs, n, e1, hk _ e2, rowAt_move e3 (hb _ e2), e4.move hb hk⟩
  · obtain ⟨vs, e1, e2, e3⟩ := h.d6 e
    exact ⟨vs, e1, e2, fun k t ht => (e3 k t ht).move hb hk⟩

variable {base : Nat} {w0 : World} {okA : Nat → Prop} {st : St} {a : Act}

theorem get_put {d : Option Nat} {x : AV} {i : Nat} : (st.put d x).get i = if d = some i ∧ i < st.sl.length then x else st.get i := by
  cases d with
  | none => simp [St.put, St.get]
  | some d =>
    simp only [St.put, St.get, List.getD, List.getElem?_set, Option.some.injEq]
    by_cases h : d = i
    · subst h
      by_cases hl : d < st.sl.length
      · simp [hl]
      · simp [hl, List.getElem?_eq_none (Nat.le_of_not_lt hl)]
    · simp [h]

theorem tmps_put {d : Option Nat} {v : Value} {i : Nat} : (a.put d v).tmps.getD i undef = if d = some i ∧ i < a.tmps.size then v else a.tmps.getD i undef := by
  cases d with
  | none => simp [Act.put]
  | some d =>
    simp only [Act.put, Array.getD_eq_getD_getElem?, Array.getElem?_setIfInBounds, Option.some.injEq]
    by_cases h : d = i
    · subst h
      by_cases hl : d < a.tmps.size
      · simp [hl]
      · simp [hl, Array.getElem?_eq_none (Nat.le_of_not_lt hl)]
    · simp [h]

theorem put_bx {d : Option Nat} {x : AV} : (st.put d x).bx = st.bx := by cases d <;> rfl
theorem put_len {d : Option Nat} {x : AV} : (st.put d x).sl.length = st.sl.length := by cases d <;> simp [St.put]
theorem tput_size {d : Option Nat} {v : Value} : (a.put d v).tmps.size = a.tmps.size := by cases d <;> simp [Act.put]
theorem tput_defers {d : Option Nat} {v : Value} : (a.put d v).defers = a.defers := by cases d <;> simp [Act.put]

theorem RelX.put (R : RelX P base w0 okA st ok β a w) {x : AV} {v : Value} (h : RepAV P w ok β st.bx x v) (hx : x.tag = 2 → (st.bx x.id).isSome = true) (d : Option Nat) :
    RelX P base w0 okA (st.put d x) ok β (a.put d v) w := by
  refine ⟨by rw [put_len, tput_size]; exact R.len, by rw [tput_defers]; exact R.df, R.bel, R.bas, R.okb, by rw [put_bx]; exact R.sep, by rw [put_bx]; exact R.inj, by rw [put_bx]; exact R.own, by rw [put_bx]; exact R.box, by rw [put_bx]; exact R.row, fun i => ?_, fun i => ?_⟩
  · rw [get_put, tmps_put, put_bx, R.len]
    split
    · exact h
    · exact R.slot i
  · rw [get_put, put_bx]
    split
    · exact hx
    · exact R.nd i

/-- The world has grown. -/
theorem RelX.grow (R : RelX P base w0 okA st ok β a w) (hb : Below w.heap.size w w') (hk : ∀ b, ok b → ok' b) (hn : ∀ b, ok' b → ok b ∨ (w.heap.size ≤ b ∧ b < w'.heap.size)) :
    RelX P base w0 okA st ok' β a w' := by
  have hsame : ∀ b, ok b → w'.heap[b]? = w.heap[b]? := fun b h => hb.block b (R.okb b h).1
  refine ⟨R.len, R.df, R.bel.trans (hb.mono R.bas), Nat.le_trans R.bas hb.size, fun b h => ?_, fun b i e h hi hl => ?_, R.inj, fun i e hi hl => ?_, fun i e hi h0 => ?_, fun i e hi h0 => ?_, fun i => (R.slot i).move hsame hk, R.nd⟩
  · rcases hn b h with h | h
    · exact ⟨Nat.lt_of_lt_of_le (R.okb b h).1 hb.size, (R.okb b h).2⟩
    · exact ⟨h.2, .inr (Nat.le_trans R.bas h.1)⟩
  · rcases hn b h with h | h
    · exact R.sep b i e h hi hl
    · have := (R.own i e hi hl).2; omega
  · exact ⟨(R.own i e hi hl).1, Nat.lt_of_lt_of_le (R.own i e hi hl).2 hb.size⟩
  · obtain ⟨cs, h1, n, h2⟩ := R.box i e hi h0
    exact ⟨cs, by rw [hb.block _ (R.own i e hi (live_box h0)).2]; exact h1, n, h2.move hsame hk⟩
  · exact (R.row i e hi h0).move (fun hl => hb.block _ (R.own i e hi hl).2) hsame hk

theorem RelX.drawn (R : RelX P base w0 okA st ok β a w) : RelX P base w0 okA st ok β a { w with drawn := w.drawn + 1 } :=
  R.grow (w' := { w with drawn := w.drawn + 1 }) ⟨rfl, rfl, rfl, Nat.le_refl _, fun _ _ => rfl⟩ (fun _ h => h) (fun _ h => .inl h)

theorem upd_get (d : Nat) (e : Ent) (i : Nat) : (st.upd d e).get i = st.get i := rfl
theorem upd_bx (d : Nat) (e : Ent) (j : Nat) : (st.upd d e).bx j = if j = d then some e else st.bx j := rfl
theorem alloc_new (w : World) (o : Obj) : (w.alloc o).heap[w.heap.size]? = some o := (MapKept.heap_alloc w o).1

theorem renew_bx (d : Nat) (e : Ent) (j : Nat) : (st.renew d e).bx j = if j = d then some e else st.bx j := rfl
theorem renew_get (d : Nat) (e : Ent) (j : Nat) : (st.renew d e).get j = killA d (st.get j) := by
  show (st.sl.map (killA d)).getD j dead = killA d (st.sl.getD j dead)
  rw [List.getD_eq_getElem?_getD, List.getD_eq_getElem?_getD, List.getElem?_map]
  cases st.sl[j]? with
  | none => rfl
  | some v => rfl

/-- A block of a box or a row is new, or is written: of whatever else nothing turns. 'W' is what of the slots stays. -/
theorem RelX.put1 (R : RelX P base w0 okA st ok β a w) {st' : St} {d : Nat} {e' : Ent} {b : Nat × Nat} (hbx : ∀ j, st'.bx j = if j = d then some e' else st.bx j) (hlen : st'.sl.length = st.sl.length)
    (hbel : Below base w w') (hsz : w.heap.size ≤ w'.heap.size) (hoth : ∀ k, k < w.heap.size → (∀ e, st.bx d = some e → e.live = true → k ≠ (β d).1) → w'.heap[k]? = w.heap[k]?)
    (hnew : e'.live = true → b.1 < w'.heap.size ∧ (w.heap.size ≤ b.1 ∨ (b.1 = (β d).1 ∧ ∃ e, st.bx d = some e ∧ e.live = true)))
    (h0 : e'.row = 0 → ∃ cs : Array Value, w'.heap[b.1]? = some (.cells cs e'.ty (0, 0)) ∧ ∃ n, Rep P w ok n e'.ty cs.toList e'.d)
    (h1 : (∀ b, ok b → w'.heap[b]? = w.heap[b]?) → e'.row ≠ 0 → RowOK P w' ok b e')
    (hslot : (∀ b, ok b → w'.heap[b]? = w.heap[b]?) → ∀ i, RepAV P w' ok (fun i => if i = d then b else β i) st'.bx (st'.get i) (a.tmps.getD i undef))
    (hnd : ∀ i, (st'.get i).tag = 2 → (st'.bx (st'.get i).id).isSome = true) :
    RelX P base w0 okA st' ok (fun i => if i = d then b else β i) a w' := by
  have hother : ∀ i e, i ≠ d → st.bx i = some e → e.live = true → w'.heap[(β i).1]? = w.heap[(β i).1]? := fun i e hne hi hl =>
    hoth _ (R.own i e hi hl).2 (fun f hf hfl heq => hne (R.inj i d e f hi hf hl hfl heq))
  have hsame : ∀ b, ok b → w'.heap[b]? = w.heap[b]? := fun b h => hoth b (R.okb b h).1 (fun f hf hfl heq => R.sep b d f h hf hfl heq.symm)
  refine ⟨by rw [hlen]; exact R.len, R.df, R.bel.trans hbel, Nat.le_trans R.bas hsz, fun b h => ⟨Nat.lt_of_lt_of_le (R.okb b h).1 hsz, (R.okb b h).2⟩, ?_, ?_, ?_, ?_, ?_, hslot hsame, hnd⟩
  · intro b' i e hb' hi hl
    rw [hbx] at hi
    by_cases hd : i = d
    · simp only [hd, if_true, Option.some.injEq] at hi ⊢
      subst hi
      rcases (hnew hl).2 with hn | ⟨hn, f, hf, hfl⟩
      · have := (R.okb b' hb').1; omega
      · rw [hn]; exact R.sep b' d f hb' hf hfl
    · simp only [hd, if_false] at hi ⊢
      exact R.sep b' i e hb' hi hl
  · intro i j e f hi hj hel hfl he
    rw [hbx] at hi hj
    have key : ∀ i e, i ≠ d → st.bx i = some e → e.live = true → e'.live = true → (β i).1 ≠ b.1 := by
      intro i e hne hi hl hl' heq
      rcases (hnew hl').2 with hn | ⟨hn, f, hf, hfl⟩
      · have := (R.own i e hi hl).2; omega
      · exact hne (R.inj i d e f hi hf hl hfl (by rw [heq, hn]))
    by_cases h1 : i = d <;> by_cases h2 : j = d
    · rw [h1, h2]
    · simp only [h1, h2, if_true, if_false, Option.some.injEq] at he hj hi
      subst hi
      exact absurd he.symm (key j f h2 hj hfl hel)
    · simp only [h1, h2, if_true, if_false, Option.some.injEq] at he hi hj
      subst hj
      exact absurd he (key i e h1 hi hel hfl)
    · simp only [h1, h2, if_false] at he hi hj
      exact R.inj i j e f hi hj hel hfl he
  · intro i e hi hl
    rw [hbx] at hi
    by_cases h1 : i = d
    · simp only [h1, if_true, Option.some.injEq] at hi ⊢
      subst hi
      refine ⟨?_, (hnew hl).1⟩
      rcases (hnew hl).2 with hn | ⟨hn, f, hf, hfl⟩
      · exact Nat.le_trans R.bas hn
      · rw [hn]; exact (R.own d f hf hfl).1
    · simp only [h1, if_false] at hi ⊢
      exact ⟨(R.own i e hi hl).1, Nat.lt_of_lt_of_le (R.own i e hi hl).2 hsz⟩
  · intro i e hi hr
    rw [hbx] at hi
    by_cases h1 : i = d
    · simp only [h1, if_true, Option.some.injEq] at hi ⊢
      subst hi
      obtain ⟨cs, e1, n, e2⟩ := h0 hr
      exact ⟨cs, e1, n, e2.move hsame (fun _ h => h)⟩
    · simp only [h1, if_false] at hi ⊢
      obtain ⟨c, e1, m, e2⟩ := R.box i e hi hr
      exact ⟨c, by rw [hother i e h1 hi (live_box hr)]; exact e1, m, e2.move hsame (fun _ h => h)⟩
  · intro i e hi hr
    rw [hbx] at hi
    by_cases h2 : i = d
    · simp only [h2, if_true, Option.some.injEq] at hi ⊢
      subst hi
      exact h1 hsame hr
    · simp only [h2, if_false] at hi ⊢
      exact (R.row i e hi hr).move (hother i e h2 hi) hsame (fun _ h => h)

/-- A new box. -/
theorem RelX.newBox (R : RelX P base w0 okA st ok β a w) {d : Nat} {t : TypeId} {z : D} {cs : Array Value} {n : Nat} (hf : st.bx d = none) (hr : Rep P w ok n t cs.toList z) :
    RelX P base w0 okA (st.upd d ⟨t, z, 0⟩) ok (fun i => if i = d then (w.heap.size, 0) else β i) a (w.alloc (.cells cs t)) := by
  have hb : Below w.heap.size w (w.alloc (.cells cs t)) := (Below.refl _ _).alloc (Nat.le_refl _) _
  have hsz : (w.alloc (.cells cs t)).heap.size = w.heap.size + 1 := by simp
  refine R.put1 (b := (w.heap.size, 0)) (upd_bx d _) rfl (hb.mono R.bas) (by omega) (fun k hk _ => hb.block k hk) (fun _ => ⟨by omega, .inl (Nat.le_refl _)⟩) (fun _ => ⟨cs, alloc_new w _, n, hr⟩) (fun _ h => absurd rfl h) ?_ ?_
  · intro hsame i
    have hs := (R.slot i).move hsame (fun _ h => h)
    have hne : (st.get i).tag = 2 → (st.get i).id ≠ d := fun ht hid => by
      have := R.nd i ht
      rw [hid, hf] at this
      cases this
    refine ⟨hs.d1, fun ht e he => ?_, fun ht e he => ?_, hs.d3, hs.d6, hs.d9⟩
    · rw [upd_get] at ht he ⊢
      rw [upd_bx, if_neg (hne ht)] at he
      simp only [hne ht, if_false]
      exact hs.d2 ht e he
    · rw [upd_get] at ht he ⊢
      rw [upd_bx, if_neg (hne ht)] at he
      simp only [hne ht, if_false]
      exact hs.d5 ht e he
  · intro i ht
    rw [upd_get] at ht ⊢
    rw [upd_bx]
    split
    · rfl
    · exact R.nd i ht

/-- A box is written. -/
theorem RelX.setBox (R : RelX P base w0 okA st ok β a w) {d : Nat} {e : Ent} {z : D} {cs old : Array Value} {n : Nat} (he : st.bx d = some e) (he0 : e.row = 0)
    (ho : w.heap[(β d).1]? = some (.cells old e.ty (0, 0))) (hr : Rep P w ok n e.ty cs.toList z) :
    ∃ β', RelX P base w0 okA (st.upd d ⟨e.ty, z, 0⟩) ok β' a (w.setRow (β d).1 cs) := by
  have hown := R.own d e he (live_box he0)
  have hoth : ∀ k, k ≠ (β d).1 → (w.setRow (β d).1 cs).heap[k]? = w.heap[k]? := fun k hk => setRow_other w (β d).1 k cs hk
  have hsz : (w.setRow (β d).1 cs).heap.size = w.heap.size := by simp [World.setRow]
  refine ⟨_, R.put1 (b := β d) (upd_bx d _) rfl ⟨rfl, rfl, rfl, by rw [hsz]; exact Nat.le_refl _, fun k hk => hoth k (by omega)⟩ (by omega) (fun k _ hk => hoth k (hk e he (live_box he0)))
    (fun _ => ⟨by rw [hsz]; exact hown.2, .inr ⟨rfl, e, he, live_box he0⟩⟩) (fun _ => ⟨cs, setRow_heap w (β d).1 old cs e.ty (0, 0) ho, n, hr⟩) (fun _ h => absurd rfl h) ?_ ?_⟩
  · intro hsame i
    have hs := (R.slot i).move hsame (fun _ h => h)
    have hβ : ∀ j, (if j = d then β d else β j) = β j := fun j => by split <;> simp_all
    refine ⟨hs.d1, fun ht f hf => ?_, fun ht f hf h0 => ?_, hs.d3, hs.d6, hs.d9⟩
    · rw [upd_get] at ht hf ⊢
      rw [upd_bx] at hf
      rw [hβ]
      by_cases h1 : (st.get i).id = d
      · rw [if_pos h1] at hf
        cases hf
        exact fun _ => hs.d2 ht e (by rw [h1]; exact he) he0
      · rw [if_neg h1] at hf
        exact hs.d2 ht f hf
    · rw [upd_get] at ht hf ⊢
      rw [upd_bx] at hf
      rw [hβ]
      by_cases h1 : (st.get i).id = d
      · rw [if_pos h1] at hf
        cases hf
        exact absurd rfl h0
      · rw [if_neg h1] at hf
        exact hs.d5 ht f hf h0
  · intro i ht
    rw [upd_get] at ht ⊢
    rw [upd_bx]
    split
    · rfl
    · exact R.nd i ht

/-- A row is new, or another one, and nothing leads to it but what comes now. -/
theorem RelX.newRow (R : RelX P base w0 okA st ok β a w) {d : Nat} {e' : Ent} {b : Nat × Nat} (hrow : e'.row ≠ 0)
    (hbel : Below base w w') (hsz : w.heap.size ≤ w'.heap.size) (hoth : ∀ k, k < w.heap.size → (∀ e, st.bx d = some e → e.live = true → k ≠ (β d).1) → w'.heap[k]? = w.heap[k]?)
    (hnew : e'.live = true → b.1 < w'.heap.size ∧ (w.heap.size ≤ b.1 ∨ (b.1 = (β d).1 ∧ ∃ e, st.bx d = some e ∧ e.live = true)))
    (h1 : (∀ b, ok b → w'.heap[b]? = w.heap[b]?) → RowOK P w' ok b e') :
    RelX P base w0 okA (st.renew d e') ok (fun i => if i = d then b else β i) a w' := by
  refine R.put1 (b := b) (renew_bx d e') (by simp [St.renew]) hbel hsz hoth hnew (fun h => absurd h hrow) (fun h _ => h1 h) ?_ ?_
  · intro hsame i
    rw [renew_get]
    unfold killA
    split
    · exact repAV_dead _
    · rename_i hne
      have hs := (R.slot i).move hsame (fun _ h => h)
      have hid : (st.get i).tag = 2 → (st.get i).id ≠ d := fun ht hid => hne (by simp [ht, hid])
      refine ⟨hs.d1, fun ht e he => ?_, fun ht e he => ?_, hs.d3, hs.d6, hs.d9⟩
      · rw [renew_bx, if_neg (hid ht)] at he
        simp only [hid ht, if_false]
        exact hs.d2 ht e he
      · rw [renew_bx, if_neg (hid ht)] at he
        simp only [hid ht, if_false]
        exact hs.d5 ht e he
  · intro i ht
    rw [renew_get] at ht ⊢
    unfold killA at ht ⊢
    split at ht
    · simp [dead] at ht
    · rename_i hne
      rw [if_neg hne, renew_bx]
      split
      · rfl
      · exact R.nd i ht

/-! ### Operands -/
theorem opd_rep (R : RelX P base w0 okA st ok β a w) (t : TypeId) (x : Operand) : RepAV P w ok β st.bx (opd P st t x) (a.eval x) := by
  cases x with
  | tmp i => exact R.slot i
  | const v =>
    simp only [opd, Act.eval, constD]
    split
    · exact repAV_dead _
    · rename_i h1
      have h1 : P.cellsOf t = 1 := by simpa using h1
      split
      · rename_i hu; exact repAV_dat (repV_bool hu h1)
      · rename_i hu
        split
        · rename_i h; rw [h.1]; exact repAV_dat (repV_int hu h1 h.2)
        · exact repAV_dead _
      · rename_i s hu
        split
        · rename_i h
          refine repAV_dat ⟨⟨1, by simp [Value.cells, h1], by simp [Value.cells, Value.oneCell'], ?_⟩, by simp [isAggB, hu], fun _ => rfl⟩
          rw [hu]
          exact ⟨by simp [Value.cells], by simpa using h⟩
        · exact repAV_dead _
      · rename_i hu
        refine repAV_dat ⟨⟨1, by simp [Value.cells, h1], by simp [Value.cells, Value.oneCell'], ?_⟩, by simp [isAggB, hu], fun _ => rfl⟩
        rw [hu]
        exact ⟨rfl, none, 0, by simp [Value.cells], Nat.le_refl _, Nat.zero_le _, fun _ => rfl, fun x hx => by cases hx⟩
      · exact repAV_dead _
  | global g => exact repAV_dead _
  | func f =>
    simp only [opd, Act.eval]
    split
    · rename_i hu
      split
      · rename_i h1
        refine repAV_dat ⟨⟨1, by simp [Value.cells, h1], by simp [Value.cells, Value.oneCell'], ?_⟩, by simp [isAggB, hu], fun _ => rfl⟩
        rw [hu]
        exact ⟨by simp [Value.cells], f, rfl⟩
      · exact repAV_dead _
    · exact repAV_dead _

end
end Go.Ev
