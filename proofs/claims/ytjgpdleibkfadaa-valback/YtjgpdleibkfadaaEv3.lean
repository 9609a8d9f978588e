/- The evaluator's states and the machine's: what ties them, and that it holds behind every operation. Nothing here is trusted. -/
import Derived.Test.YtjgpdleibkfadaaEv2
import Derived.ChangeKeysEq
namespace Go.Ev
open Go.RowKit
set_option linter.unusedVariables false
set_option linter.unusedSimpArgs false

structure RepAV (P : Program) (w : World) (ok : Nat → Prop) (β : Nat → Nat) (bx : Nat → Option Ent) (x : AV) (v : Value) : Prop where
  d1 : x.tag = 1 → RepV P w ok x.ty v x.d
  d2 : x.tag = 2 → ∀ e, bx x.id = some e → v = .pointer (some ⟨β x.id, x.off, none⟩) ∧ (x.ix = 0 → x.off = 0 ∧ e.ty = x.ty) ∧
    (∀ k, x.ix = k + 1 → ∃ f, fieldOf P e.ty k = some f ∧ f.offset = x.off ∧ f.type = x.ty)
  d3 : x.tag = 3 → ∃ y cs n, v = .pointer (some y) ∧ ok y.block ∧ rowAt w y cs ∧ Rep P w ok n x.ty cs x.d
  d6 : x.tag = 6 → ∃ vs : Array Value, v = .tuple vs ∧ vs.size = x.tys.length ∧ ∀ k t, x.tys[k]? = some t → RepV P w ok t (vs.getD k undef) (fieldD x.d k)
  d9 : x.tag = 9 → v = undef

structure RelX (P : Program) (base : Nat) (w0 : World) (okA : Nat → Prop) (st : St) (ok : Nat → Prop) (β : Nat → Nat) (a : Act) (w : World) : Prop where
  len : st.sl.length = a.tmps.size
  df : a.defers = []
  bel : Below base w0 w
  bas : base ≤ w.heap.size
  okb : ∀ b, ok b → b < w.heap.size ∧ (okA b ∨ base ≤ b)
  sep : ∀ b i e, ok b → st.bx i = some e → β i ≠ b
  inj : ∀ i j e f, st.bx i = some e → st.bx j = some f → β i = β j → i = j
  own : ∀ i e, st.bx i = some e → base ≤ β i ∧ β i < w.heap.size
  box : ∀ i e, st.bx i = some e → ∃ cs : Array Value, w.heap[β i]? = some (.cells cs e.ty (0, 0)) ∧ ∃ n, Rep P w ok n e.ty cs.toList e.d
  slot : ∀ i, RepAV P w ok β st.bx (st.get i) (a.tmps.getD i undef)
  nd : ∀ i, (st.get i).tag = 2 → (st.bx (st.get i).id).isSome = true

section
variable {P : Program} {w w' : World} {ok ok' : Nat → Prop} {β : Nat → Nat} {bx : Nat → Option Ent}

theorem repAV_dead (v : Value) : RepAV P w ok β bx dead v := ⟨by simp [dead], by simp [dead], by simp [dead], by simp [dead], by simp [dead]⟩
theorem repAV_undA : RepAV P w ok β bx undA undef := ⟨by simp [undA], by simp [undA], by simp [undA], by simp [undA], fun _ => rfl⟩
theorem repAV_dat {t : TypeId} {v : Value} {d : D} (h : RepV P w ok t v d) : RepAV P w ok β bx (dat t d) v := ⟨fun _ => h, by simp [dat], by simp [dat], by simp [dat], by simp [dat]⟩
theorem repAV_refp {t : TypeId} {y : Addr} {cs : List Value} {n : Nat} {d : D} (h1 : ok y.block) (h2 : rowAt w y cs) (h3 : Rep P w ok n t cs d) : RepAV P w ok β bx (refp t d) (.pointer (some y)) :=
  ⟨by simp [refp], by simp [refp], fun _ => ⟨y, cs, n, rfl, h1, h2, h3⟩, by simp [refp], by simp [refp]⟩

theorem RepAV.move (hb : ∀ b, ok b → w'.heap[b]? = w.heap[b]?) (hk : ∀ b, ok b → ok' b) {x : AV} {v : Value} (h : RepAV P w ok β bx x v) : RepAV P w' ok' β bx x v := by
  refine ⟨fun e => (h.d1 e).move hb hk, h.d2, fun e => ?_, fun e => ?_, h.d9⟩
  · obtain ⟨y, cs, n, e1, e2, e3, e4⟩ := h.d3 e
    exact ⟨y, cs, n, e1, hk _ e2, rowAt_move e3 (hb _ e2), e4.move hb hk⟩
  · obtain ⟨vs, e1, e2, e3⟩ := h.d6 e
    exact ⟨vs, e1, e2, fun k t ht => (e3 k t ht).move hb hk⟩

variable {base : Nat} {w0 : World} {okA : Nat → Prop} {st : St} {a : Act}

theorem get_put {d : Option Nat} {x : AV} {i : Nat} : (st.put d x).get i = if d = some i ∧ i < st.sl.length then x else st.get i := by
  cases d with
  | none => simp [St.put, St.get]
  | some d =>
    simp only [St.put, St.get, List.getD, List.getElem?_set, Option.some.injEq]
    by_cases h : d = i
    · subst h
      by_cases hl : d < st.sl.length
      · simp [hl]
      · simp [hl, List.getElem?_eq_none (Nat.le_of_not_lt hl)]
    · simp [h]

theorem tmps_put {d : Option Nat} {v : Value} {i : Nat} : (a.put d v).tmps.getD i undef = if d = some i ∧ i < a.tmps.size then v else a.tmps.getD i undef := by
  cases d with
  | none => simp [Act.put]
  | some d =>
    simp only [Act.put, Array.getD_eq_getD_getElem?, Array.getElem?_setIfInBounds, Option.some.injEq]
    by_cases h : d = i
    · subst h
      by_cases hl : d < a.tmps.size
      · simp [hl]
      · simp [hl, Array.getElem?_eq_none (Nat.le_of_not_lt hl)]
    · simp [h]

theorem put_bx {d : Option Nat} {x : AV} : (st.put d x).bx = st.bx := by cases d <;> rfl
theorem put_len {d : Option Nat} {x : AV} : (st.put d x).sl.length = st.sl.length := by cases d <;> simp [St.put]
theorem tput_size {d : Option Nat} {v : Value} : (a.put d v).tmps.size = a.tmps.size := by cases d <;> simp [Act.put]
theorem tput_defers {d : Option Nat} {v : Value} : (a.put d v).defers = a.defers := by cases d <;> simp [Act.put]

theorem RelX.put (R : RelX P base w0 okA st ok β a w) {x : AV} {v : Value} (h : RepAV P w ok β st.bx x v) (hx : x.tag = 2 → (st.bx x.id).isSome = true) (d : Option Nat) :
    RelX P base w0 okA (st.put d x) ok β (a.put d v) w := by
  refine ⟨by rw [put_len, tput_size]; exact R.len, by rw [tput_defers]; exact R.df, R.bel, R.bas, R.okb, by rw [put_bx]; exact R.sep, by rw [put_bx]; exact R.inj, by rw [put_bx]; exact R.own, by rw [put_bx]; exact R.box, fun i => ?_, fun i => ?_⟩
  · rw [get_put, tmps_put, put_bx, R.len]
    split
    · exact h
    · exact R.slot i
  · rw [get_put, put_bx]
    split
    · exact hx
    · exact R.nd i

/-- The world has grown. -/
theorem RelX.grow (R : RelX P base w0 okA st ok β a w) (hb : Below w.heap.size w w') (hk : ∀ b, ok b → ok' b) (hn : ∀ b, ok' b → ok b ∨ (w.heap.size ≤ b ∧ b < w'.heap.size)) :
    RelX P base w0 okA st ok' β a w' := by
  have hsame : ∀ b, ok b → w'.heap[b]? = w.heap[b]? := fun b h => hb.block b (R.okb b h).1
  refine ⟨R.len, R.df, R.bel.trans (hb.mono R.bas), Nat.le_trans R.bas hb.size, fun b h => ?_, fun b i e h hi => ?_, R.inj, fun i e hi => ?_, fun i e hi => ?_, fun i => (R.slot i).move hsame hk, R.nd⟩
  · rcases hn b h with h | h
    · exact ⟨Nat.lt_of_lt_of_le (R.okb b h).1 hb.size, (R.okb b h).2⟩
    · exact ⟨h.2, .inr (Nat.le_trans R.bas h.1)⟩
  · rcases hn b h with h | h
    · exact R.sep b i e h hi
    · have := (R.own i e hi).2; omega
  · exact ⟨(R.own i e hi).1, Nat.lt_of_lt_of_le (R.own i e hi).2 hb.size⟩
  · obtain ⟨cs, h1, n, h2⟩ := R.box i e hi
    exact ⟨cs, by rw [hb.block _ (R.own i e hi).2]; exact h1, n, h2.move hsame hk⟩

theorem RelX.drawn (R : RelX P base w0 okA st ok β a w) : RelX P base w0 okA st ok β a { w with drawn := w.drawn + 1 } :=
  R.grow (w' := { w with drawn := w.drawn + 1 }) ⟨rfl, rfl, rfl, Nat.le_refl _, fun _ _ => rfl⟩ (fun _ h => h) (fun _ h => .inl h)

theorem upd_get (d : Nat) (e : Ent) (i : Nat) : (st.upd d e).get i = st.get i := rfl
theorem upd_bx (d : Nat) (e : Ent) (j : Nat) : (st.upd d e).bx j = if j = d then some e else st.bx j := rfl
theorem alloc_new (w : World) (o : Obj) : (w.alloc o).heap[w.heap.size]? = some o := (MapKept.heap_alloc w o).1

/-- A new box. -/
theorem RelX.newBox (R : RelX P base w0 okA st ok β a w) {d : Nat} {t : TypeId} {z : D} {cs : Array Value} {n : Nat} (hf : st.bx d = none) (hr : Rep P w ok n t cs.toList z) :
    RelX P base w0 okA (st.upd d ⟨t, z⟩) ok (fun i => if i = d then w.heap.size else β i) a (w.alloc (.cells cs t)) := by
  have hb : Below w.heap.size w (w.alloc (.cells cs t)) := (Below.refl _ _).alloc (Nat.le_refl _) _
  have hsz : (w.alloc (.cells cs t)).heap.size = w.heap.size + 1 := by simp
  have hsame : ∀ b, ok b → (w.alloc (.cells cs t)).heap[b]? = w.heap[b]? := fun b h => hb.block b (R.okb b h).1
  refine ⟨R.len, R.df, R.bel.trans (hb.mono R.bas), by rw [hsz]; have := R.bas; omega, fun b h => ⟨by rw [hsz]; have := (R.okb b h).1; omega, (R.okb b h).2⟩, ?_, ?_, ?_, ?_, ?_, ?_⟩
  · intro b i e hb' hi
    simp only [St.upd] at hi
    by_cases hd : i = d
    · simp only [hd, if_true]
      have := (R.okb b hb').1; omega
    · simp only [hd, if_false] at hi ⊢
      exact R.sep b i e hb' hi
  · intro i j e f hi hj he
    simp only [St.upd] at hi hj
    by_cases h1 : i = d <;> by_cases h2 : j = d
    · rw [h1, h2]
    · simp only [h1, h2, if_true, if_false] at he hj
      have := (R.own j f hj).2; omega
    · simp only [h1, h2, if_true, if_false] at he hi
      have := (R.own i e hi).2; omega
    · simp only [h1, h2, if_false] at he hi hj
      exact R.inj i j e f hi hj he
  · intro i e hi
    simp only [St.upd] at hi
    by_cases h1 : i = d
    · simp only [h1, if_true]; rw [hsz]; exact ⟨R.bas, by omega⟩
    · simp only [h1, if_false] at hi ⊢
      rw [hsz]
      exact ⟨(R.own i e hi).1, by have := (R.own i e hi).2; omega⟩
  · intro i e hi
    simp only [St.upd] at hi
    by_cases h1 : i = d
    · simp only [h1, if_true, Option.some.injEq] at hi ⊢
      subst hi
      exact ⟨cs, alloc_new w _, n, hr.move hsame (fun _ h => h)⟩
    · simp only [h1, if_false] at hi ⊢
      obtain ⟨c, e1, m, e2⟩ := R.box i e hi
      exact ⟨c, by rw [hb.block _ (R.own i e hi).2]; exact e1, m, e2.move hsame (fun _ h => h)⟩
  · intro i
    have hs := (R.slot i).move hsame (fun _ h => h)
    refine ⟨hs.d1, fun ht e he => ?_, hs.d3, hs.d6, hs.d9⟩
    rw [upd_get] at ht he ⊢
    have hne : (st.get i).id ≠ d := fun hid => by
      have := R.nd i ht
      rw [hid, hf] at this
      cases this
    rw [upd_bx, if_neg hne] at he
    simp only [hne, if_false]
    exact hs.d2 ht e he
  · intro i ht
    rw [upd_get] at ht ⊢
    rw [upd_bx]
    split
    · rfl
    · exact R.nd i ht

/-- A box is written. -/
theorem RelX.setBox (R : RelX P base w0 okA st ok β a w) {d : Nat} {e : Ent} {z : D} {cs old : Array Value} {n : Nat} (he : st.bx d = some e)
    (ho : w.heap[β d]? = some (.cells old e.ty (0, 0))) (hr : Rep P w ok n e.ty cs.toList z) :
    RelX P base w0 okA (st.upd d ⟨e.ty, z⟩) ok β a (w.setRow (β d) cs) := by
  have hown := R.own d e he
  have hoth : ∀ k, k ≠ β d → (w.setRow (β d) cs).heap[k]? = w.heap[k]? := fun k hk => setRow_other w (β d) k cs hk
  have hsame : ∀ b, ok b → (w.setRow (β d) cs).heap[b]? = w.heap[b]? := fun b h => hoth b (Ne.symm (R.sep b d e h he))
  have hsz : (w.setRow (β d) cs).heap.size = w.heap.size := by simp [World.setRow]
  refine ⟨R.len, R.df, R.bel.trans ⟨rfl, rfl, rfl, by rw [hsz]; exact Nat.le_refl _, fun k hk => hoth k (by omega)⟩, by rw [hsz]; exact R.bas, fun b h => by rw [hsz]; exact R.okb b h, ?_, ?_, ?_, ?_, ?_, ?_⟩
  · intro b i f hb hi
    simp only [St.upd] at hi
    by_cases h1 : i = d
    · subst h1; exact R.sep b i e hb he
    · simp only [h1, if_false] at hi; exact R.sep b i f hb hi
  · intro i j f g hi hj hij
    simp only [St.upd] at hi hj
    have hi' : ∃ f', st.bx i = some f' := by
      by_cases h1 : i = d
      · subst h1; exact ⟨e, he⟩
      · simp only [h1, if_false] at hi; exact ⟨f, hi⟩
    have hj' : ∃ f', st.bx j = some f' := by
      by_cases h1 : j = d
      · subst h1; exact ⟨e, he⟩
      · simp only [h1, if_false] at hj; exact ⟨g, hj⟩
    obtain ⟨f', hf'⟩ := hi'
    obtain ⟨g', hg'⟩ := hj'
    exact R.inj i j f' g' hf' hg' hij
  · intro i f hi
    rw [hsz]
    simp only [St.upd] at hi
    by_cases h1 : i = d
    · subst h1; exact hown
    · simp only [h1, if_false] at hi; exact R.own i f hi
  · intro i f hi
    simp only [St.upd] at hi
    by_cases h1 : i = d
    · subst h1
      simp only [if_true, Option.some.injEq] at hi
      subst hi
      exact ⟨cs, setRow_heap w (β i) old cs e.ty (0, 0) ho, n, hr.move hsame (fun _ h => h)⟩
    · simp only [h1, if_false] at hi
      obtain ⟨c, e1, m, e2⟩ := R.box i f hi
      exact ⟨c, by rw [hoth _ (fun h => h1 (R.inj i d f e hi he h))]; exact e1, m, e2.move hsame (fun _ h => h)⟩
  · intro i
    have hs := (R.slot i).move hsame (fun _ h => h)
    refine ⟨hs.d1, fun ht f hf => ?_, hs.d3, hs.d6, hs.d9⟩
    rw [upd_get] at ht hf ⊢
    rw [upd_bx] at hf
    by_cases h1 : (st.get i).id = d
    · rw [if_pos h1] at hf
      cases hf
      exact hs.d2 ht e (by rw [h1]; exact he)
    · rw [if_neg h1] at hf
      exact hs.d2 ht f hf
  · intro i ht
    rw [upd_get] at ht ⊢
    rw [upd_bx]
    split
    · rfl
    · exact R.nd i ht

/-! ### Operands -/
theorem opd_rep (R : RelX P base w0 okA st ok β a w) (t : TypeId) (x : Operand) : RepAV P w ok β st.bx (opd P st t x) (a.eval x) := by
  cases x with
  | tmp i => exact R.slot i
  | const v =>
    simp only [opd, Act.eval, constD]
    split
    · exact repAV_dead _
    · rename_i h1
      have h1 : P.cellsOf t = 1 := by simpa using h1
      split
      · rename_i hu; exact repAV_dat (repV_bool hu h1)
      · rename_i hu
        split
        · rename_i h; rw [h.1]; exact repAV_dat (repV_int hu h1 h.2)
        · exact repAV_dead _
      · rename_i s hu
        split
        · rename_i h
          refine repAV_dat ⟨⟨1, by simp [Value.cells, h1], by simp [Value.cells, Value.oneCell'], ?_⟩, by simp [isAggB, hu], fun _ => rfl⟩
          rw [hu]
          exact ⟨by simp [Value.cells], by simpa using h⟩
        · exact repAV_dead _
      · rename_i hu
        refine repAV_dat ⟨⟨1, by simp [Value.cells, h1], by simp [Value.cells, Value.oneCell'], ?_⟩, by simp [isAggB, hu], fun _ => rfl⟩
        rw [hu]
        exact ⟨rfl, none, 0, by simp [Value.cells], Nat.le_refl _, Nat.zero_le _, fun _ => rfl, fun x hx => by cases hx⟩
      · exact repAV_dead _
  | global g => exact repAV_dead _
  | func f =>
    simp only [opd, Act.eval]
    split
    · rename_i hu
      split
      · rename_i h1
        refine repAV_dat ⟨⟨1, by simp [Value.cells, h1], by simp [Value.cells, Value.oneCell'], ?_⟩, by simp [isAggB, hu], fun _ => rfl⟩
        rw [hu]
        exact ⟨by simp [Value.cells], f, rfl⟩
      · exact repAV_dead _
    · exact repAV_dead _

end
end Go.Ev
