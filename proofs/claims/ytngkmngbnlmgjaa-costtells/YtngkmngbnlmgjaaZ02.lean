/- Trees of functions, and lemmas. Nothing here is trusted. -/
import Derived.Test.YtngkmngbnlmgjaaZ01
import Derived.Laws.StructEq
import Derived.Laws.CopyRow
namespace Go.Ev
open Go.RowKit
set_option linter.unusedVariables false
set_option linter.unusedSimpArgs false
def rowAt (w : World) (x : Addr) (cs : List Value) : Prop := ∀ j v, cs[j]? = some v -> w.cell? (x.add j) = some v

/-- Cells 'cs' of type t, with all that they lead to in blocks that are 'ok', read as d. -/
def Rep (P : Program) (w : World) (ok : Nat -> Prop) : Nat -> TypeId -> List Value -> D -> Prop
 | 0, _, _, _ => False
 | n + 1, t, cs, d =>
  cs.length = P.cellsOf t /\ (∀ v ∈ cs, v.oneCell' = true) /\
  match P.underlying t, d with
  | some .bool, .lit (.bool b) => cs = [.bool b]
  | some (.int k), .lit (.int k' z) => k' = k /\ cs = [.int k z] /\ (Lit.int k z).wf = true
  | some .string, .lit (.string s) => cs = [.string ⟨s.toArray⟩] /\ s.length <= maxLen
  | some (.slice e), .slice es sp => sp = [] /\ ∃ a cap, cs = [.slice a es.length cap] /\ es.length <= cap /\ cap <= maxLen /\ (a = none -> cap = 0) /\
    ∀ x, a = some x -> ∀ i y, es[i]? = some y -> ok x.block /\ ∃ c : List Value, rowAt w (x.add (i * P.cellsOf e)) c /\ Rep P w ok n e c y
  | some (.struct fs), .agg ps => ps.length = fs.size /\
    ∀ k f, fs[k]? = some f -> Rep P w ok n f.type ((cs.drop f.offset).take (P.cellsOf f.type)) (ps.getD k .nil)
  | some (.array m e), .agg ps => ps.length = m /\
    ∀ k, k < m -> Rep P w ok n e ((cs.drop (k * P.cellsOf e)).take (P.cellsOf e)) (ps.getD k .nil)
  | some (.func _ _ _), .held v => cs = [v] /\ (v = .nilFunc \/ (∃ f, v = .func (.func f) #[] #[]) \/ ∃ l, v = .func (.yield l) #[] #[])
  | some (.map _ _), .held v => cs = [v] /\ ∃ b, v = .map b
  | some (.func _ _ _), .agg ps => ∃ (f : FuncId) (r : Value) (t0 : TypeId) (x : D), ps = [.held (.func (.func f) #[] #[]), .lit (.int .u64 (t0 : Int)), x] /\ cs = [.func (.func f) #[r] #[]] /\
    Rep P w ok n t0 r.cells.toList x /\ (isAggB P t0 = true -> ∃ cs, r = .agg cs) /\ (isAggB P t0 = false -> r.cells = #[r])
  | _, _ => False

section
variable {P : Program} {w w' : World} {ok ok' : Nat -> Prop}

theorem Rep.len {n : Nat} {t : TypeId} {cs : List Value} {d : D} (h : Rep P w ok n t cs d) : cs.length = P.cellsOf t := by
 cases n with
 | zero => exact h.elim
 | succ n => exact h.1

theorem Rep.one {n : Nat} {t : TypeId} {cs : List Value} {d : D} (h : Rep P w ok n t cs d) : ∀ v ∈ cs, v.oneCell' = true := by
 cases n with
 | zero => exact h.elim
 | succ n => exact h.2.1

theorem rowAt_move {x : Addr} {cs : List Value} (h : rowAt w x cs) (hb : w'.heap[x.block]? = w.heap[x.block]?) : rowAt w' x cs := by
 intro j v hj
 have e : (x.add j).block = x.block := by unfold Addr.add; split <;> rfl
 rw [World.cell?_of_block (w := w) (w' := w') (a := x.add j) (by rw [e]; exact hb)]
 exact h j v hj

theorem Addr.add_block (x : Addr) (j : Nat) : (x.add j).block = x.block := by unfold Addr.add; split <;> rfl

/-- What is read stays so in a world in which those blocks are as they were. -/
theorem Rep.move (hb : ∀ b, ok b -> w'.heap[b]? = w.heap[b]?) (hk : ∀ b, ok b -> ok' b) : ∀ {n : Nat} {t : TypeId} {cs : List Value} {d : D}, Rep P w ok n t cs d -> Rep P w' ok' n t cs d
 | 0, _, _, _, h => h.elim
 | n + 1, t, cs, d, h => by
  obtain ⟨h1, h2, h3⟩ := h
  refine ⟨h1, h2, ?_⟩
  split at h3
  ·exact h3
  ·exact h3
  ·exact h3
  ·obtain ⟨hsp, a, cap, e1, e2, e3, e4, e5⟩ := h3
   refine ⟨hsp, a, cap, e1, e2, e3, e4, fun x hx i y hy => ?_⟩
   obtain ⟨hox, c, hc, hr⟩ := e5 x hx i y hy
   exact ⟨hk _ hox, c, rowAt_move hc (by rw [Addr.add_block]; exact hb _ hox), Rep.move hb hk hr⟩
  ·exact ⟨h3.1, fun k f hf => Rep.move hb hk (h3.2 k f hf)⟩
  ·exact ⟨h3.1, fun k hlt => Rep.move hb hk (h3.2 k hlt)⟩
  ·exact h3
  ·exact h3
  ·obtain ⟨f, r, t0, x, e1, e2, e3, e4⟩ := h3
   exact ⟨f, r, t0, x, e1, e2, Rep.move hb hk e3, e4⟩
  ·exact h3.elim

theorem Rep.succ : ∀ {n : Nat} {t : TypeId} {cs : List Value} {d : D}, Rep P w ok n t cs d -> Rep P w ok (n + 1) t cs d
 | 0, _, _, _, h => h.elim
 | n + 1, t, cs, d, h => by
  obtain ⟨h1, h2, h3⟩ := h
  refine ⟨h1, h2, ?_⟩
  split at h3
  ·exact h3
  ·exact h3
  ·exact h3
  ·obtain ⟨hsp, a, cap, e1, e2, e3, e4, e5⟩ := h3
   refine ⟨hsp, a, cap, e1, e2, e3, e4, fun x hx i y hy => ?_⟩
   obtain ⟨ho, c, hc, hr⟩ := e5 x hx i y hy
   exact ⟨ho, c, hc, Rep.succ hr⟩
  ·exact ⟨h3.1, fun k f hf => Rep.succ (h3.2 k f hf)⟩
  ·exact ⟨h3.1, fun k hlt => Rep.succ (h3.2 k hlt)⟩
  ·exact h3
  ·exact h3
  ·obtain ⟨f, r, t0, x, e1, e2, e3, e4⟩ := h3
   exact ⟨f, r, t0, x, e1, e2, Rep.succ e3, e4⟩
  ·exact h3.elim

theorem Rep.le {n m : Nat} {t : TypeId} {cs : List Value} {d : D} (h : Rep P w ok n t cs d) (hm : n <= m) : Rep P w ok m t cs d := by
 induction m with
 | zero => have : n = 0 := by omega
           subst this; exact h
 | succ m ih =>
  by_cases e : n = m + 1
  ·subst e; exact h
  ·exact Rep.succ (ih (by omega))

/-! ### Looking at the shape -/
theorem Rep.int {n : Nat} {t : TypeId} {cs : List Value} {d : D} {k : IntKind} (h : Rep P w ok n t cs d) (hu : P.underlying t = some (.int k)) :
  ∃ z, d = .lit (.int k z) /\ cs = [.int k z] /\ (Lit.int k z).wf = true := by
 cases n with
 | zero => exact h.elim
 | succ n =>
  obtain ⟨h1, h2, h3⟩ := h
  rw [hu] at h3
  split at h3 <;> simp_all

theorem Rep.bool {n : Nat} {t : TypeId} {cs : List Value} {d : D} (h : Rep P w ok n t cs d) (hu : P.underlying t = some .bool) :
  ∃ b, d = .lit (.bool b) /\ cs = [.bool b] := by
 cases n with
 | zero => exact h.elim
 | succ n =>
  obtain ⟨h1, h2, h3⟩ := h
  rw [hu] at h3
  split at h3 <;> simp_all

theorem Rep.string {n : Nat} {t : TypeId} {cs : List Value} {d : D} (h : Rep P w ok n t cs d) (hu : P.underlying t = some .string) :
  ∃ s, d = .lit (.string s) /\ cs = [.string ⟨s.toArray⟩] /\ s.length <= maxLen := by
 cases n with
 | zero => exact h.elim
 | succ n =>
  obtain ⟨h1, h2, h3⟩ := h
  rw [hu] at h3
  split at h3 <;> simp_all

theorem Rep.func {n : Nat} {t : TypeId} {cs : List Value} {d : D} {a b : Array TypeId} {c : Bool} (h : Rep P w ok n t cs d) (hu : P.underlying t = some (.func a b c)) :
  ∃ v, cs = [v] /\ ((d = .held v /\ (v = .nilFunc \/ (∃ f, v = .func (.func f) #[] #[]) \/ ∃ l, v = .func (.yield l) #[] #[])) \/ ∃ (f : FuncId) (r : Value) (t0 : TypeId) (x : D), d = bndD f t0 x /\ v = .func (.func f) #[r] #[] /\
   (∃ m, Rep P w ok m t0 r.cells.toList x) /\ (isAggB P t0 = true -> ∃ cs, r = .agg cs) /\ (isAggB P t0 = false -> r.cells = #[r])) := by
 cases n with
 | zero => exact h.elim
 | succ n =>
  obtain ⟨h1, h2, h3⟩ := h
  rw [hu] at h3
  split at h3 <;> try (simp_all; done)
  rename_i ps _ _ _
  obtain ⟨f, r, t0, x, rfl, rfl, e3, e4, e5⟩ := h3
  exact ⟨_, rfl, .inr ⟨f, r, t0, x, rfl, rfl, ⟨n, e3⟩, e4, e5⟩⟩

theorem Rep.slice {n : Nat} {t e : TypeId} {cs : List Value} {d : D} (h : Rep P w ok n t cs d) (hu : P.underlying t = some (.slice e)) :
  ∃ m es a cap, n = m + 1 /\ d = .slice es [] /\ cs = [.slice a es.length cap] /\ es.length <= cap /\ cap <= maxLen /\ (a = none -> cap = 0) /\
   ∀ x, a = some x -> ∀ i y, es[i]? = some y -> ok x.block /\ ∃ c : List Value, rowAt w (x.add (i * P.cellsOf e)) c /\ Rep P w ok m e c y := by
 cases n with
 | zero => exact h.elim
 | succ n =>
  obtain ⟨h1, h2, h3⟩ := h
  rw [hu] at h3
  split at h3 <;> try (simp_all; done)

theorem Rep.struct {n : Nat} {t : TypeId} {cs : List Value} {d : D} {fs : Array Field} (h : Rep P w ok n t cs d) (hu : P.underlying t = some (.struct fs)) :
  ∃ m ps, n = m + 1 /\ d = .agg ps /\ ps.length = fs.size /\
   ∀ k f, fs[k]? = some f -> Rep P w ok m f.type ((cs.drop f.offset).take (P.cellsOf f.type)) (ps.getD k .nil) := by
 cases n with
 | zero => exact h.elim
 | succ n =>
  obtain ⟨h1, h2, h3⟩ := h
  rw [hu] at h3
  split at h3 <;> try (simp_all; done)

theorem normD_eq {n : Nat} {t : TypeId} {cs : List Value} {d : D} (h : Rep P w ok n t cs d) : normD P t d = d := by
 unfold normD
 split
 ·rename_i k hu
  obtain ⟨z, rfl, _⟩ := h.int hu
  rfl
 ·rename_i hu
  obtain ⟨z, rfl, _⟩ := h.bool hu
  rfl
 ·rfl

/-! ### Memory-free readings -/
theorem chkRep_sound : ∀ {n : Nat} {t : TypeId} {cs : List Value} {d : D}, chkRep P n t cs d = true -> Rep P w ok n t cs d
 | 0, _, _, _, h => by simp [chkRep] at h
 | n + 1, t, cs, d, h => by
  unfold chkRep at h
  rw [Bool.and_eq_true, Bool.and_eq_true] at h
  obtain ⟨⟨h1, h2⟩, h3⟩ := h
  refine ⟨by simpa using h1, by simpa using h2, ?_⟩
  split at h3
  ·split at h3
   ·simp_all
   ·simp at h3
  ·rename_i hu
   rw [hu]
   split at h3
   ·simp only [Bool.and_eq_true, beq_iff_eq] at h3
    obtain ⟨⟨⟨a, b⟩, c⟩, e⟩ := h3
    subst a b c
    exact ⟨rfl, rfl, e⟩
   ·simp at h3
  ·rename_i hu
   rw [hu]
   split at h3
   ·rename_i b
    simp only [Bool.and_eq_true, beq_iff_eq, decide_eq_true_eq] at h3
    obtain ⟨a, c⟩ := h3
    subst a
    exact ⟨by simp, c⟩
   ·simp at h3
  ·rename_i hu
   rw [hu]
   split at h3
   ·exact ⟨rfl, none, 0, rfl, Nat.le_refl _, Nat.zero_le _, fun _ => rfl, fun x hx => by cases hx⟩
   ·simp at h3
  ·rename_i fs ps hu
   rw [Bool.and_eq_true] at h3
   obtain ⟨a, b⟩ := h3
   rw [hu]
   refine ⟨by simpa using a, fun k f hf => ?_⟩
   rw [List.all_eq_true] at b
   have hlt : k < fs.size := (Array.getElem?_eq_some_iff.1 hf).1
   have := b k (List.mem_range.2 hlt)
   rw [hf] at this
   exact chkRep_sound this
  ·rename_i hu
   rw [hu]
   split at h3
   ·exact ⟨rfl, .inl rfl⟩
   ·simp at h3
  ·rename_i hu
   rw [hu]
   split at h3
   ·exact ⟨rfl, none, rfl⟩
   ·simp at h3
  ·rename_i m e ps hu
   rw [Bool.and_eq_true] at h3
   obtain ⟨a, b⟩ := h3
   rw [hu]
   refine ⟨by simpa using a, fun k hlt => ?_⟩
   rw [List.all_eq_true] at b
   exact chkRep_sound (b k (List.mem_range.2 hlt))
  ·simp at h3

/-! ### A part written over -/
def splice (cs : List Value) (off : Nat) (part : List Value) : List Value := cs.take off ++ part ++ cs.drop (off + part.length)

theorem splice_length {cs part : List Value} {off : Nat} (h : off + part.length <= cs.length) : (splice cs off part).length = cs.length := by
 simp [splice]; omega

theorem splice_same {cs part : List Value} {off : Nat} (h : off + part.length <= cs.length) : ((splice cs off part).drop off).take part.length = part := by
 have : (cs.take off).length = off := by simp; omega
 simp only [splice, List.append_assoc]
 rw [List.drop_append_of_le_length (by omega), List.drop_of_length_le (by omega)]
 simp

theorem splice_get {cs part : List Value} {off j : Nat} (h : off + part.length <= cs.length) (hj : j < off \/ off + part.length <= j) : (splice cs off part)[j]? = cs[j]? := by
 have h1 : (cs.take off).length = off := by simp; omega
 simp only [splice, List.append_assoc]
 rcases hj with hj | hj
 ·rw [List.getElem?_append_left (by omega), List.getElem?_take_of_lt hj]
 ·rw [List.getElem?_append_right (by omega), List.getElem?_append_right (by omega), List.getElem?_drop]
  congr 1
  omega

theorem splice_apart {cs part : List Value} {off o m : Nat} (h : off + part.length <= cs.length) (hj : o + m <= off \/ off + part.length <= o) :
  ((splice cs off part).drop o).take m = (cs.drop o).take m := by
 apply List.ext_getElem?
 intro j
 by_cases hm : j < m
 ·rw [List.getElem?_take_of_lt hm, List.getElem?_take_of_lt hm, List.getElem?_drop, List.getElem?_drop]
  exact splice_get h (by omega)
 ·rw [List.getElem?_take_eq_none (by omega), List.getElem?_take_eq_none (by omega)]

theorem mem_splice {cs part : List Value} {off : Nat} {v : Value} (h : v ∈ splice cs off part) : v ∈ cs \/ v ∈ part := by
 simp only [splice, List.mem_append] at h
 rcases h with (h | h) | h
 ·exact .inl (List.mem_of_mem_take h)
 ·exact .inr h
 ·exact .inl (List.mem_of_mem_drop h)

theorem layOK_spec {fs : Array Field} {size : Nat} (h : layOK P fs size = true) {i j : Nat} {f g : Field} (hi : fs[i]? = some f) (hj : fs[j]? = some g) :
  f.offset + P.cellsOf f.type <= size /\ 0 < P.cellsOf f.type /\ (i = j \/ f.offset + P.cellsOf f.type <= g.offset \/ g.offset + P.cellsOf g.type <= f.offset) := by
 unfold layOK at h
 rw [List.all_eq_true] at h
 have hlt : i < fs.size := (Array.getElem?_eq_some_iff.1 hi).1
 have hlt' : j < fs.size := (Array.getElem?_eq_some_iff.1 hj).1
 have h1 := h i (List.mem_range.2 hlt)
 rw [hi] at h1
 simp only [Bool.and_eq_true, decide_eq_true_eq, List.all_eq_true] at h1
 obtain ⟨⟨a, b⟩, c⟩ := h1
 have h2 := c j (List.mem_range.2 hlt')
 rw [hj] at h2
 simp only [Bool.or_eq_true, beq_iff_eq, decide_eq_true_eq] at h2
 refine ⟨a, b, ?_⟩
 rcases h2 with (h2 | h2) | h2
 ·exact .inl h2
 ·exact .inr (.inl h2)
 ·exact .inr (.inr h2)

theorem fieldOf_spec {t : TypeId} {k : Nat} {f : Field} (h : fieldOf P t k = some f) :
  ∃ fs, P.underlying t = some (.struct fs) /\ layOK P fs (P.cellsOf t) = true /\ fs[k]? = some f := by
 unfold fieldOf at h
 split at h
 ·rename_i fs hu
  split at h
  ·rename_i hl
   exact ⟨fs, hu, hl, h⟩
  ·cases h
 ·cases h

theorem Rep.field {n : Nat} {t : TypeId} {cs : List Value} {d : D} {k : Nat} {f : Field} (h : Rep P w ok n t cs d) (hf : fieldOf P t k = some f) :
  ∃ m, Rep P w ok m f.type ((cs.drop f.offset).take (P.cellsOf f.type)) (fieldD d k) := by
 obtain ⟨fs, hu, hl, hk⟩ := fieldOf_spec hf
 obtain ⟨m, ps, rfl, rfl, hlen, hp⟩ := h.struct hu
 exact ⟨m, hp k f hk⟩

theorem Rep.set {n m : Nat} {t : TypeId} {cs part : List Value} {d x : D} {k : Nat} {f : Field} {fs : Array Field} (h : Rep P w ok n t cs d)
  (hu : P.underlying t = some (.struct fs)) (hl : layOK P fs (P.cellsOf t) = true) (hk : fs[k]? = some f) (hx : Rep P w ok m f.type part x) :
  ∃ n', Rep P w ok n' t (splice cs f.offset part) (setD d k x) := by
 have hlen := h.len
 have hone := h.one
 obtain ⟨n0, ps, rfl, rfl, hps, hp⟩ := h.struct hu
 have hpl := hx.len
 have hfit := (layOK_spec hl hk hk).1
 have hfit' : f.offset + part.length <= cs.length := by omega
 refine ⟨max n0 m + 1, ?_, ?_, ?_⟩
 ·rw [splice_length hfit', hlen]
 ·intro v hv
  rcases mem_splice hv with hv | hv
  ·exact hone v hv
  ·exact hx.one v hv
 ·rw [hu]
  refine ⟨by simpa [setD, partsD] using hps, fun j g hj => ?_⟩
  have hklt : k < ps.length := by rw [hps]; exact (Array.getElem?_eq_some_iff.1 hk).1
  by_cases e : k = j
  ·subst e
   rw [hk] at hj
   cases hj
   rw [<- hpl, splice_same hfit']
   have : (partsD (.agg ps) |>.set k x).getD k .nil = x := by simp [partsD, List.getD, hklt]
   rw [this]
   exact hx.le (by omega)
  ·have ha := (layOK_spec hl hk hj).2.2
   rw [splice_apart hfit' (by rw [hpl]; omega)]
   have : (partsD (.agg ps) |>.set k x).getD j .nil = ps.getD j .nil := by simp [partsD, List.getD, List.getElem?_set_ne e]
   rw [this]
   exact (hp j g hj).le (by omega)

/-- Values: a struct or an array lies in one piece. -/
def RepV (P : Program) (w : World) (ok : Nat -> Prop) (t : TypeId) (v : Value) (d : D) : Prop :=
 (∃ n, Rep P w ok n t v.cells.toList d) /\ (isAggB P t = true -> ∃ cs, v = .agg cs) /\ (isAggB P t = false -> v.cells = #[v])

theorem RepV.move (hb : ∀ b, ok b -> w'.heap[b]? = w.heap[b]?) (hk : ∀ b, ok b -> ok' b) {t : TypeId} {v : Value} {d : D} (h : RepV P w ok t v d) : RepV P w' ok' t v d :=
 ⟨h.1.imp fun n hn => hn.move hb hk, h.2⟩

theorem RepV.int {t : TypeId} {v : Value} {d : D} {k : IntKind} (h : RepV P w ok t v d) (hu : P.underlying t = some (.int k)) : ∃ z, d = .lit (.int k z) /\ v = .int k z /\ (Lit.int k z).wf = true := by
 obtain ⟨⟨n, hn⟩, _, h2⟩ := h
 obtain ⟨z, rfl, hc, hw⟩ := hn.int hu
 have h3 := h2 (by simp [isAggB, hu])
 rw [h3] at hc
 simp at hc
 exact ⟨z, rfl, hc, hw⟩

theorem RepV.bool {t : TypeId} {v : Value} {d : D} (h : RepV P w ok t v d) (hu : P.underlying t = some .bool) : ∃ b, d = .lit (.bool b) /\ v = .bool b := by
 obtain ⟨⟨n, hn⟩, _, h2⟩ := h
 obtain ⟨z, rfl, hc⟩ := hn.bool hu
 have h3 := h2 (by simp [isAggB, hu])
 rw [h3] at hc
 simp at hc
 exact ⟨z, rfl, hc⟩

theorem RepV.func {t : TypeId} {v : Value} {d : D} {a b : Array TypeId} {c : Bool} (h : RepV P w ok t v d) (hu : P.underlying t = some (.func a b c)) :
  (d = .held v /\ (v = .nilFunc \/ (∃ f, v = .func (.func f) #[] #[]) \/ ∃ l, v = .func (.yield l) #[] #[])) \/ ∃ (f : FuncId) (r : Value) (t0 : TypeId) (x : D), d = bndD f t0 x /\ v = .func (.func f) #[r] #[] /\ RepV P w ok t0 r x := by
 obtain ⟨⟨n, hn⟩, _, h2⟩ := h
 obtain ⟨z, hc, hz⟩ := hn.func hu
 have h3 := h2 (by simp [isAggB, hu])
 rw [h3] at hc
 simp at hc
 subst hc
 exact hz

theorem RepV.slice {t e : TypeId} {v : Value} {d : D} (h : RepV P w ok t v d) (hu : P.underlying t = some (.slice e)) :
  ∃ m es a cap, d = .slice es [] /\ v = .slice a es.length cap /\ es.length <= cap /\ cap <= maxLen /\ (a = none -> cap = 0) /\
   ∀ x, a = some x -> ∀ i y, es[i]? = some y -> ok x.block /\ ∃ c : List Value, rowAt w (x.add (i * P.cellsOf e)) c /\ Rep P w ok m e c y := by
 obtain ⟨⟨n, hn⟩, _, h2⟩ := h
 obtain ⟨m, es, a, cap, rfl, rfl, hc, r⟩ := hn.slice hu
 have h3 := h2 (by simp [isAggB, hu])
 rw [h3] at hc
 simp at hc
 exact ⟨m, es, a, cap, rfl, hc, r⟩

theorem RepV.norm {t : TypeId} {v : Value} {d : D} (h : RepV P w ok t v d) : RepV P w ok t v (normD P t d) := by
 obtain ⟨⟨n, hn⟩, r⟩ := h
 rw [normD_eq hn]
 exact ⟨⟨n, hn⟩, r⟩

theorem repV_int {t : TypeId} {k : IntKind} {z : Int} (hu : P.underlying t = some (.int k)) (h1 : P.cellsOf t = 1) (hw : (Lit.int k z).wf = true) : RepV P w ok t (.int k z) (.lit (.int k z)) := by
 refine ⟨⟨1, by simp [Value.cells, h1], by simp [Value.cells, Value.oneCell'], ?_⟩, by simp [isAggB, hu], fun _ => rfl⟩
 rw [hu]
 exact ⟨rfl, rfl, hw⟩

theorem repV_bool {t : TypeId} {b : Bool} (hu : P.underlying t = some .bool) (h1 : P.cellsOf t = 1) : RepV P w ok t (.bool b) (.lit (.bool b)) := by
 refine ⟨⟨1, by simp [Value.cells, h1], by simp [Value.cells, Value.oneCell'], ?_⟩, by simp [isAggB, hu], fun _ => rfl⟩
 rw [hu]
 rfl

end
end Go.Ev
