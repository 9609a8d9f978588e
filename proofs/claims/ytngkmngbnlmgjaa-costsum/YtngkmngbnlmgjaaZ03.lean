/- Trees of functions, and lemmas. Nothing here is trusted. -/
import Derived.Test.YtngkmngbnlmgjaaZ02
import Derived.ChangeKeysEq
import Derived.Lib.LaidTab
namespace Go.Ev
open Go.RowKit
set_option linter.unusedVariables false
set_option linter.unusedSimpArgs false
/-- The slice that leads to a row: of what block, with what room. -/
def hv (b : Nat × Nat) (e : Ent) : Value := if e.live = true then .slice (some ⟨b.1, 0, none⟩) (elemsD e.d).length b.2 else .slice none 0 0

/-- What leads to a box, or to a row. -/
def hval (b : Nat × Nat) (e : Ent) : Value := if e.row = 0 then .pointer (some ⟨b.1, 0, none⟩) else hv b e

/-- A row in memory. -/
def RowOK (P : Program) (w : World) (ok : Nat -> Prop) (b : Nat × Nat) (e : Ent) : Prop :=
 ∃ el, P.underlying e.ty = some (.slice el) /\ P.cellsOf e.ty = 1 /\ 0 < P.cellsOf el /\ (∃ es, e.d = .slice es []) /\
  (e.live = true -> ∃ (cur : Array Value) (n : Nat), w.heap[b.1]? = some (.cells cur el (0, 0)) /\ (elemsD e.d).length <= b.2 /\ b.2 <= maxLen /\ cur.size = b.2 * P.cellsOf el /\
   ∀ i y, (elemsD e.d)[i]? = some y -> Rep P w ok n el ((cur.toList.drop (i * P.cellsOf el)).take (P.cellsOf el)) y)

/-- The slice of a row's first elements. -/
def pre (b : Nat × Nat) (e : Ent) (n : Nat) : Value := if e.live = true then .slice (some ⟨b.1, 0, none⟩) n b.2 else .slice none 0 0
/-- What leads to a row: the slice, or the address of an element. -/
def RowRef (P : Program) (b : Nat × Nat) (e : Ent) (x : AV) (v : Value) : Prop :=
 (x.tys = [] -> x.ix = 0 -> v = hv b e) /\
 (x.tys ≠ [] -> ∃ el i, P.underlying e.ty = some (.slice el) /\ i < (elemsD e.d).length /\ intD x.d = (i : Int) /\ v = .pointer (some ⟨b.1, i * P.cellsOf el + x.off, none⟩) /\
  (x.ix = 0 -> x.off = 0 /\ x.ty = el) /\ (∀ k, x.ix = k + 1 -> ∃ f, fieldOf P el k = some f /\ f.offset = x.off /\ f.type = x.ty)) /\
 (x.tys = [] -> x.ix = 1 -> ∃ n : Nat, intD x.d = (n : Int) /\ n < (elemsD e.d).length /\ v = pre b e n)

/-- A struct that is held field by field: cells of it read as data, or lead to rows. -/
def SplRep (P : Program) (w : World) (ok : Nat -> Prop) (β : Nat -> Nat × Nat) (bx : Nat -> Option Ent) (x : AV) (cs : List Value) : Prop :=
 ∃ fs : Array Field, P.underlying x.ty = some (.struct fs) /\ layOK P fs (P.cellsOf x.ty) = true /\ cs.length = P.cellsOf x.ty /\ (∀ u ∈ cs, u.oneCell' = true) /\ (partsD x.d).length = fs.size /\ x.tys.length = fs.size /\
  ∀ (k : Nat) (f : Field), fs[k]? = some f ->
   (x.tys[k]? = some 0 -> ∃ n, Rep P w ok n f.type ((cs.drop f.offset).take (P.cellsOf f.type)) (fieldD x.d k)) /\
   (∀ (j : Nat) (e : Ent), x.tys[k]? = some (j + 2) -> bx j = some e -> e.row ≠ 0 /\ e.ty = f.type /\ P.cellsOf f.type = 1 /\ (cs.drop f.offset).take 1 = [hv (β j) e])
/-- Fields that are nil. -/
def NilRep (P : Program) (x : AV) (cs : List Value) : Prop := ∀ k ∈ x.tys, ∀ f, fieldOf P x.ty k = some f -> (cs.drop f.offset).take 1 = [.slice none 0 0] /\ P.cellsOf f.type = 1

/-- The address of a table's element. -/
def TabEl (P : Program) (x : AV) (v : Value) : Prop := ∃ (nm : String) (k : IntKind) (zs : List Int) (g i : Nat) (z : Int), (nm, k, zs) ∈ knownTabs /\ P.globalNamed nm = some g /\ zs[i]? = some z /\ v = .pointer (some ⟨g, i, none⟩) /\ x.d = .lit (.int k z) /\ P.underlying x.ty = some (.int k) /\ P.cellsOf x.ty = 1 /\ (Lit.int k z).wf = true
structure RepAV (P : Program) (w : World) (ok : Nat -> Prop) (β : Nat -> Nat × Nat) (bx : Nat -> Option Ent) (x : AV) (v : Value) : Prop where
 d1 : x.tag = 1 -> RepV P w ok x.ty v x.d
 d2 : x.tag = 2 -> ∀ e, bx x.id = some e -> e.row = 0 -> v = .pointer (some ⟨(β x.id).1, x.off, none⟩) /\ (x.tys = [] -> x.ix = 0 -> x.off = 0 /\ e.ty = x.ty) /\
  (∀ k, x.ix = k + 1 -> ∃ f, fieldOf P e.ty k = some f /\ f.offset = x.off /\ f.type = x.ty) /\
  (x.tys ≠ [] -> x.ix = 0 -> ∃ m el i, P.underlying e.ty = some (.array m el) /\ i < m /\ intD x.d = ((i : Nat) : Int) /\ x.off = i * P.cellsOf el /\ x.ty = el /\ 0 < P.cellsOf el)
 d5 : x.tag = 2 -> ∀ e, bx x.id = some e -> e.row ≠ 0 -> RowRef P (β x.id) e x v
 d3 : x.tag = 3 -> (x.ix = 1 -> TabEl P x v) /\ (x.ix ≠ 1 -> ∃ y cs n, v = .pointer (some y) /\ ok y.block /\ rowAt w y cs /\ Rep P w ok n x.ty cs x.d)
 d4 : x.tag = 4 -> ∃ caps : Array Value, v = .func (.func x.id) #[] caps /\ caps.size = x.tys.length /\
  ∀ (k i : Nat) (e : Ent), x.tys[k]? = some i -> bx i = some e -> e.row = 0 -> caps[k]? = some (Value.pointer (some ⟨(β i).1, 0, none⟩))
 d6 : x.tag = 6 -> ∃ vs : Array Value, v = .tuple vs /\ vs.size = x.tys.length /\ ∀ k t, x.tys[k]? = some t -> RepV P w ok t (vs.getD k undef) (fieldD x.d k)
 d9 : x.tag = 9 -> v = undef
 dF : x.tag = 1 -> x.ix = 1 -> ∃ y n, v = .slice y n n
 dN : x.tag = 1 -> (x.ix = 2 -> v = .slice none 0 0) /\ (x.ix = 3 -> ∃ y n c, v = .slice (some y) n c)
 d7 : x.tag = 7 -> SplRep P w ok β bx x v.cells.toList
 dZ : x.tag = 1 -> NilRep P x v.cells.toList

/-- All that a value leads to is there. -/
def LiveB (bx : Nat -> Option Ent) (v : AV) : Prop := ∀ j ∈ refs v, (bx j).isSome = true

/-- What is in memory where a box holds what is no data: cells, or what goes through a text. -/
def objC (v : AV) (val : Value) (t : TypeId) : Obj := if v.tag = 8 then .stringIter ⟨(strD v.d).toArray⟩ v.ix else .cells val.cells t (0, 0)
theorem objC_ne {v : AV} {val : Value} {t : TypeId} (h : v.tag ≠ 8) : objC v val t = .cells val.cells t (0, 0) := by unfold objC; rw [if_neg h]
/-- What may be there. -/
def CT (P : Program) (t : TypeId) (v : AV) : Prop := (v.tag ≠ 7 -> v.tag ≠ 8 -> one1 P t = true) /\ (v.tag = 7 -> v.ty = t) /\ (v.tag = 8 -> P.underlying t = none /\ (strD v.d).length <= maxLen)
theorem CT.dz {P : Program} {t : TypeId} {v : AV} (h : CT P t v) : CT P t (dz v) := by
 unfold Go.Ev.dz
 split
 ·rename_i h7
  have h7 : v.tag = 7 := by simpa using h7
  exact ⟨fun hh => absurd h7 hh, fun _ => h.2.1 h7, fun hh => absurd (h7.symm.trans hh) (by decide)⟩
 ·rename_i h7
  split
  ·exact h
  ·rename_i h8
   exact ⟨fun _ _ => h.1 (by simpa using h7) (by simpa using h8), fun hh => absurd hh (by simp [dead]), fun hh => absurd hh (by simp [dead])⟩
theorem objC_dz (v : AV) (val : Value) (t : TypeId) : objC (dz v) val t = objC v val t := by
 unfold dz
 split
 ·rfl
 ·split
  ·rfl
  ·rename_i h8
   rw [objC_ne (v := dead) (by simp [dead]), objC_ne (v := v) (by simpa using h8)]

theorem CT.like {P : Program} {t : TypeId} {v v' : AV} (h : CT P t v) (h1 : v'.tag = v.tag) (h2 : v'.ty = v.ty) (h3 : v'.d = v.d) : CT P t v' := by
 unfold CT
 rw [h1, h2, h3]
 exact h
theorem objC_like {v v' : AV} {val : Value} {t : TypeId} (h1 : v'.tag = v.tag) (h2 : v'.d = v.d) (h3 : v'.ix = v.ix) : objC v' val t = objC v val t := by
 unfold objC
 rw [h1, h2, h3]

/-- Boxes and rows in memory. -/
structure HeapOK (P : Program) (w : World) (ok : Nat -> Prop) (β : Nat -> Nat × Nat) (bx : Nat -> Option Ent) : Prop where
 siz : ∀ i e, bx i = some e -> e.live = true -> (β i).1 < w.heap.size
 sep : ∀ b i e, ok b -> bx i = some e -> e.live = true -> (β i).1 ≠ b
 inj : ∀ i j e f, bx i = some e -> bx j = some f -> e.live = true -> f.live = true -> (β i).1 = (β j).1 -> i = j
 box : ∀ i e, bx i = some e -> e.row = 0 -> e.c = none -> ∃ cs : Array Value, w.heap[(β i).1]? = some (.cells cs e.ty (0, 0)) /\ ∃ n, Rep P w ok n e.ty cs.toList e.d
 con : ∀ i e v, bx i = some e -> e.row = 0 -> e.c = some v -> CT P e.ty v /\ ∃ val : Value, w.heap[(β i).1]? = some (objC v val e.ty) /\ (v.tag ≠ 7 -> val.cells = #[val]) /\ RepAV P w ok β bx v val
 row : ∀ i e, bx i = some e -> e.row ≠ 0 -> RowOK P w ok (β i) e
 nb : ∀ i e v, bx i = some e -> e.c = some v -> LiveB bx v
 rc : ∀ i e, bx i = some e -> e.row ≠ 0 -> e.c = none

/-- Below a block the world is as it was, but for some blocks. -/
structure BelowX (X : Nat -> Prop) (B : Nat) (w w' : World) : Prop where
 os : w'.os = w.os
 tape : w'.tape = w.tape
 output : w'.output = w.output
 size : w.heap.size <= w'.heap.size
 block : ∀ k, k < B -> ¬ X k -> w'.heap[k]? = w.heap[k]?

theorem BelowX.refl (X : Nat -> Prop) (B : Nat) (w : World) : BelowX X B w w := ⟨rfl, rfl, rfl, Nat.le_refl _, fun _ _ _ => rfl⟩
theorem BelowX.trans {X : Nat -> Prop} {B : Nat} {a b c : World} (h : BelowX X B a b) (k : BelowX X B b c) : BelowX X B a c :=
 ⟨k.os.trans h.os, k.tape.trans h.tape, k.output.trans h.output, Nat.le_trans h.size k.size, fun i hi hx => (k.block i hi hx).trans (h.block i hi hx)⟩
theorem BelowX.of {X : Nat -> Prop} {B : Nat} {w w' : World} (h : Below B w w') : BelowX X B w w' := ⟨h.os, h.tape, h.output, h.size, fun k hk _ => h.block k hk⟩
theorem BelowX.plain {X : Nat -> Prop} {B : Nat} {w w' : World} (h : BelowX X B w w') (hX : ∀ k, ¬ X k) : Below B w w' := ⟨h.os, h.tape, h.output, h.size, fun k hk => h.block k hk (hX k)⟩

def hasVar (P : Program) (s : String) : Bool := P.globals.any fun g => g.name == s
/-- The tables that the program has read so. -/
def TabsAt (P : Program) (w : World) : Prop := ∀ x ∈ knownTabs, hasVar P x.1 = true -> Lib.TabIs P w x.1 x.2.1 x.2.2
/-- .. and go on reading so, whatever is written above, and at some blocks. -/
def TabOn (P : Program) (X : Nat -> Prop) (w : World) : Prop := ∀ w', BelowX X w.heap.size w w' -> TabsAt P w'
theorem tab_none {P : Program} (h : (knownTabs.any fun x => hasVar P x.1) = false) (w : World) : TabsAt P w := by
 intro x hx hv
 have := List.any_eq_false.1 h x hx
 exact absurd hv this
theorem tabOn_none {P : Program} (h : (knownTabs.any fun x => hasVar P x.1) = false) (X : Nat -> Prop) (w : World) : TabOn P X w := fun w' _ => tab_none h w'

/-- Where a call began: how many blocks there were, in what world, which of them data stands in, which are those of boxes and rows that it was handed, and what leads to these. -/
structure Fr (P : Program) where
 base : Nat
 w0 : World
 okA : Nat -> Prop
 X : Nat -> Prop
 pv : Nat -> Value
 pt : Nat -> TypeId
 tb : ∀ w', BelowX X base w0 w' -> TabsAt P w'
 df : List Deferred

structure RelX (P : Program) (F : Fr P) (st : St) (ok : Nat -> Prop) (β : Nat -> Nat × Nat) (a : Act) (w : World) : Prop where
 len : st.sl.length = a.tmps.size
 df : a.defers = F.df
 hp : HeapOK P w ok β st.bx
 bel : BelowX F.X F.base F.w0 w
 bas : F.base <= w.heap.size
 okb : ∀ b, ok b -> b < w.heap.size /\ (F.okA b \/ F.base <= b \/ F.X b)
 own : ∀ i e, st.bx i = some e -> e.live = true -> F.base <= (β i).1 \/ F.X (β i).1
 hdr : ∀ i e, st.bx i = some e -> ((OID <= i /\ e.row = 0) \/ e.row = 3 \/ e.row = 4) -> hval (β i) e = F.pv i /\ e.ty = F.pt i
 slot : ∀ i, RepAV P w ok β st.bx (st.get i) (a.tmps.getD i undef)
 nd : ∀ i, LiveB st.bx (st.get i)

theorem RelX.tabs {P : Program} {F : Fr P} {st : St} {ok : Nat -> Prop} {β : Nat -> Nat × Nat} {a : Act} {w : World} (R : RelX P F st ok β a w) {X : Nat -> Prop} (hX : ∀ b, X b -> F.base <= b \/ F.X b) : TabOn P X w := fun w' h =>
 F.tb w' (R.bel.trans ⟨h.os, h.tape, h.output, h.size, fun k hk hnx => h.block k (Nat.lt_of_lt_of_le hk R.bas) (fun hx => (hX k hx).elim (fun h1 => absurd hk (Nat.not_lt.2 h1)) hnx)⟩)
theorem RelX.tabs0 {P : Program} {F : Fr P} {st : St} {ok : Nat -> Prop} {β : Nat -> Nat × Nat} {a : Act} {w : World} (R : RelX P F st ok β a w) : TabOn P (fun _ => False) w := R.tabs (fun _ h => h.elim)

section
variable {P : Program} {w w' : World} {ok ok' : Nat -> Prop} {β β' : Nat -> Nat × Nat} {bx bx' : Nat -> Option Ent}

theorem live_box {e : Ent} (h : e.row = 0) : e.live = true := by unfold Ent.live; rw [h]; rfl

theorem live_of_lt {e : Ent} {i : Nat} (h : i < (elemsD e.d).length) : e.live = true := by
 unfold Ent.live
 cases hl : elemsD e.d with
 | nil => rw [hl] at h; simp at h
 | cons y l => simp
theorem not_live {e : Ent} (h : e.live = false) : elemsD e.d = [] := by
 cases hl : elemsD e.d with
 | nil => rfl
 | cons y l => rw [live_of_lt (i := 0) (by rw [hl]; simp)] at h; cases h
theorem refs_of_ne {x : AV} (h2 : x.tag ≠ 2) (h4 : x.tag ≠ 4) (h7 : x.tag ≠ 7) : refs x = [] := by unfold refs; simp [h2, h4, h7]
theorem refs_7 {x : AV} (h : x.tag = 7) : refs x = rids x := by unfold refs; simp [h]
theorem mem_rids {x : AV} {j : Nat} : j ∈ rids x ↔ (j + 2) ∈ x.tys := by
 unfold rids
 rw [List.mem_filterMap]
 constructor
 ·rintro ⟨y, hy, h⟩
  split at h
  ·cases h
  ·cases h
   have : y - 2 + 2 = y := by omega
   rw [this]; exact hy
 ·intro h
  exact ⟨j + 2, h, by simp⟩
theorem refs_2 {x : AV} (h : x.tag = 2) : refs x = [x.id] := by unfold refs; simp [h]
theorem refs_4 {x : AV} (h : x.tag = 4) : refs x = x.tys := by unfold refs; simp [h]
theorem live_of_refs {x : AV} (h : refs x = []) : LiveB bx x := by intro j hj; rw [h] at hj; cases hj
theorem live_of_ne {x : AV} (h2 : x.tag ≠ 2) (h4 : x.tag ≠ 4) (h7 : x.tag ≠ 7) : LiveB bx x := live_of_refs (refs_of_ne h2 h4 h7)
theorem refs_dead : refs dead = [] := rfl

theorem repAV_dead (v : Value) : RepAV P w ok β bx dead v := ⟨by simp [dead], by simp [dead], by simp [dead], by simp [dead], by simp [dead], by simp [dead], by simp [dead], by simp [dead], by simp [dead], by simp [dead], by simp [dead]⟩
theorem nil_none {x : AV} {cs : List Value} (h : x.tys = []) : NilRep P x cs := fun k hk => by rw [h] at hk; cases hk
theorem repAV_undA : RepAV P w ok β bx undA undef := ⟨by simp [undA], by simp [undA], by simp [undA], by simp [undA], by simp [undA], by simp [undA], fun _ => rfl, by simp [undA], by simp [undA], by simp [undA], by simp [undA]⟩
theorem repAV_dat {t : TypeId} {v : Value} {d : D} (h : RepV P w ok t v d) : RepAV P w ok β bx (dat t d) v := ⟨fun _ => h, by simp [dat], by simp [dat], by simp [dat], by simp [dat], by simp [dat], by simp [dat], by simp [dat], by simp [dat], by simp [dat], fun _ => nil_none rfl⟩
theorem repAV_ful {t : TypeId} {y : Option Addr} {n : Nat} {d : D} (h : RepV P w ok t (.slice y n n) d) : RepAV P w ok β bx (ful t d) (.slice y n n) := ⟨fun _ => h, by simp [ful], by simp [ful], by simp [ful], by simp [ful], by simp [ful], by simp [ful], fun _ _ => ⟨y, n, rfl⟩, by simp [ful], by simp [ful], fun _ => nil_none rfl⟩
theorem repAV_refp {t : TypeId} {y : Addr} {cs : List Value} {n : Nat} {d : D} (h1 : ok y.block) (h2 : rowAt w y cs) (h3 : Rep P w ok n t cs d) : RepAV P w ok β bx (refp t d) (.pointer (some y)) :=
 ⟨by simp [refp], by simp [refp], by simp [refp], fun _ => ⟨fun h => absurd h (by simp [refp]), fun _ => ⟨y, cs, n, rfl, h1, h2, h3⟩⟩, by simp [refp], by simp [refp], by simp [refp], by simp [refp], by simp [refp], by simp [refp], by simp [refp]⟩
theorem repAV_tab {t : TypeId} {k : IntKind} {z : Int} {v : Value} (h : TabEl P (tabA t k z) v) : RepAV P w ok β bx (tabA t k z) v :=
 ⟨by simp [tabA], by simp [tabA], by simp [tabA], fun _ => ⟨fun _ => h, fun h => absurd rfl h⟩, by simp [tabA], by simp [tabA], by simp [tabA], by simp [tabA], by simp [tabA], by simp [tabA], by simp [tabA]⟩
theorem RepAV.ref {x : AV} {v : Value} (h : RepAV P w ok β bx x v) (ht : x.tag = 3) (hn : ∀ k, P.underlying x.ty ≠ some (.int k)) : ∃ y cs n, v = .pointer (some y) /\ ok y.block /\ rowAt w y cs /\ Rep P w ok n x.ty cs x.d := by
 by_cases hi : x.ix = 1
 ·obtain ⟨_, k, _, _, _, _, _, _, _, _, _, hu, _⟩ := (h.d3 ht).1 hi
  exact absurd hu (hn k)
 ·exact (h.d3 ht).2 hi

theorem RowOK.move {b : Nat × Nat} {e : Ent} (h : RowOK P w ok b e) (hh : e.live = true -> w'.heap[b.1]? = w.heap[b.1]?) (hb : ∀ b, ok b -> w'.heap[b]? = w.heap[b]?) (hk : ∀ b, ok b -> ok' b) : RowOK P w' ok' b e := by
 obtain ⟨el, h1, h2, h3, h4, h5⟩ := h
 refine ⟨el, h1, h2, h3, h4, fun hl => ?_⟩
 obtain ⟨cur, n, g1, g2, g3, g4, g5⟩ := h5 hl
 exact ⟨cur, n, by rw [hh hl]; exact g1, g2, g3, g4, fun i y hy => (g5 i y hy).move hb hk⟩

/-- What leads to one leads to the other. -/
def Alike (b : Nat × Nat) (e : Ent) (b' : Nat × Nat) (e' : Ent) : Prop :=
 e'.ty = e.ty /\ (e'.row = 0 ↔ e.row = 0) /\ (e.live = true -> b'.1 = b.1) /\ (e.row ≠ 0 -> hv b' e' = hv b e /\ (elemsD e'.d).length = (elemsD e.d).length)

theorem Alike.refl (b : Nat × Nat) (e : Ent) : Alike b e b e := ⟨rfl, Iff.rfl, fun _ => rfl, fun _ => ⟨rfl, rfl⟩⟩
theorem Alike.mapC (b : Nat × Nat) (e : Ent) (g : AV -> AV) : Alike b e b (e.mapC g) := ⟨rfl, Iff.rfl, fun _ => rfl, fun _ => ⟨rfl, rfl⟩⟩

theorem alike_of {b b' : Nat × Nat} {e e' : Ent} (h : hval b' e' = hval b e) (ht : e'.ty = e.ty) : Alike b e b' e' := by
 unfold hval at h
 by_cases h1 : e'.row = 0 <;> by_cases h2 : e.row = 0
 ·rw [if_pos h1, if_pos h2] at h
  injection h with h
  injection h with h
  injection h with h
  exact ⟨ht, ⟨fun _ => h2, fun _ => h1⟩, fun _ => h, fun hh => absurd h2 hh⟩
 ·rw [if_pos h1, if_neg h2] at h
  unfold hv at h
  split at h <;> cases h
 ·rw [if_neg h1, if_pos h2] at h
  unfold hv at h
  split at h <;> cases h
 ·rw [if_neg h1, if_neg h2] at h
  refine ⟨ht, ⟨fun hh => absurd hh h1, fun hh => absurd hh h2⟩, fun hl => ?_, fun _ => ⟨h, ?_⟩⟩
  ·unfold hv at h
   rw [if_pos hl] at h
   split at h
   ·injection h with h _ _
    injection h with h
    injection h with h
   ·cases h
  ·unfold hv at h
   split at h <;> split at h
   ·injection h
   ·cases h
   ·cases h
   ·rename_i ha hb
    rw [not_live (by simpa using ha), not_live (by simpa using hb)]

theorem pre_of {b b' : Nat × Nat} {e e' : Ent} {n : Nat} (h : hv b' e' = hv b e) : pre b' e' n = pre b e n := by
 unfold hv at h
 unfold pre
 by_cases ha : e'.live = true <;> by_cases hb : e.live = true
 ·rw [if_pos ha, if_pos hb] at h
  injection h with h1 _ h2
  rw [if_pos ha, if_pos hb, h1, h2]
 ·rw [if_pos ha, if_neg hb] at h
  cases h
 ·rw [if_neg ha, if_pos hb] at h
  cases h
 ·rw [if_neg ha, if_neg hb]

/-- What is read stays so where those blocks are as they were, and what it leads to is alike. -/
theorem RepAV.tr {x : AV} {v : Value} (h : RepAV P w ok β bx x v) (hb : ∀ b, ok b -> w'.heap[b]? = w.heap[b]?) (hk : ∀ b, ok b -> ok' b)
  (hA : ∀ i ∈ refs x, ∀ e', bx' i = some e' -> ∃ e, bx i = some e /\ Alike (β i) e (β' i) e') : RepAV P w' ok' β' bx' x v := by
 refine ⟨fun e => (h.d1 e).move hb hk, fun ht e' he' h0 => ?_, fun ht e' he' h0 => ?_, fun e => ?_, fun ht => ?_, fun e => ?_, h.d9, h.dF, h.dN, fun ht => ?_, h.dZ⟩
 ·obtain ⟨e, he, a1, a2, a3, a4⟩ := hA x.id (by rw [refs_2 ht]; simp) e' he'
  obtain ⟨g1, g2, g3⟩ := h.d2 ht e he (a2.1 h0)
  rw [a1, a3 (live_box (a2.1 h0))]
  exact ⟨g1, g2, g3⟩
 ·obtain ⟨e, he, a1, a2, a3, a4⟩ := hA x.id (by rw [refs_2 ht]; simp) e' he'
  have hr : e.row ≠ 0 := fun hh => h0 (a2.2 hh)
  obtain ⟨g1, g2, g3⟩ := h.d5 ht e he hr
  obtain ⟨a5, a6⟩ := a4 hr
  refine ⟨fun t0 i0 => by rw [a5]; exact g1 t0 i0, fun t0 => ?_, fun t0 i0 => ?_⟩
  ·obtain ⟨el, k, r1, r2, r3, r4, r5⟩ := g2 t0
   exact ⟨el, k, by rw [a1]; exact r1, by rw [a6]; exact r2, r3, by rw [a3 (live_of_lt r2)]; exact r4, r5⟩
  ·obtain ⟨n, r1, r2, r3⟩ := g3 t0 i0
   exact ⟨n, r1, by rw [a6]; exact r2, by rw [pre_of a5]; exact r3⟩
 ·refine ⟨(h.d3 e).1, fun hn => ?_⟩
  obtain ⟨y, cs, n, e1, e2, e3, e4⟩ := (h.d3 e).2 hn
  exact ⟨y, cs, n, e1, hk _ e2, rowAt_move e3 (hb _ e2), e4.move hb hk⟩
 ·obtain ⟨caps, e1, e2, e3⟩ := h.d4 ht
  refine ⟨caps, e1, e2, fun k i e' hk' he' h0 => ?_⟩
  obtain ⟨e, he, a1, a2, a3, a4⟩ := hA i (by rw [refs_4 ht]; exact List.mem_of_getElem? hk') e' he'
  rw [a3 (live_box (a2.1 h0))]
  exact e3 k i e hk' he (a2.1 h0)
 ·obtain ⟨vs, e1, e2, e3⟩ := h.d6 e
  exact ⟨vs, e1, e2, fun k t ht => (e3 k t ht).move hb hk⟩
 ·obtain ⟨fs, q1, q2, q3, q4, q5, q6, q7⟩ := h.d7 ht
  refine ⟨fs, q1, q2, q3, q4, q5, q6, fun k f hf => ⟨fun hk0 => ?_, fun j e' hkj he' => ?_⟩⟩
  ·obtain ⟨n, hn⟩ := (q7 k f hf).1 hk0
   exact ⟨n, hn.move hb hk⟩
  ·obtain ⟨e, he, a1, a2, a3, a4⟩ := hA j (by rw [refs_7 ht, mem_rids]; exact List.mem_of_getElem? hkj) e' he'
   obtain ⟨hr, g1, g2, g3⟩ := (q7 k f hf).2 j e hkj he
   rw [a1, (a4 hr).1]
   exact ⟨fun hh => hr (a2.1 hh), g1, g2, g3⟩

/-- Nothing is known any more. -/
theorem dz_tag (v : AV) : ((dz v).tag = 7 ↔ v.tag = 7) /\ (v.tag = 7 -> (dz v).ty = v.ty) := by
 unfold dz
 split
 ·rename_i h
  exact ⟨Iff.rfl, fun _ => rfl⟩
 ·rename_i h
  have h7 : v.tag ≠ 7 := by simpa using h
  split
  ·exact ⟨Iff.rfl, fun _ => rfl⟩
  ·exact ⟨⟨fun hh => absurd hh (by simp [dead]), fun hh => absurd hh h7⟩, fun hh => absurd hh h7⟩
theorem refs_dz (v : AV) : refs (dz v) = [] := by
 unfold dz
 split
 ·rename_i h
  have h7 : v.tag = 7 := by simpa using h
  rw [refs_7 (x := { v with tys := v.tys.map fun c => if c < 2 then c else 1 }) h7]
  unfold rids
  rw [List.filterMap_map, List.filterMap_eq_nil_iff]
  intro (c : Nat) _
  have : (if c < 2 then c else (1 : Nat)) < 2 := by split <;> omega
  show (if (if c < 2 then c else (1 : Nat)) < 2 then none else some ((if c < 2 then c else (1 : Nat)) - 2)) = none
  rw [if_pos this]
 ·split
  ·rename_i h8
   have h8 : v.tag = 8 := by simpa using h8
   exact refs_of_ne (by omega) (by omega) (by omega)
  ·rfl
theorem repAV_8 {x : AV} {v : Value} (h8 : x.tag = 8) : RepAV P w ok β bx x v :=
 ⟨fun h => by omega, fun h => by omega, fun h => by omega, fun h => by omega, fun h => by omega, fun h => by omega, fun h => by omega, fun h => by omega, fun h => by omega, fun h => by omega, fun h => by omega⟩
theorem repAV_dz {x : AV} {v : Value} (h : RepAV P w ok β bx x v) (hb : ∀ b, ok b -> w'.heap[b]? = w.heap[b]?) (hkk : ∀ b, ok b -> ok' b) : RepAV P w' ok' β' bx' (dz x) v := by
 unfold dz
 split
 ·rename_i h7
  have h7 : x.tag = 7 := by simpa using h7
  refine ⟨fun e => by simp [h7] at e, fun e => by simp [h7] at e, fun e => by simp [h7] at e, fun e => by simp [h7] at e, fun e => by simp [h7] at e, fun e => by simp [h7] at e, fun e => by simp [h7] at e, fun e => by simp [h7] at e, fun e => by simp [h7] at e, fun _ => ?_, fun e => by simp [h7] at e⟩
  obtain ⟨fs, q1, q2, q3, q4, q5, q6, q7⟩ := h.d7 h7
  refine ⟨fs, q1, q2, q3, q4, q5, by simpa using q6, fun k f hf => ⟨fun hk => ?_, fun j e hk => ?_⟩⟩
  ·simp only [List.getElem?_map, Option.map_eq_some_iff] at hk
   obtain ⟨c, hc, hk⟩ := hk
   have hc0 : c = 0 := by
    split at hk
    ·exact hk
    ·cases hk
   rw [hc0] at hc
   obtain ⟨n, hn⟩ := (q7 k f hf).1 hc
   exact ⟨n, hn.move hb hkk⟩
  ·simp only [List.getElem?_map, Option.map_eq_some_iff] at hk
   obtain ⟨(c : Nat), _, hk⟩ := hk
   have hk : (if c < 2 then c else (1 : Nat)) = j + 2 := hk
   split at hk <;> omega
 ·split
  ·rename_i h8
   exact repAV_8 (by simpa using h8)
  ·exact repAV_dead _

theorem RepAV.move (hb : ∀ b, ok b -> w'.heap[b]? = w.heap[b]?) (hk : ∀ b, ok b -> ok' b) {x : AV} {v : Value} (h : RepAV P w ok β bx x v) : RepAV P w' ok' β bx x v :=
 h.tr hb hk (fun i _ e he => ⟨e, he, Alike.refl _ _⟩)

variable {F : Fr P} {st st' : St} {a : Act}

theorem get_put {d : Option Nat} {x : AV} {i : Nat} : (st.put d x).get i = if d = some i /\ i < st.sl.length then x else st.get i := by
 cases d with
 | none => simp [St.put, St.get]
 | some d =>
  simp only [St.put, St.get, List.getD, List.getElem?_set, Option.some.injEq]
  by_cases h : d = i
  ·subst h
   by_cases hl : d < st.sl.length
   ·simp [hl]
   ·simp [hl, List.getElem?_eq_none (Nat.le_of_not_lt hl)]
  ·simp [h]

theorem tmps_put {d : Option Nat} {v : Value} {i : Nat} : (a.put d v).tmps.getD i undef = if d = some i /\ i < a.tmps.size then v else a.tmps.getD i undef := by
 cases d with
 | none => simp [Act.put]
 | some d =>
  simp only [Act.put, Array.getD_eq_getD_getElem?, Array.getElem?_setIfInBounds, Option.some.injEq]
  by_cases h : d = i
  ·subst h
   by_cases hl : d < a.tmps.size
   ·simp [hl]
   ·simp [hl, Array.getElem?_eq_none (Nat.le_of_not_lt hl)]
  ·simp [h]

theorem put_bx {d : Option Nat} {x : AV} : (st.put d x).bx = st.bx := by cases d <;> rfl
theorem put_len {d : Option Nat} {x : AV} : (st.put d x).sl.length = st.sl.length := by cases d <;> simp [St.put]
theorem tput_size {d : Option Nat} {v : Value} : (a.put d v).tmps.size = a.tmps.size := by cases d <;> simp [Act.put]
theorem tput_defers {d : Option Nat} {v : Value} : (a.put d v).defers = a.defers := by cases d <;> simp [Act.put]

theorem RelX.put (R : RelX P F st ok β a w) {x : AV} {v : Value} (h : RepAV P w ok β st.bx x v) (hx : LiveB st.bx x) (d : Option Nat) :
  RelX P F (st.put d x) ok β (a.put d v) w := by
 refine ⟨by rw [put_len, tput_size]; exact R.len, by rw [tput_defers]; exact R.df, by rw [put_bx]; exact R.hp, R.bel, R.bas, R.okb, by rw [put_bx]; exact R.own, by rw [put_bx]; exact R.hdr, fun i => ?_, fun i => ?_⟩
 ·rw [get_put, tmps_put, put_bx, R.len]
  split
  ·exact h
  ·exact R.slot i
 ·rw [get_put, put_bx]
  split
  ·exact hx
  ·exact R.nd i

theorem HeapOK.grow (H : HeapOK P w ok β bx) (hok : ∀ b, ok b -> b < w.heap.size) (hb : Below w.heap.size w w') (hk : ∀ b, ok b -> ok' b) (hn : ∀ b, ok' b -> ok b \/ (w.heap.size <= b /\ b < w'.heap.size)) : HeapOK P w' ok' β bx := by
 have hsame : ∀ b, ok b -> w'.heap[b]? = w.heap[b]? := fun b h => hb.block b (hok b h)
 refine ⟨fun i e hi hl => Nat.lt_of_lt_of_le (H.siz i e hi hl) hb.size, fun b i e h hi hl => ?_, H.inj, fun i e hi h0 hc => ?_, fun i e v hi h0 hc => ?_, fun i e hi h0 => ?_, H.nb, H.rc⟩
 ·rcases hn b h with h | h
  ·exact H.sep b i e h hi hl
  ·have := H.siz i e hi hl; omega
 ·obtain ⟨cs, h1, n, h2⟩ := H.box i e hi h0 hc
  exact ⟨cs, by rw [hb.block _ (H.siz i e hi (live_box h0))]; exact h1, n, h2.move hsame hk⟩
 ·obtain ⟨h1, val, h2, h3, h4⟩ := H.con i e v hi h0 hc
  exact ⟨h1, val, by rw [hb.block _ (H.siz i e hi (live_box h0))]; exact h2, h3, h4.move hsame hk⟩
 ·exact (H.row i e hi h0).move (fun hl => hb.block _ (H.siz i e hi hl)) hsame hk

/-- The world has grown. -/
theorem RelX.grow (R : RelX P F st ok β a w) (hb : Below w.heap.size w w') (hk : ∀ b, ok b -> ok' b) (hn : ∀ b, ok' b -> ok b \/ (w.heap.size <= b /\ b < w'.heap.size)) :
  RelX P F st ok' β a w' := by
 have hsame : ∀ b, ok b -> w'.heap[b]? = w.heap[b]? := fun b h => hb.block b (R.okb b h).1
 refine ⟨R.len, R.df, R.hp.grow (fun b h => (R.okb b h).1) hb hk hn, R.bel.trans (.of (hb.mono R.bas)), Nat.le_trans R.bas hb.size, fun b h => ?_, R.own, R.hdr, fun i => (R.slot i).move hsame hk, R.nd⟩
 rcases hn b h with h | h
 ·exact ⟨Nat.lt_of_lt_of_le (R.okb b h).1 hb.size, (R.okb b h).2⟩
 ·exact ⟨h.2, .inr (.inl (Nat.le_trans R.bas h.1))⟩

theorem RelX.drawn (R : RelX P F st ok β a w) : RelX P F st ok β a { w with drawn := w.drawn + 1 } :=
 R.grow (w' := { w with drawn := w.drawn + 1 }) ⟨rfl, rfl, rfl, Nat.le_refl _, fun _ _ => rfl⟩ (fun _ h => h) (fun _ h => .inl h)

theorem upd_get (d : Nat) (e : Ent) (i : Nat) : (st.upd d e).get i = st.get i := rfl
theorem upd_bx (d : Nat) (e : Ent) (j : Nat) : (st.upd d e).bx j = if j = d then some e else st.bx j := rfl
theorem alloc_new (w : World) (o : Obj) : (w.alloc o).heap[w.heap.size]? = some o := (MapKept.heap_alloc w o).1

theorem map_get (g : AV -> AV) (hg : g dead = dead) (j : Nat) : (St.mk (st.sl.map g) bx').get j = g (st.get j) := by
 show (st.sl.map g).getD j dead = g (st.sl.getD j dead)
 rw [List.getD_eq_getElem?_getD, List.getD_eq_getElem?_getD, List.getElem?_map]
 cases st.sl[j]? with
 | none => exact hg.symm
 | some v => rfl

theorem killL_dead (l : List Nat) : killL l dead = dead := by unfold killL; simp [refs_dead]
theorem killL_cases (l : List Nat) (v : AV) : killL l v = dz v \/ (killL l v = v /\ ∀ j ∈ refs v, j ∉ l) := by
 unfold killL
 split
 ·exact .inl rfl
 ·rename_i h
  refine .inr ⟨rfl, fun j hj hl => h ?_⟩
  rw [List.any_eq_true]
  exact ⟨j, hj, by simpa using hl⟩

theorem renew_bx (d : Nat) (e : Ent) (j : Nat) : (st.renew d e).bx j = if j = d then some e else (st.bx j).map (Ent.mapC (killL [d])) := rfl
theorem renew_get (d : Nat) (e : Ent) (j : Nat) : (st.renew d e).get j = killL [d] (st.get j) := map_get _ (killL_dead _) j

theorem mapC_id (x : Option Ent) : x.map (Ent.mapC (fun v => v)) = x := by
 cases x with
 | none => rfl
 | some e => cases e with | mk t d r c => cases c <;> rfl

/-- A box or a row is new, or written; of what leads to things some may be forgotten. -/
theorem RelX.put1 (R : RelX P F st ok β a w) {st' : St} {d : Nat} {e' : Ent} {b : Nat × Nat} (κ : AV -> AV)
  (hbx : ∀ j, st'.bx j = if j = d then some e' else (st.bx j).map (Ent.mapC κ)) (hsl : ∀ i, st'.get i = κ (st.get i)) (hlen : st'.sl.length = st.sl.length)
  (hκ : ∀ v, LiveB st.bx v -> κ v = dz v \/ (κ v = v /\ (d ∈ refs v -> ∃ e, st.bx d = some e /\ Alike (β d) e b e')))
  (hos : w'.os = w.os) (htape : w'.tape = w.tape) (hout : w'.output = w.output) (hsz : w.heap.size <= w'.heap.size)
  (hoth : ∀ k, k < w.heap.size -> (∀ e, st.bx d = some e -> e.live = true -> k ≠ (β d).1) -> w'.heap[k]? = w.heap[k]?)
  (hnew : e'.live = true -> b.1 < w'.heap.size /\ (w.heap.size <= b.1 \/ (b.1 = (β d).1 /\ ∃ e, st.bx d = some e /\ e.live = true)))
  (h0 : e'.row = 0 -> e'.c = none -> ∃ cs : Array Value, w'.heap[b.1]? = some (.cells cs e'.ty (0, 0)) /\ ∃ n, Rep P w ok n e'.ty cs.toList e'.d)
  (h0c : ∀ v, e'.c = some v -> LiveB st.bx v /\ (d ∈ refs v -> ∃ e, st.bx d = some e /\ Alike (β d) e b e') /\
   (e'.row = 0 -> CT P e'.ty v /\ ∃ val : Value, w'.heap[b.1]? = some (objC v val e'.ty) /\ (v.tag ≠ 7 -> val.cells = #[val]) /\ RepAV P w ok β st.bx v val))
  (h1 : (∀ b, ok b -> w'.heap[b]? = w.heap[b]?) -> e'.row ≠ 0 -> RowOK P w' ok b e') (hrc : e'.row ≠ 0 -> e'.c = none)
  (hh : ((OID <= d /\ e'.row = 0) \/ e'.row = 3 \/ e'.row = 4) -> hval b e' = F.pv d /\ e'.ty = F.pt d) :
  RelX P F st' ok (fun i => if i = d then b else β i) a w' := by
 have H := R.hp
 have hget : ∀ j f', st'.bx j = some f' -> j ≠ d -> ∃ f, st.bx j = some f /\ f' = f.mapC κ := by
  intro j f' hj hne
  rw [hbx, if_neg hne] at hj
  obtain ⟨f, hf, rfl⟩ := Option.map_eq_some_iff.1 hj
  exact ⟨f, hf, rfl⟩
 have hother : ∀ i e, i ≠ d -> st.bx i = some e -> e.live = true -> w'.heap[(β i).1]? = w.heap[(β i).1]? := fun i e hne hi hl =>
  hoth _ (H.siz i e hi hl) (fun f hf hfl heq => hne (H.inj i d e f hi hf hl hfl heq))
 have hsame : ∀ b, ok b -> w'.heap[b]? = w.heap[b]? := fun b h => hoth b (R.okb b h).1 (fun f hf hfl heq => H.sep b d f h hf hfl heq.symm)
 have hsome : ∀ j, (st.bx j).isSome = true -> (st'.bx j).isSome = true := by
  intro j hj
  rw [hbx]
  split
  ·rfl
  ·simpa using hj
 have htr : ∀ v val, LiveB st.bx v -> (d ∈ refs v -> ∃ e, st.bx d = some e /\ Alike (β d) e b e') -> RepAV P w ok β st.bx v val -> RepAV P w' ok (fun i => if i = d then b else β i) st'.bx v val := by
  intro v val hl hd hr
  refine hr.tr hsame (fun _ h => h) (fun i hi f' hf' => ?_)
  by_cases hid : i = d
  ·subst hid
   obtain ⟨e, he, hal⟩ := hd hi
   rw [hbx, if_pos rfl] at hf'
   cases hf'
   exact ⟨e, he, by simpa using hal⟩
  ·obtain ⟨f, hf, rfl⟩ := hget i f' hf' hid
   exact ⟨f, hf, by simp only [hid, if_false]; exact Alike.mapC _ _ _⟩
 have hlv : ∀ v, LiveB st.bx v -> LiveB st'.bx v := fun v hl j hj => hsome j (hl j hj)
 have key : ∀ i e, i ≠ d -> st.bx i = some e -> e.live = true -> e'.live = true -> (β i).1 ≠ b.1 := by
  intro i e hne hi hl hl' heq
  rcases (hnew hl').2 with hn | ⟨hn, f, hf, hfl⟩
  ·have := H.siz i e hi hl; omega
  ·exact hne (H.inj i d e f hi hf hl hfl (by rw [heq, hn]))
 refine ⟨by rw [hlen]; exact R.len, R.df, ⟨?_, ?_, ?_, ?_, ?_, ?_, ?_, ?_⟩, ?_, Nat.le_trans R.bas hsz, fun b h => ⟨Nat.lt_of_lt_of_le (R.okb b h).1 hsz, (R.okb b h).2⟩, ?_, ?_, ?_, ?_⟩
 ·intro i f' hi hl
  by_cases h1 : i = d
  ·subst h1
   rw [hbx, if_pos rfl] at hi
   cases hi
   simp only [if_true]
   exact (hnew hl).1
  ·obtain ⟨f, hf, rfl⟩ := hget i f' hi h1
   simp only [h1, if_false]
   exact Nat.lt_of_lt_of_le (H.siz i f hf hl) hsz
 ·intro b' i f' hb' hi hl
  by_cases hd : i = d
  ·subst hd
   rw [hbx, if_pos rfl] at hi
   cases hi
   simp only [if_true]
   rcases (hnew hl).2 with hn | ⟨hn, f, hf, hfl⟩
   ·have := (R.okb b' hb').1; omega
   ·rw [hn]; exact H.sep b' i f hb' hf hfl
  ·obtain ⟨f, hf, rfl⟩ := hget i f' hi hd
   simp only [hd, if_false]
   exact H.sep b' i f hb' hf hl
 ·intro i j e1 f1 hi hj hel hfl he
  by_cases h1 : i = d <;> by_cases h2 : j = d
  ·rw [h1, h2]
  ·subst h1
   rw [hbx, if_pos rfl] at hi
   cases hi
   obtain ⟨f, hf, rfl⟩ := hget j f1 hj h2
   simp only [h2, if_true, if_false] at he
   exact absurd he.symm (key j f h2 hf hfl hel)
  ·subst h2
   rw [hbx, if_pos rfl] at hj
   cases hj
   obtain ⟨f, hf, rfl⟩ := hget i e1 hi h1
   simp only [h1, if_true, if_false] at he
   exact absurd he (key i f h1 hf hel hfl)
  ·obtain ⟨f, hf, rfl⟩ := hget i e1 hi h1
   obtain ⟨g, hg, rfl⟩ := hget j f1 hj h2
   simp only [h1, h2, if_false] at he
   exact H.inj i j f g hf hg hel hfl he
 ·intro i f' hi hr hc
  by_cases h1 : i = d
  ·subst h1
   rw [hbx, if_pos rfl] at hi
   cases hi
   simp only [if_true]
   obtain ⟨cs, e1, n, e2⟩ := h0 hr hc
   exact ⟨cs, e1, n, e2.move hsame (fun _ h => h)⟩
  ·obtain ⟨f, hf, rfl⟩ := hget i f' hi h1
   simp only [h1, if_false]
   have hc' : f.c = none := by simpa [Ent.mapC] using hc
   obtain ⟨c, e1, m, e2⟩ := H.box i f hf hr hc'
   exact ⟨c, by rw [hother i f h1 hf (live_box hr)]; exact e1, m, e2.move hsame (fun _ h => h)⟩
 ·intro i f' v hi hr hc
  by_cases h1 : i = d
  ·subst h1
   rw [hbx, if_pos rfl] at hi
   cases hi
   simp only [if_true]
   obtain ⟨g1, g2, g3⟩ := h0c v hc
   obtain ⟨g4, val, g5, g6, g7⟩ := g3 hr
   exact ⟨g4, val, g5, g6, htr v val g1 g2 g7⟩
  ·obtain ⟨f, hf, rfl⟩ := hget i f' hi h1
   simp only [h1, if_false]
   simp only [Ent.mapC, Option.map_eq_some_iff] at hc
   obtain ⟨u, hu, rfl⟩ := hc
   obtain ⟨g4, val, g5, g6, g7⟩ := H.con i f u hf hr hu
   rcases hκ u (H.nb i f u hf hu) with hk | ⟨hk, hk2⟩
   ·rw [hk]
    exact ⟨g4.dz, val, by rw [hother i f h1 hf (live_box hr), objC_dz]; exact g5, fun hh => g6 (fun h7 => hh ((dz_tag u).1.2 h7)), repAV_dz g7 hsame (fun _ h => h)⟩
   ·rw [hk]
    exact ⟨g4, val, by rw [hother i f h1 hf (live_box hr)]; exact g5, g6, htr u val (H.nb i f u hf hu) hk2 g7⟩
 ·intro i f' hi hr
  by_cases h2 : i = d
  ·subst h2
   rw [hbx, if_pos rfl] at hi
   cases hi
   simp only [if_true]
   exact h1 hsame hr
  ·obtain ⟨f, hf, rfl⟩ := hget i f' hi h2
   simp only [h2, if_false]
   exact (H.row i f hf hr).move (hother i f h2 hf) hsame (fun _ h => h)
 ·intro i f' v hi hc
  by_cases h1 : i = d
  ·subst h1
   rw [hbx, if_pos rfl] at hi
   cases hi
   exact hlv v (h0c v hc).1
  ·obtain ⟨f, hf, rfl⟩ := hget i f' hi h1
   simp only [Ent.mapC, Option.map_eq_some_iff] at hc
   obtain ⟨u, hu, rfl⟩ := hc
   rcases hκ u (H.nb i f u hf hu) with hk | ⟨hk, hk2⟩
   ·rw [hk]; exact live_of_refs (refs_dz u)
   ·rw [hk]; exact hlv u (H.nb i f u hf hu)
 ·intro i f' hi hr
  by_cases h2 : i = d
  ·subst h2
   rw [hbx, if_pos rfl] at hi
   cases hi
   exact hrc hr
  ·obtain ⟨f, hf, rfl⟩ := hget i f' hi h2
   have : f.c = none := H.rc i f hf hr
   simp [Ent.mapC, this]
 ·refine R.bel.trans ⟨hos, htape, hout, hsz, fun k hk hX => hoth k (Nat.lt_of_lt_of_le hk R.bas) (fun e he hl heq => ?_)⟩
  rcases R.own d e he hl with h | h
  ·omega
  ·exact hX (heq ▸ h)
 ·intro i f' hi hl
  by_cases h1 : i = d
  ·subst h1
   rw [hbx, if_pos rfl] at hi
   cases hi
   simp only [if_true]
   rcases (hnew hl).2 with hn | ⟨hn, f, hf, hfl⟩
   ·exact .inl (Nat.le_trans R.bas hn)
   ·rw [hn]; exact R.own i f hf hfl
  ·obtain ⟨f, hf, rfl⟩ := hget i f' hi h1
   simp only [h1, if_false]
   exact R.own i f hf hl
 ·intro i f' hi hc
  by_cases h1 : i = d
  ·subst h1
   rw [hbx, if_pos rfl] at hi
   cases hi
   simp only [if_true]
   exact hh hc
  ·obtain ⟨f, hf, rfl⟩ := hget i f' hi h1
   simp only [h1, if_false]
   exact R.hdr i f hf hc
 ·intro i
  rw [hsl]
  rcases hκ (st.get i) (R.nd i) with hk | ⟨hk, hk2⟩
  ·rw [hk]; exact repAV_dz (R.slot i) hsame (fun _ h => h)
  ·rw [hk]; exact htr _ _ (R.nd i) hk2 (R.slot i)
 ·intro i
  rw [hsl]
  rcases hκ (st.get i) (R.nd i) with hk | ⟨hk, hk2⟩
  ·rw [hk]; exact live_of_refs (refs_dz _)
  ·rw [hk]; exact hlv _ (R.nd i)

/-- The same where nothing is forgotten. -/
theorem RelX.put0 (R : RelX P F st ok β a w) {d : Nat} {e' : Ent} {b : Nat × Nat}
  (hκ : (∃ v, LiveB st.bx v /\ d ∈ refs v) -> ∃ e, st.bx d = some e /\ Alike (β d) e b e')
  (hos : w'.os = w.os) (htape : w'.tape = w.tape) (hout : w'.output = w.output) (hsz : w.heap.size <= w'.heap.size)
  (hoth : ∀ k, k < w.heap.size -> (∀ e, st.bx d = some e -> e.live = true -> k ≠ (β d).1) -> w'.heap[k]? = w.heap[k]?)
  (hnew : e'.live = true -> b.1 < w'.heap.size /\ (w.heap.size <= b.1 \/ (b.1 = (β d).1 /\ ∃ e, st.bx d = some e /\ e.live = true)))
  (h0 : e'.row = 0 -> e'.c = none -> ∃ cs : Array Value, w'.heap[b.1]? = some (.cells cs e'.ty (0, 0)) /\ ∃ n, Rep P w ok n e'.ty cs.toList e'.d)
  (h0c : ∀ v, e'.c = some v -> LiveB st.bx v /\
   (e'.row = 0 -> CT P e'.ty v /\ ∃ val : Value, w'.heap[b.1]? = some (objC v val e'.ty) /\ (v.tag ≠ 7 -> val.cells = #[val]) /\ RepAV P w ok β st.bx v val))
  (h1 : (∀ b, ok b -> w'.heap[b]? = w.heap[b]?) -> e'.row ≠ 0 -> RowOK P w' ok b e') (hrc : e'.row ≠ 0 -> e'.c = none)
  (hh : ((OID <= d /\ e'.row = 0) \/ e'.row = 3 \/ e'.row = 4) -> hval b e' = F.pv d /\ e'.ty = F.pt d) :
  RelX P F (st.upd d e') ok (fun i => if i = d then b else β i) a w' :=
 R.put1 (fun v => v) (fun j => by rw [upd_bx, mapC_id]) (fun i => rfl) rfl (fun v hl => .inr ⟨rfl, fun hd => hκ ⟨v, hl, hd⟩⟩) hos htape hout hsz hoth hnew h0
  (fun v hv => ⟨(h0c v hv).1, fun hd => hκ ⟨v, (h0c v hv).1, hd⟩, (h0c v hv).2⟩) h1 hrc hh

theorem fresh_refs {d : Nat} (hf : st.bx d = none) {Q : Prop} : (∃ v, LiveB st.bx v /\ d ∈ refs v) -> Q := by
 rintro ⟨v, hl, hd⟩
 have := hl d hd
 rw [hf] at this
 cases this

/-- A new box. -/
theorem RelX.newBox (R : RelX P F st ok β a w) {d : Nat} {t : TypeId} {z : D} {cs : Array Value} {n : Nat} (hf : st.bx d = none) (hd : d < OID) (hr : Rep P w ok n t cs.toList z) :
  RelX P F (st.upd d ⟨t, z, 0, none⟩) ok (fun i => if i = d then (w.heap.size, 0) else β i) a (w.alloc (.cells cs t)) := by
 have hb : Below w.heap.size w (w.alloc (.cells cs t)) := (Below.refl _ _).alloc (Nat.le_refl _) _
 have hsz : (w.alloc (.cells cs t)).heap.size = w.heap.size + 1 := by simp
 refine R.put0 (fresh_refs hf) rfl rfl rfl (by omega) (fun k hk _ => hb.block k hk) (fun _ => ⟨by omega, .inl (Nat.le_refl _)⟩) (fun _ _ => ⟨cs, alloc_new w _, n, hr⟩) (fun v hv => by cases hv) (fun _ h => absurd rfl h) (fun h => absurd rfl h) (fun h => ?_)
 rcases h with h | h | h
 ·omega
 ·cases h
 ·cases h

/-- A new box with what is no data. -/
theorem RelX.newCon (R : RelX P F st ok β a w) {d : Nat} {t : TypeId} {x : AV} {val : Value} (hf : st.bx d = none) (hd : d < OID) (h7 : x.tag ≠ 7) (h8 : x.tag ≠ 8) (ho : one1 P t = true) (hv : val.cells = #[val]) (hl : LiveB st.bx x) (hr : RepAV P w ok β st.bx x val) :
  RelX P F (st.upd d ⟨t, .nil, 0, some x⟩) ok (fun i => if i = d then (w.heap.size, 0) else β i) a (w.alloc (.cells #[val] t)) := by
 have hb : Below w.heap.size w (w.alloc (.cells #[val] t)) := (Below.refl _ _).alloc (Nat.le_refl _) _
 have hsz : (w.alloc (.cells #[val] t)).heap.size = w.heap.size + 1 := by simp
 refine R.put0 (fresh_refs hf) rfl rfl rfl (by omega) (fun k hk _ => hb.block k hk) (fun _ => ⟨by omega, .inl (Nat.le_refl _)⟩) (fun _ h => by cases h) (fun v h => by cases h; exact ⟨hl, fun _ => ⟨⟨fun _ _ => ho, fun h => absurd h h7, fun h => absurd h h8⟩, val, by rw [objC_ne h8, hv]; exact alloc_new w _, fun _ => hv, hr⟩⟩) (fun _ h => absurd rfl h) (fun h => absurd rfl h) (fun h => ?_)
 rcases h with h | h | h
 ·omega
 ·cases h
 ·cases h

theorem alike_box {b : Nat × Nat} {e : Ent} {z : D} {c : Option AV} (h0 : e.row = 0) : Alike b e b ⟨e.ty, z, 0, c⟩ := ⟨rfl, ⟨fun _ => h0, fun _ => rfl⟩, fun _ => rfl, fun h => absurd h0 h⟩

/-- A box is written. -/
theorem RelX.setBox (R : RelX P F st ok β a w) {d : Nat} {e : Ent} {z : D} {cs old : Array Value} {n : Nat} (he : st.bx d = some e) (he0 : e.row = 0)
  (ho : w.heap[(β d).1]? = some (.cells old e.ty (0, 0))) (hr : Rep P w ok n e.ty cs.toList z) :
  ∃ β', RelX P F (st.upd d ⟨e.ty, z, 0, none⟩) ok β' a (w.setRow (β d).1 cs) := by
 have hoth : ∀ k, k ≠ (β d).1 -> (w.setRow (β d).1 cs).heap[k]? = w.heap[k]? := fun k hk => setRow_other w (β d).1 k cs hk
 have hsz : (w.setRow (β d).1 cs).heap.size = w.heap.size := by simp [World.setRow]
 refine ⟨_, R.put0 (b := β d) (fun _ => ⟨e, he, alike_box he0⟩) rfl rfl rfl (by omega) (fun k _ hk => hoth k (hk e he (live_box he0)))
  (fun _ => ⟨by rw [hsz]; exact R.hp.siz d e he (live_box he0), .inr ⟨rfl, e, he, live_box he0⟩⟩) (fun _ _ => ⟨cs, setRow_heap w (β d).1 old cs e.ty (0, 0) ho, n, hr⟩) (fun v h => by cases h) (fun _ h => absurd rfl h) (fun h => absurd rfl h) (fun h => ?_)⟩
 rcases h with h | h | h
 ·have := R.hdr d e he (.inl ⟨h.1, he0⟩)
  rw [<- this.1]
  refine ⟨?_, this.2⟩
  unfold hval
  rw [if_pos he0, if_pos rfl]
 ·cases h
 ·cases h

/-- .. with what is no data. -/
theorem RelX.setCon (R : RelX P F st ok β a w) {d : Nat} {e : Ent} {x : AV} {val : Value} {old : Array Value} (he : st.bx d = some e) (he0 : e.row = 0)
  (ho : w.heap[(β d).1]? = some (.cells old e.ty (0, 0))) (h7 : x.tag ≠ 7) (h8 : x.tag ≠ 8) (h1 : one1 P e.ty = true) (hv : val.cells = #[val]) (hl : LiveB st.bx x) (hr : RepAV P w ok β st.bx x val) :
  ∃ β', RelX P F (st.upd d ⟨e.ty, .nil, 0, some x⟩) ok β' a (w.setRow (β d).1 #[val]) := by
 have hoth : ∀ k, k ≠ (β d).1 -> (w.setRow (β d).1 #[val]).heap[k]? = w.heap[k]? := fun k hk => setRow_other w (β d).1 k #[val] hk
 have hsz : (w.setRow (β d).1 #[val]).heap.size = w.heap.size := by simp [World.setRow]
 refine ⟨_, R.put0 (b := β d) (fun _ => ⟨e, he, alike_box he0⟩) rfl rfl rfl (by omega) (fun k _ hk => hoth k (hk e he (live_box he0)))
  (fun _ => ⟨by rw [hsz]; exact R.hp.siz d e he (live_box he0), .inr ⟨rfl, e, he, live_box he0⟩⟩) (fun _ h => by cases h) (fun v h => by cases h; exact ⟨hl, fun _ => ⟨⟨fun _ _ => h1, fun h => absurd h h7, fun h => absurd h h8⟩, val, by rw [objC_ne h8, hv]; exact setRow_heap w (β d).1 old #[val] e.ty (0, 0) ho, fun _ => hv, hr⟩⟩) (fun _ h => absurd rfl h) (fun h => absurd rfl h) (fun h => ?_)⟩
 rcases h with h | h | h
 ·have := R.hdr d e he (.inl ⟨h.1, he0⟩)
  rw [<- this.1]
  refine ⟨?_, this.2⟩
  unfold hval
  rw [if_pos he0, if_pos rfl]
 ·cases h
 ·cases h

/-- A text is gone through. -/
theorem RelX.newIt (R : RelX P F st ok β a w) {d : Nat} {t : TypeId} {s : List UInt8} (hf : st.bx d = none) (hd : d < OID) (hu : P.underlying t = none) (hs : s.length <= maxLen) :
  RelX P F (st.upd d ⟨t, .nil, 0, some (itr s 0)⟩) ok (fun i => if i = d then (w.heap.size, 0) else β i) a (w.alloc (.stringIter ⟨s.toArray⟩ 0)) := by
 have hb : Below w.heap.size w (w.alloc (.stringIter ⟨s.toArray⟩ 0)) := (Below.refl _ _).alloc (Nat.le_refl _) _
 have hsz : (w.alloc (.stringIter ⟨s.toArray⟩ 0)).heap.size = w.heap.size + 1 := by simp
 refine R.put0 (fresh_refs hf) rfl rfl rfl (by omega) (fun k hk _ => hb.block k hk) (fun _ => ⟨by omega, .inl (Nat.le_refl _)⟩) (fun _ h => by cases h) (fun v h => by
   cases h
   exact ⟨live_of_refs rfl, fun _ => ⟨⟨fun _ h => absurd rfl h, fun h => by simp [itr] at h, fun _ => ⟨hu, hs⟩⟩, .nilFunc, alloc_new w _, fun _ => rfl, repAV_8 rfl⟩⟩) (fun _ h => absurd rfl h) (fun h => absurd rfl h) (fun h => ?_)
 rcases h with h | h | h
 ·omega
 ·cases h
 ·cases h

/-- A row is new, or another one, and nothing leads to it but what comes now. -/
theorem RelX.newRow (R : RelX P F st ok β a w) {d : Nat} {e' : Ent} {b : Nat × Nat} (hrow : e'.row ≠ 0) (hc : e'.c = none) (h3 : e'.row ≠ 3) (h4 : e'.row ≠ 4)
  (hos : w'.os = w.os) (htape : w'.tape = w.tape) (hout : w'.output = w.output) (hsz : w.heap.size <= w'.heap.size) (hoth : ∀ k, k < w.heap.size -> (∀ e, st.bx d = some e -> e.live = true -> k ≠ (β d).1) -> w'.heap[k]? = w.heap[k]?)
  (hnew : e'.live = true -> b.1 < w'.heap.size /\ (w.heap.size <= b.1 \/ (b.1 = (β d).1 /\ ∃ e, st.bx d = some e /\ e.live = true)))
  (h1 : (∀ b, ok b -> w'.heap[b]? = w.heap[b]?) -> RowOK P w' ok b e') :
  RelX P F (st.renew d e') ok (fun i => if i = d then b else β i) a w' := by
 refine R.put1 (killL [d]) (renew_bx d e') (renew_get d e') (by simp [St.renew]) (fun v _ => ?_) hos htape hout hsz hoth hnew (fun h => absurd h hrow) (fun v h => by rw [hc] at h; cases h) (fun h _ => h1 h) (fun _ => hc) (fun h => ?_)
 ·rcases killL_cases [d] v with h | ⟨h, hn⟩
  ·exact .inl h
  ·exact .inr ⟨h, fun hd => absurd (by simp) (hn d hd)⟩
 ·rcases h with h | h | h
  ·exact absurd h.2 hrow
  ·exact absurd h h3
  ·exact absurd h h4

/-- A row that is new where nothing was. -/
theorem RelX.newRow0 (R : RelX P F st ok β a w) {d : Nat} {e' : Ent} {b : Nat × Nat} (hf : st.bx d = none) (hrow : e'.row ≠ 0) (hc : e'.c = none) (h3 : e'.row ≠ 3) (h4 : e'.row ≠ 4)
  (hb : Below w.heap.size w w') (hnew : e'.live = true -> b.1 < w'.heap.size /\ w.heap.size <= b.1)
  (h1 : (∀ b, ok b -> w'.heap[b]? = w.heap[b]?) -> RowOK P w' ok b e') :
  RelX P F (st.upd d e') ok (fun i => if i = d then b else β i) a w' := by
 refine R.put0 (fresh_refs hf) hb.os hb.tape hb.output hb.size (fun k hk _ => hb.block k hk) (fun h => ⟨(hnew h).1, .inl (hnew h).2⟩) (fun h => absurd h hrow) (fun v h => by rw [hc] at h; cases h) (fun h _ => h1 h) (fun _ => hc) (fun h => ?_)
 rcases h with h | h | h
 ·exact absurd h.2 hrow
 ·exact absurd h h3
 ·exact absurd h h4

theorem getD_set {l : List D} {i j : Nat} {d z : D} (h : i < l.length) : (l.set i d)[j]? = if j = i then some d else l[j]? := by
 rw [List.getElem?_set]
 by_cases hij : i = j
 ·subst hij; simp [h]
 ·have : ¬ j = i := fun hh => hij hh.symm
  simp [hij, this]

/-- An element of a row is written. -/
theorem RelX.setElem (R : RelX P F st ok β a w) {d i : Nat} {e : Ent} {z : D} {el : TypeId} {cs : List Value} {cur : Array Value} {n : Nat} (he : st.bx d = some e) (he0 : e.row ≠ 0) (hl : e.live = true)
  (hi : i < (elemsD e.d).length) (hu : P.underlying e.ty = some (.slice el)) (ho : w.heap[(β d).1]? = some (.cells cur el (0, 0)))
  (hcs : cs.length = cur.size) (hsame : ∀ j, j ≠ i -> (cs.drop (j * P.cellsOf el)).take (P.cellsOf el) = (cur.toList.drop (j * P.cellsOf el)).take (P.cellsOf el))
  (hr : Rep P w ok n el ((cs.drop (i * P.cellsOf el)).take (P.cellsOf el)) z) :
  ∃ β', RelX P F (st.upd d ⟨e.ty, .slice ((elemsD e.d).set i z) [], e.row, none⟩) ok β' a (w.setRow (β d).1 cs.toArray) := by
 have hoth : ∀ k, k ≠ (β d).1 -> (w.setRow (β d).1 cs.toArray).heap[k]? = w.heap[k]? := fun k hk => setRow_other w (β d).1 k cs.toArray hk
 have hsz : (w.setRow (β d).1 cs.toArray).heap.size = w.heap.size := by simp [World.setRow]
 have hlen : (elemsD (.slice ((elemsD e.d).set i z) [] : D)).length = (elemsD e.d).length := by simp [elemsD]
 have hlv : Ent.live ⟨e.ty, .slice ((elemsD e.d).set i z) [], e.row, none⟩ = true := by
  unfold Ent.live
  have : (elemsD (.slice ((elemsD e.d).set i z) [] : D)).isEmpty = false := by
   rw [List.isEmpty_eq_false_iff]
   intro h0
   rw [h0] at hlen
   simp at hlen
   omega
  rw [this]
  simp
 have hhv : hv (β d) ⟨e.ty, .slice ((elemsD e.d).set i z) [], e.row, none⟩ = hv (β d) e := by
  unfold hv
  rw [hl, hlv, hlen]
 refine ⟨_, R.put0 (b := β d) (fun _ => ⟨e, he, rfl, Iff.rfl, fun _ => rfl, fun _ => ⟨hhv, hlen⟩⟩) rfl rfl rfl (by omega) (fun k _ hk => hoth k (hk e he hl))
  (fun _ => ⟨by rw [hsz]; exact R.hp.siz d e he hl, .inr ⟨rfl, e, he, hl⟩⟩) (fun h => absurd h he0) (fun v h => by cases h) (fun hsm _ => ?_) (fun _ => rfl) (fun h => ?_)⟩
 ·obtain ⟨el', hu', h1, hpos, _, h5⟩ := R.hp.row d e he he0
  rw [hu] at hu'
  cases hu'
  refine ⟨el, hu, h1, hpos, ⟨_, rfl⟩, fun _ => ?_⟩
  obtain ⟨cur', m, g1, g2, g3, g4, g5⟩ := h5 hl
  rw [ho] at g1
  cases g1
  refine ⟨cs.toArray, n + m, setRow_heap w (β d).1 cur cs.toArray el (0, 0) ho, by rw [hlen]; exact g2, g3, by rw [List.size_toArray, hcs]; exact g4, fun j y hy => ?_⟩
  have hy' : ((elemsD e.d).set i z)[j]? = some y := hy
  rw [getD_set (z := z) hi] at hy'
  simp only [List.toList_toArray]
  by_cases hj : j = i
  ·rw [if_pos hj] at hy'
   cases hy'
   subst hj
   exact (hr.move hsm (fun _ h => h)).le (by omega)
  ·rw [if_neg hj] at hy'
   rw [hsame j hj]
   exact ((g5 j y hy').move hsm (fun _ h => h)).le (by omega)
 ·have := R.hdr d e he h
  rw [<- this.1]
  refine ⟨?_, this.2⟩
  unfold hval
  rw [if_neg he0]
  rw [if_neg (show ¬ (e.row = 0) from he0)]
  exact hhv

/-! ### Operands -/
theorem opd_rep (R : RelX P F st ok β a w) (t : TypeId) (x : Operand) : RepAV P w ok β st.bx (opd P st t x) (a.eval x) := by
 cases x with
 | tmp i => exact R.slot i
 | const v =>
  simp only [opd, Act.eval, constD]
  split
  ·split
   ·rename_i cs
    split
    ·rename_i hc
     rw [Bool.and_eq_true] at hc
     exact repAV_dat ⟨⟨deep, chkRep_sound hc.2⟩, fun _ => ⟨cs, rfl⟩, fun hh => by rw [hc.1] at hh; cases hh⟩
    ·exact repAV_dead _
   ·exact repAV_dead _
  ·rename_i h1
   have h1 : P.cellsOf t = 1 := by simpa using h1
   split
   ·rename_i hu; exact repAV_dat (repV_bool hu h1)
   ·rename_i hu
    split
    ·rename_i h; rw [h.1]; exact repAV_dat (repV_int hu h1 h.2)
    ·exact repAV_dead _
   ·rename_i s hu
    split
    ·rename_i h
     refine repAV_dat ⟨⟨1, by simp [Value.cells, h1], by simp [Value.cells, Value.oneCell'], ?_⟩, by simp [isAggB, hu], fun _ => rfl⟩
     rw [hu]
     exact ⟨by simp [Value.cells], by simpa using h⟩
    ·exact repAV_dead _
   ·rename_i hu
    refine repAV_dat ⟨⟨1, by simp [Value.cells, h1], by simp [Value.cells, Value.oneCell'], ?_⟩, by simp [isAggB, hu], fun _ => rfl⟩
    rw [hu]
    exact ⟨rfl, none, 0, by simp [Value.cells], Nat.le_refl _, Nat.zero_le _, fun _ => rfl, fun x hx => by cases hx⟩
   ·rename_i hu
    refine repAV_dat ⟨⟨1, by simp [Value.cells, h1], by simp [Value.cells, Value.oneCell'], ?_⟩, by simp [isAggB, hu], fun _ => rfl⟩
    rw [hu]
    exact ⟨by simp [Value.cells], .inl rfl⟩
   ·exact repAV_dead _
 | global g => exact repAV_dead _
 | func f =>
  simp only [opd, Act.eval]
  split
  ·rename_i hu
   split
   ·rename_i h1
    refine repAV_dat ⟨⟨1, by simp [Value.cells, h1], by simp [Value.cells, Value.oneCell'], ?_⟩, by simp [isAggB, hu], fun _ => rfl⟩
    rw [hu]
    exact ⟨by simp [Value.cells], .inr (.inl ⟨f, rfl⟩)⟩
   ·exact repAV_dead _
  ·exact repAV_dead _

theorem opd_live (R : ∀ i, LiveB st.bx (st.get i)) (t : TypeId) (x : Operand) : LiveB st.bx (opd P st t x) := by
 cases x with
 | tmp i => exact R i
 | const v =>
  simp only [opd, constD]
  repeat' split
  all_goals exact live_of_refs rfl
 | global g => exact live_of_refs rfl
 | func f =>
  simp only [opd]
  repeat' split
  all_goals exact live_of_refs rfl

end
end Go.Ev
