/- Trees of functions, and lemmas. Nothing here is trusted. -/
import Derived.Test.YtngkmngbnlmgjaaZ03
import Derived.Laws.Tables
import Derived.Great.BuildSlice
import Derived.OpenShut
namespace Go.Ev
open Go.RowKit
set_option linter.unusedVariables false
set_option linter.unusedSimpArgs false
def ArgsRep (P : Program) (w : World) (ok : Nat -> Prop) : List AV -> List Value -> Prop
 | [], [] => True
 | x :: xs, v :: vs => (x.tag = 1 /\ RepV P w ok x.ty v x.d) /\ ArgsRep P w ok xs vs
 | _, _ => False

/-- A contract: called with data 'args', in whatever world, the function returns data r, and nothing that was there has turned. -/
structure CallOK (P : Program) (f : FuncId) (args : List AV) (r : AV) : Prop where
 fn : ∃ fn c, P.funcs[f]? = some fn /\ fn.body = some c /\ (fn.name == "runtime.NumGoroutine") = false
 tag : r.tag = 1 \/ r.tag = 6
 call : ∀ (w : World) (okA : Nat -> Prop) (vs : List Value), TabOn P (fun _ => False) w -> (∀ b, okA b -> b < w.heap.size) -> ArgsRep P w okA args vs ->
  Calls P f vs.toArray w fun e w' => ∃ v ok', e = .returned v /\ Below w.heap.size w w' /\ (∀ b, ok' b -> b < w'.heap.size /\ (okA b \/ w.heap.size <= b)) /\
   RepAV P w' ok' (fun _ => (0, 0)) (fun _ => none) r v

/-- Arguments that may lead to boxes and rows. -/
def ArgsRepH (P : Program) (w : World) (ok : Nat -> Prop) (β : Nat -> Nat × Nat) (bx : Nat -> Option Ent) : List AV -> List Value -> Prop
 | [], [] => True
 | x :: xs, v :: vs => (((x.tag = 1 /\ x.ix = 0) \/ isCont x = true) /\ RepAV P w ok β bx x v /\ LiveB bx x) /\ ArgsRepH P w ok β bx xs vs
 | _, _ => False

/-- The blocks of boxes and rows. -/
def XOf (β : Nat -> Nat × Nat) (bx : Nat -> Option Ent) (b : Nat) : Prop := ∃ i e, bx i = some e /\ e.live = true /\ (β i).1 = b

/-- What holds behind a call that was handed boxes and rows. -/
def HPost (P : Program) (h : List Ent) (r : AV) (h' : List (Option Ent)) (w : World) (okA : Nat -> Prop) (β : Nat -> Nat × Nat) (e : Ending) (w' : World) : Prop :=
 ∃ v ok' β', e = .returned v /\ BelowX (XOf β (bxOf h)) w.heap.size w w' /\ (∀ b, ok' b -> b < w'.heap.size /\ (okA b \/ w.heap.size <= b \/ XOf β (bxOf h) b)) /\
  HeapOK P w' ok' β' (bxOf' h') /\ RepAV P w' ok' β' (bxOf' h') r v /\ LiveB (bxOf' h') r /\
  (∀ i e, bxOf' h' i = some e -> e.live = true -> w.heap.size <= (β' i).1 \/ XOf β (bxOf h) (β' i).1) /\
  (∀ i e', bxOf' h' i = some e' -> (e'.row = 0 \/ e'.row = 3 \/ e'.row = 4) -> ∃ e, bxOf h i = some e /\ Alike (β i) e (β' i) e')

/-- A contract of a function that is handed boxes and rows. -/
structure HCallOK (P : Program) (f : FuncId) (args : List AV) (h : List Ent) (r : AV) (h' : List (Option Ent)) : Prop where
 fn : ∃ fn c, P.funcs[f]? = some fn /\ fn.body = some c /\ (fn.name == "runtime.NumGoroutine") = false
 call : ∀ (w : World) (okA : Nat -> Prop) (β : Nat -> Nat × Nat) (vs : List Value), TabOn P (XOf β (bxOf h)) w -> (∀ b, okA b -> b < w.heap.size) -> HeapOK P w okA β (bxOf h) -> ArgsRepH P w okA β (bxOf h) args vs ->
  Calls P f vs.toArray w (HPost P h r h' w okA β)

/-- Arguments of which it may be known that they are nil. -/
def ArgsRepN (P : Program) (w : World) (ok : Nat -> Prop) : List AV -> List Value -> Prop
 | [], [] => True
 | x :: xs, v :: vs => (x.tag = 1 /\ RepV P w ok x.ty v x.d /\ (x.ix = 2 -> v = .slice none 0 0)) /\ ArgsRepN P w ok xs vs
 | _, _ => False

/-- A contract of a function that answers a row of its own. -/
structure FCallOK (P : Program) (f : FuncId) (args : List AV) (t : TypeId) (k : Nat) (d : D) : Prop where
 fn : ∃ fn c, P.funcs[f]? = some fn /\ fn.body = some c /\ (fn.name == "runtime.NumGoroutine") = false
 call : ∀ (w : World) (okA : Nat -> Prop) (vs : List Value), TabOn P (fun _ => False) w -> (∀ b, okA b -> b < w.heap.size) -> ArgsRepN P w okA args vs ->
  Calls P f vs.toArray w fun e w' => ∃ b ok', e = .returned (hv b ⟨t, d, k, none⟩) /\ Below w.heap.size w w' /\ (∀ b, ok' b -> b < w'.heap.size /\ (okA b \/ w.heap.size <= b)) /\
   RowOK P w' ok' b ⟨t, d, k, none⟩ /\ ((⟨t, d, k, none⟩ : Ent).live = true -> w.heap.size <= b.1 /\ b.1 < w'.heap.size /\ ¬ ok' b.1)

/-- A contract of a function that answers a closure, or what leads to a box, with boxes and rows of its own. -/
structure GCallOK (P : Program) (f : FuncId) (args : List AV) (r : AV) (es : List Ent) : Prop where
 fn : ∃ fn c, P.funcs[f]? = some fn /\ fn.body = some c /\ (fn.name == "runtime.NumGoroutine") = false
 call : ∀ (w : World) (okA : Nat -> Prop) (vs : List Value), TabOn P (fun _ => False) w -> (∀ b, okA b -> b < w.heap.size) -> ArgsRep P w okA args vs ->
  Calls P f vs.toArray w fun e w' => ∃ v ok' β', e = .returned v /\ Below w.heap.size w w' /\ (∀ b, ok' b -> b < w'.heap.size /\ (okA b \/ w.heap.size <= b)) /\
   HeapOK P w' ok' β' (bxOf es) /\ RepAV P w' ok' β' (bxOf es) r v /\ LiveB (bxOf es) r /\ ∀ i e, bxOf es i = some e -> e.live = true -> w.heap.size <= (β' i).1

structure EnvOK (P : Program) (env : Env) : Prop where
 p : ∀ f t pre F args d, env.p f = some (t, pre, F) -> pre args = true -> F args = some d -> CallOK P f args (mkRes P t d)
 h : ∀ f t pre F args h r h', env.h f = some (t, pre, F) -> pre args h = true -> F args h = some (r, h') -> HCallOK P f args h r h'
 r : ∀ f t pre F args h d, env.r f = some (t, pre, F) -> pre args h = true -> F args h = some d -> HCallOK P f args h (mkRes P t d) (h.map some)
 f : ∀ f t pre F args k d, env.f f = some (t, pre, F) -> pre args = true -> F args = some (k, d) -> FCallOK P f args t k d
 g : ∀ f t pre F args r es, env.g f = some (t, pre, F) -> pre args = true -> F args = some (r, es) -> GCallOK P f args r es

theorem EnvOK.plain {P : Program} {env : Env} (h : EnvOK P env) : EnvOK P env.plain := ⟨h.p, fun f t pre F args h r h' he => (by cases he), h.r, fun f t pre F args k d he => (by cases he), fun f t pre F args r es he => (by cases he)⟩
theorem EnvOK.lvl {P : Program} {env : Env} (h : EnvOK P env) : EnvOK P env.lvl := ⟨h.p, fun f t pre F args h r h' he => (by cases he), h.r, fun f t pre F args k d he => (by cases he), fun f t pre F args r es he => (by cases he)⟩

section
variable {P : Program} {w w' : World} {ok ok' : Nat -> Prop} {β : Nat -> Nat × Nat}
variable {F : Fr P} {st : St} {a : Act} {env : Env} {o : Oper} {x : AV} {Q : Exit -> Act -> World -> Prop}

/-- What an operation that looks at no box leaves. -/
def Good (P : Program) (ok : Nat -> Prop) (β : Nat -> Nat × Nat) (st : St) (o : Oper) (x : AV) (a : Act) (w : World) (a' : Act) (w' : World) : Prop :=
 ∃ v ok', a' = a.put o.dst v /\ Below w.heap.size w w' /\ (∀ b, ok b -> ok' b) /\ (∀ b, ok' b -> ok b \/ (w.heap.size <= b /\ b < w'.heap.size)) /\ RepAV P w' ok' β st.bx x v

theorem good_value {v : Value} (hrun : (execOp a.eval o).run P w = .ok (.value v) w) (hr : RepAV P w ok β st.bx x v) : o.wp P a w (Good P ok β st o x a w) Q := by
 unfold Oper.wp
 rw [hrun]
 exact ⟨v, ok, rfl, Below.refl _ _, fun _ h => h, fun _ h => .inl h, hr⟩

theorem kindOf_spec {k : IntKind} (h : kindOf P x = some k) : x.tag = 1 /\ P.underlying x.ty = some (.int k) := by
 unfold kindOf at h
 split at h
 ·rename_i ht
  split at h
  ·rename_i hu; cases h; exact ⟨ht, hu⟩
  ·cases h
 ·cases h

theorem isBoolA_spec (h : isBoolA P x = true) : x.tag = 1 /\ P.underlying x.ty = some .bool := by
 unfold isBoolA at h
 rw [Bool.and_eq_true] at h
 refine ⟨by simpa using h.1, ?_⟩
 have h2 := h.2
 split at h2
 ·rename_i hu; exact hu
 ·cases h2

theorem boolOf_spec {b : Bool} (h : boolOf P x = some b) : x.tag = 1 /\ P.underlying x.ty = some .bool /\ x.d = .lit (.bool b) := by
 unfold boolOf at h
 split at h
 ·rename_i hb
  split at h
  ·rename_i hd; cases h; exact ⟨(isBoolA_spec hb).1, (isBoolA_spec hb).2, hd⟩
  ·cases h
 ·cases h

theorem boolA_spec {t : TypeId} {b : Bool} {y : AV} (h : boolA P t b = some y) (bx : Nat -> Option Ent) : RepAV P w ok β bx y (.bool b) := by
 unfold boolA at h
 split at h
 ·rename_i hu
  split at h
  ·rename_i h1; cases h; exact repAV_dat (repV_bool hu h1)
  ·cases h
 ·cases h

theorem intA_spec {t : TypeId} {k : IntKind} {n : Int} {y : AV} (h : intA P t k n = some y) (hw : (Lit.int k n).wf = true) (bx : Nat -> Option Ent) : RepAV P w ok β bx y (.int k n) := by
 unfold intA at h
 split at h
 ·rename_i hu
  split at h
  ·rename_i h1; cases h; rw [h1.1] at hu; exact repAV_dat (repV_int hu h1.2 hw)
  ·cases h
 ·cases h

theorem wf_tmod {k : IntKind} {x y : Int} (h : (Lit.int k x).wf = true) : (Lit.int k (x.tmod y)).wf = true := by
 have h0 : k.min <= 0 := by cases k <;> decide
 have h1 : 0 <= k.max := by cases k <;> decide
 simp only [Lit.wf, Bool.and_eq_true, decide_eq_true_eq] at h ⊢
 obtain ⟨a, b⟩ := h
 have h2 : (x.tmod y).natAbs <= x.natAbs := by rw [Int.natAbs_tmod]; exact Nat.mod_le _ _
 by_cases hx : 0 <= x
 ·have h3 := Int.tmod_nonneg y hx
  omega
 ·have hx' : 0 <= -x := by omega
  have h3 := Int.tmod_nonneg y hx'
  rw [Int.neg_tmod] at h3
  omega

theorem run_eqGuard_int (op : BinOp) (t : TypeId) (x y : Operand) (k : IntKind) (m n : Int) : (eqGuard op t x y (.int k m) (.int k n)).run P w = .ok () w := by
 cases op <;> simp [eqGuard]
theorem run_eqGuard_bool (op : BinOp) (t : TypeId) (x y : Operand) (m n : Bool) : (eqGuard op t x y (.bool m) (.bool n)).run P w = .ok () w := by
 cases op <;> simp [eqGuard]

theorem run_bin {op : BinOp} {t yt : TypeId} {x y : Operand} {v1 v2 v : Value} (hop : o.op = .binOp op t x y yt) (e1 : a.eval x = v1) (e2 : a.eval y = v2)
  (hg : (eqGuard op t x y v1 v2).run P w = .ok () w) (hb : (binOp op t v1 v2).run P w = .ok v w) : (execOp a.eval o).run P w = .ok (.value v) w := by
 unfold execOp
 simp only [hop, e1, e2, Sem.run_bind, hg, Result.andThen_ok, hb, Sem.run_pure]

/-- Equality of two structs, part by part. -/
theorem run_eqFields (d n : Nat) (xs ys : Array Value) (X Y : D) (ih : ∀ (t : TypeId) (v1 v2 : Value) (x y : D), eqOK P n t = true -> RepV P w ok t v1 x -> RepV P w ok t v2 y -> (Op.equalIn d t v1 v2).run P w = .ok (eqD P n t x y) w) :
  ∀ (l : List (Field × Nat)), (∀ p ∈ l, (p.1.name != "_") = true /\ eqOK P n p.1.type = true /\ ∃ v1 v2, (part p.1.type xs p.1.offset).run P w = .ok v1 w /\ (part p.1.type ys p.1.offset).run P w = .ok v2 w /\ RepV P w ok p.1.type v1 (fieldD X p.2) /\ RepV P w ok p.1.type v2 (fieldD Y p.2)) ->
   (Op.eqFields d xs ys (l.map (·.1))).run P w = .ok (l.all fun p => eqD P n p.1.type (fieldD X p.2) (fieldD Y p.2)) w
 | [], _ => by simp [Op.eqFields]
 | (f, k) :: l, h => by
  obtain ⟨hn, hq, v1, v2, p1, p2, r1, r2⟩ := h (f, k) (by simp)
  have e := ih f.type v1 v2 _ _ hq r1 r2
  have rest := run_eqFields d n xs ys X Y ih l (fun f' hf' => h f' (by simp [hf']))
  have hn' : f.name ≠ "_" := by simpa using hn
  simp only [List.map_cons, Op.eqFields, hn', ne_eq, not_false_eq_true, if_true, Sem.run_bind, p1, p2, e, Result.andThen_ok, Sem.run_ite, Sem.run_pure, rest, List.all_cons]
  cases eqD P n f.type (fieldD X k) (fieldD Y k) <;> simp

theorem info_of_underlying {t : TypeId} {u : TypeDesc} (h : P.underlying t = some u) : ∃ i, P.info? t = some i := by
 unfold Program.underlying at h
 cases hi : P.info? t with
 | none => rw [hi] at h; cases h
 | some i => exact ⟨i, rfl⟩

theorem Rep.info {n : Nat} {t : TypeId} {cs : List Value} {d : D} (hr : Rep P w ok n t cs d) : ∃ u i, P.underlying t = some u /\ P.info? t = some i := by
 have hu : ∃ u, P.underlying t = some u := by
  cases n with
  | zero => exact hr.elim
  | succ n =>
   obtain ⟨_, _, h3⟩ := hr
   split at h3 <;> first | exact ⟨_, by assumption⟩ | exact h3.elim
 obtain ⟨u, hu⟩ := hu
 obtain ⟨i, hi⟩ := info_of_underlying hu
 exact ⟨u, i, hu, hi⟩

theorem run_part {ft : TypeId} {fo : Nat} {xs : Array Value} {n : Nat} {d : D} (hr : Rep P w ok n ft ((xs.toList.drop fo).take (P.cellsOf ft)) d) :
  ∃ v, (part ft xs fo).run P w = .ok v w /\ RepV P w ok ft v d := by
 obtain ⟨u, i, hu, hi⟩ := hr.info
 have hlen := hr.len
 cases hagg : isAggB P ft with
 | true =>
  have hA : (isAgg ft).run P w = .ok true w := by
   unfold isAggB at hagg
   rw [hu] at hagg
   cases u <;> simp at hagg <;> simp [isAgg, run_underlying hu]
  refine ⟨.agg (xs.extract fo (fo + P.cellsOf ft)), by simp [part, hA, run_sizeOf w hi], ⟨n, ?_⟩, fun _ => ⟨_, rfl⟩, fun h => by rw [hagg] at h; cases h⟩
  have : (xs.extract fo (fo + P.cellsOf ft)).toList = (xs.toList.drop fo).take (P.cellsOf ft) := by
   simp [Array.toList_extract, List.extract_eq_take_drop]
  simpa [Value.cells, this] using hr
 | false =>
  have hA : (isAgg ft).run P w = .ok false w := by
   unfold isAggB at hagg
   rw [hu] at hagg
   cases u <;> simp at hagg <;> simp [isAgg, run_underlying hu]
  have h1 : ∃ v, (xs.toList.drop fo).take (P.cellsOf ft) = [v] /\ v.cells = #[v] := by
   cases n with
   | zero => exact hr.elim
   | succ n =>
    obtain ⟨_, ho, h3⟩ := hr
    unfold isAggB at hagg
    have key : ∃ v, (xs.toList.drop fo).take (P.cellsOf ft) = [v] := by
     split at h3
     ·exact ⟨_, h3⟩
     ·exact ⟨_, h3.2.1⟩
     ·exact ⟨_, h3.1⟩
     ·obtain ⟨_, a, cap, e, _⟩ := h3; exact ⟨_, e⟩
     ·rename_i hu2; rw [hu2] at hagg; simp at hagg
     ·rename_i hu2; rw [hu2] at hagg; simp at hagg
     ·exact ⟨_, h3.1⟩
     ·exact ⟨_, h3.1⟩
     ·obtain ⟨f, r, t0, x, e1, e2, e3⟩ := h3
      exact ⟨_, e2⟩
     ·exact h3.elim
    obtain ⟨v, hv⟩ := key
    refine ⟨v, hv, ?_⟩
    have := ho v (by rw [hv]; simp)
    cases v <;> simp [Value.oneCell'] at this <;> rfl
  obtain ⟨v, hv, hc⟩ := h1
  have hx : xs[fo]? = some v := by
   have : (((xs.toList.drop fo).take (P.cellsOf ft)))[0]? = some v := by rw [hv]; rfl
   rw [List.getElem?_take] at this
   split at this
   ·rw [List.getElem?_drop] at this; simpa using this
   ·cases this
  refine ⟨v, by simp [part, hA, hx], ⟨n, ?_⟩, (fun h => by rw [hagg] at h; cases h), fun _ => hc⟩
  rw [hc]
  rw [hv] at hr
  exact hr

theorem eqOK_spec {n : Nat} {t : TypeId} (h : eqOK P (n + 1) t = true) : (P.underlying t = some .bool) \/ (∃ k, P.underlying t = some (.int k)) \/ (P.underlying t = some .string) \/
  (∃ fs, P.underlying t = some (.struct fs) /\ P.stoodInHeld t = false /\ layOK P fs (P.cellsOf t) = true /\ ∀ f ∈ fs.toList, (f.name != "_") = true /\ eqOK P n f.type = true) \/
  ∃ m e, P.underlying t = some (.array m e) /\ 0 < P.cellsOf e /\ eqOK P n e = true := by
 unfold eqOK at h
 split at h
 ·exact .inl (by assumption)
 ·exact .inr (.inl ⟨_, by assumption⟩)
 ·exact .inr (.inr (.inl (by assumption)))
 ·rename_i fs hu
  simp only [Bool.and_eq_true, Bool.not_eq_true', List.all_eq_true] at h
  exact .inr (.inr (.inr (.inl ⟨fs, hu, h.1.1, h.1.2, fun f hf => h.2 f hf⟩)))
 ·rename_i m e hu
  simp only [Bool.and_eq_true, decide_eq_true_eq] at h
  exact .inr (.inr (.inr (.inr ⟨m, e, hu, h.1, h.2⟩)))
 ·cases h

theorem idx_all (fs : Array Field) (q : Nat -> Field -> Bool) : ((List.range fs.size).all fun k => match fs[k]? with | some f => q k f | none => true) = (fs.toList.zipIdx.all fun x => q x.2 x.1) := by
 rw [Bool.eq_iff_iff, List.all_eq_true, List.all_eq_true]
 constructor
 ·rintro h ⟨f, k⟩ hx
  have hk := List.mem_zipIdx hx
  have hk2 : fs.toList[k]? = some f := by
   obtain ⟨_, h2, h3⟩ := hk
   simp at h2
   simp [h3, h2]
  have hlt : k < fs.size := by
   have := (List.getElem?_eq_some_iff.1 hk2).1
   simpa using this
  have := h k (List.mem_range.2 hlt)
  have e : fs[k]? = some f := by simpa using hk2
  rw [e] at this
  exact this
 ·intro h k hk
  have hlt : k < fs.size := List.mem_range.1 hk
  have e : fs[k]? = some fs[k] := Array.getElem?_eq_getElem hlt
  rw [e]
  exact h (fs[k], k) (List.mem_zipIdx_iff_getElem?.2 (by simp))

theorem RepV.string {t : TypeId} {v : Value} {d : D} (h : RepV P w ok t v d) (hu : P.underlying t = some .string) : ∃ s : List UInt8, d = .lit (.string s) /\ v = .string ⟨s.toArray⟩ := by
 obtain ⟨⟨n, hn⟩, _, h2⟩ := h
 obtain ⟨z, rfl, hc, _⟩ := hn.string hu
 have h3 := h2 (by simp [isAggB, hu])
 rw [h3] at hc
 simp at hc
 exact ⟨z, rfl, hc⟩

theorem Rep.array {n : Nat} {t : TypeId} {cs : List Value} {d : D} {m : Nat} {e : TypeId} (h : Rep P w ok n t cs d) (hu : P.underlying t = some (.array m e)) :
  ∃ n' ps, n = n' + 1 /\ d = .agg ps /\ ps.length = m /\ ∀ k, k < m -> Rep P w ok n' e ((cs.drop (k * P.cellsOf e)).take (P.cellsOf e)) (ps.getD k .nil) := by
 cases n with
 | zero => exact h.elim
 | succ n =>
  obtain ⟨h1, h2, h3⟩ := h
  rw [hu] at h3
  split at h3 <;> first | (simp_all; done) | skip
  rename_i heq
  cases heq
  exact ⟨n, _, rfl, rfl, h3.1, h3.2⟩

theorem run_eqItems (d n : Nat) {e : TypeId} (he : eqOK P n e = true) (xs ys : Array Value) (X Y : D)
  (ih : ∀ (v1 v2 : Value) (x y : D), RepV P w ok e v1 x -> RepV P w ok e v2 y -> (Op.equalIn d e v1 v2).run P w = .ok (eqD P n e x y) w) :
  ∀ (l : List Nat), (∀ k ∈ l, ∃ v1 v2, (part e xs (k * P.cellsOf e)).run P w = .ok v1 w /\ (part e ys (k * P.cellsOf e)).run P w = .ok v2 w /\ RepV P w ok e v1 (fieldD X k) /\ RepV P w ok e v2 (fieldD Y k)) ->
   (Op.eqItems d e (P.cellsOf e) xs ys l).run P w = .ok (l.all fun k => eqD P n e (fieldD X k) (fieldD Y k)) w
 | [], _ => by simp [Op.eqItems]
 | k :: l, h => by
  obtain ⟨v1, v2, p1, p2, r1, r2⟩ := h k (by simp)
  have e := ih v1 v2 _ _ r1 r2
  have rest := run_eqItems d n he xs ys X Y ih l (fun k' hk' => h k' (by simp [hk']))
  simp only [Op.eqItems, Sem.run_bind, p1, p2, e, Result.andThen_ok, Sem.run_ite, Sem.run_pure, rest, List.all_cons]
  cases eqD P n _ (fieldD X k) (fieldD Y k) <;> simp

theorem run_equalIn : ∀ (n d : Nat) (t : TypeId) (v1 v2 : Value) (x y : D), n <= d -> eqOK P n t = true -> RepV P w ok t v1 x -> RepV P w ok t v2 y -> (Op.equalIn d t v1 v2).run P w = .ok (eqD P n t x y) w
 | 0, _, _, _, _, _, _, _, h, _, _ => by simp [eqOK] at h
 | n + 1, 0, _, _, _, _, _, hd, _, _, _ => by omega
 | n + 1, d + 1, t, v1, v2, x, y, hd, h, r1, r2 => by
  rcases eqOK_spec h with hu | ⟨k, hu⟩ | hu | ⟨fs, hu, hs, hl, hall⟩ | ⟨m, e, hu, hpos, he⟩
  ·obtain ⟨b, rfl, rfl⟩ := r1.bool hu
   obtain ⟨c, rfl, rfl⟩ := r2.bool hu
   simp [run_equalIn_bool' w d t b c hu, eqD, hu, boolD]
  ·obtain ⟨b, rfl, rfl, _⟩ := r1.int hu
   obtain ⟨c, rfl, rfl, _⟩ := r2.int hu
   simp [run_equalIn_int w d t k k b c hu, eqD, hu, intD]
  ·obtain ⟨b, rfl, rfl⟩ := r1.string hu
   obtain ⟨c, rfl, rfl⟩ := r2.string hu
   simp [run_equalIn_string w d t _ _ hu, eqD, hu, strD, ByteArray.toList_eq]
  ·obtain ⟨xs, rfl⟩ := r1.2.1 (by simp [isAggB, hu])
   obtain ⟨ys, rfl⟩ := r2.2.1 (by simp [isAggB, hu])
   obtain ⟨⟨n1, r1⟩, _⟩ := r1
   obtain ⟨⟨n2, r2⟩, _⟩ := r2
   have hfs : P.fieldsOf t = fs := by simp [Program.fieldsOf, hu]
   rw [run_equalIn_struct w d t xs ys (by rw [hfs]; exact hu) hs, hfs]
   have e : eqD P (n + 1) t x y = (fs.toList.zipIdx.all fun p => eqD P n p.1.type (fieldD x p.2) (fieldD y p.2)) := by
    rw [<- idx_all fs (fun k f => eqD P n f.type (fieldD x k) (fieldD y k))]
    simp only [eqD, hu]
    rfl
   rw [e]
   have hm : fs.toList = fs.toList.zipIdx.map (·.1) := by simp
   rw [show (Op.eqFields d xs ys fs.toList) = Op.eqFields d xs ys (fs.toList.zipIdx.map (·.1)) from by rw [<- hm]]
   refine run_eqFields d n xs ys x y (fun t v1 v2 x y hq q1 q2 => run_equalIn n d t v1 v2 x y (by omega) hq q1 q2) _ ?_
   rintro ⟨f, k⟩ hp
   have hk : fs[k]? = some f := by
    have := List.mem_zipIdx_iff_getElem?.1 hp
    simpa using this
   have hf := hall f (by have := Array.mem_of_getElem? hk; simpa using this)
   have hfo : fieldOf P t k = some f := by simp [fieldOf, hu, hl, hk]
   obtain ⟨m1, q1⟩ := r1.field hfo
   obtain ⟨m2, q2⟩ := r2.field hfo
   obtain ⟨u1, p1, s1⟩ := run_part q1
   obtain ⟨u2, p2, s2⟩ := run_part q2
   exact ⟨hf.1, hf.2, u1, u2, p1, p2, s1, s2⟩
  ·obtain ⟨xs, rfl⟩ := r1.2.1 (by simp [isAggB, hu])
   obtain ⟨ys, rfl⟩ := r2.2.1 (by simp [isAggB, hu])
   obtain ⟨⟨n1, r1⟩, _⟩ := r1
   obtain ⟨⟨n2, r2⟩, _⟩ := r2
   obtain ⟨_, ps, rfl, rfl, _, q1⟩ := r1.array hu
   obtain ⟨_, qs, rfl, rfl, _, q2⟩ := r2.array hu
   have hie : ∃ i, P.info? e = some i := by
    unfold Program.cellsOf at hpos
    cases hi : P.info? e with
    | none => rw [hi] at hpos; simp at hpos
    | some i => exact ⟨i, rfl⟩
   obtain ⟨i, hi⟩ := hie
   rw [run_equalIn_array w d xs ys hu hi]
   have e' : eqD P (n + 1) t (.agg ps) (.agg qs) = (List.range m).all fun k => eqD P n e (fieldD (.agg ps) k) (fieldD (.agg qs) k) := by
    simp only [eqD, hu]
   rw [e']
   refine run_eqItems d n he xs ys _ _ (fun v1 v2 x y a1 a2 => run_equalIn n d e v1 v2 x y (by omega) he a1 a2) _ ?_
   intro k hk
   have hk := List.mem_range.1 hk
   obtain ⟨u1, p1, s1⟩ := run_part (xs := xs) (by simpa [Value.cells] using q1 k hk)
   obtain ⟨u2, p2, s2⟩ := run_part (xs := ys) (by simpa [Value.cells] using q2 k hk)
   exact ⟨u1, u2, p1, p2, by simpa [fieldD, partsD] using s1, by simpa [fieldD, partsD] using s2⟩

end
end Go.Ev
