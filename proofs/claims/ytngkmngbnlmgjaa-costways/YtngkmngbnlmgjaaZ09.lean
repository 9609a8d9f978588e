/- Trees of functions, and lemmas. Nothing here is trusted. -/
import Derived.Test.YtngkmngbnlmgjaaZ08
namespace Go.Ev
open Go.RowKit
set_option linter.unusedVariables false
set_option linter.unusedSimpArgs false
section
variable {P : Program} {w w' : World} {ok ok' : Nat -> Prop} {β : Nat -> Nat × Nat} {ops : Array Oper}
variable {F : Fr P} {st st' s s' : St} {a : Act} {env : Env} {o : Oper} {av : AV} {Q : Exit -> Act -> World -> Prop}

/-! ### An operation hangs on its operands alone -/
def Same (o : Oper) (s s' : St) : Prop := ∀ i, Operand.tmp i ∈ o.op.operands.toList -> s.get i = s'.get i

theorem opd_same {x : Operand} (h : Same o s s') (hx : x ∈ o.op.operands.toList) (t : TypeId) : opd P s t x = opd P s' t x := by
 cases x with
 | tmp i => exact h i hx
 | const v => rfl
 | global g => rfl
 | func f => rfl

theorem argsOf_congr : ∀ (xs : List Operand) (ts : List TypeId), (∀ x ∈ xs, ∀ t, opd P s t x = opd P s' t x) -> argsOf P s xs ts = argsOf P s' xs ts
 | [], [], _ => rfl
 | [], _ :: _, _ => rfl
 | _ :: _, [], _ => rfl
 | x :: xs, t :: ts, h => by
  unfold argsOf
  rw [h x (by simp) t, argsOf_congr xs ts (fun y hy => h y (by simp [hy]))]

theorem partsOf_congr {f : Nat -> Option TypeId} : ∀ (ps : List (Nat × Operand)) (d : D), (∀ p ∈ ps, ∀ t, opd P s t p.2 = opd P s' t p.2) -> partsOf P s f ps d = partsOf P s' f ps d
 | [], _, _ => rfl
 | (k, x) :: ps, d, h => by
  unfold partsOf
  cases f k with
  | none => rfl
  | some t =>
   simp only
   rw [h (k, x) (by simp) t]
   split
   ·exact partsOf_congr ps _ (fun y hy => h y (by simp [hy]))
   ·rfl

theorem capIds_congr : ∀ (xs : List Operand), (∀ x ∈ xs, ∀ t, opd P s t x = opd P s' t x) -> capIds P s xs = capIds P s' xs
 | [], _ => rfl
 | x :: xs, h => by
  unfold capIds
  rw [h x (by simp) 0, capIds_congr xs (fun y hy => h y (by simp [hy]))]

/-- Nothing is known but of functions that look at data, or at boxes that they have captured. -/
def PlainE (env : Env) : Prop := env.hp = false /\ (∀ f, env.f f = none) /\ (∀ f, env.h f = none) /\ ∀ f, env.g f = none
theorem plainE (env : Env) : PlainE env.plain := ⟨rfl, fun _ => rfl, fun _ => rfl, fun _ => rfl⟩
theorem litRow_plain (h : PlainE env) (d : Option Nat) : litRow env d = false := by unfold litRow; rw [h.1]; rfl
theorem heapF_none {c : Call} (h : PlainE env) : heapF P env st c = none := by
 unfold heapF
 split
 ·split
  ·exact h.2.2.1 _
  ·rfl
 ·rfl
theorem freshF_none {c : Call} (h : PlainE env) : freshF env c = none := by
 unfold freshF
 split
 ·exact h.2.1 _
 ·rfl
theorem bornF_none {c : Call} (h : PlainE env) : bornF env c = none := by
 unfold bornF
 split
 ·exact h.2.2.2 _
 ·rfl
theorem roSlot_congr {c : Call} (h : Same o s s') (hop : o.op = .call c) : roSlot s c = roSlot s' c := by
 unfold roSlot
 cases hcal : c.callee with
 | builtin b => rfl
 | invoke r m => rfl
 | value g =>
  cases g with
  | tmp i =>
   have := h i (by simp [hop, Op.operands, Call.operands, hcal])
   simp only [this]
  | const v => rfl
  | global g => rfl
  | func f => rfl
theorem roSlot_get {c : Call} {i : Nat} (h : Same o s s') (hop : o.op = .call c) (hro : roSlot s' c = some i) : s.get i = s'.get i := by
 obtain ⟨hcal, _⟩ := roSlot_spec hro
 exact h i (by simp [hop, Op.operands, Call.operands, hcal])
theorem roEnts0_bx (h : s.bx = s'.bx) (all : List Nat) : ∀ ids, roEnts0 s all ids = roEnts0 s' all ids
 | [] => rfl
 | i :: l => by simp only [roEnts0, h, roEnts0_bx h all l]
theorem roEnts_bx (h : s.bx = s'.bx) (ids : List Nat) : roEnts s ids = roEnts s' ids := roEnts0_bx h ids ids
theorem roEnts0_upd {i : Nat} {e : Ent} (hi : st.bx i = none) (all : List Nat) : ∀ (ids : List Nat), (∀ j ∈ ids, (st.bx j).isSome = true) -> roEnts0 (st.upd i e) all ids = roEnts0 st all ids
 | [], _ => rfl
 | j :: l, h => by
  have hne : j ≠ i := fun hh => by have := h j (by simp); rw [hh, hi] at this; cases this
  simp only [roEnts0]
  rw [upd_bx, if_neg hne, roEnts0_upd hi all l (fun q hq => h q (by simp [hq]))]
theorem roEnts_upd {i : Nat} {e : Ent} (hi : st.bx i = none) (ids : List Nat) (h : ∀ j ∈ ids, (st.bx j).isSome = true) : roEnts (st.upd i e) ids = roEnts st ids := roEnts0_upd hi ids ids h

theorem evVal_congr (hp : env.hp = false) (h : Same o s s') : evVal P env o s = evVal P env o s' := by
 have hrm : ∀ d, rowMark env d = false := fun d => by unfold rowMark; rw [hp]; rfl
 have key := fun t x hx => opd_same (P := P) (x := x) h hx t
 unfold evVal opd0
 cases hop : o.op <;> simp only [hop, Op.operands] at key ⊢ <;> try rfl
 case move x => rw [key _ x (by simp)]
 case assign x => rw [key _ x (by simp)]
 case pick c x y => rw [key _ c (by simp), key _ x (by simp), key _ y (by simp)]
 case binOp op t x y yt => rw [key _ x (by simp), key _ y (by simp)]
 case convert a b x => rw [key _ x (by simp)]
 case slice t x lo hi mx =>
  have hlo : ∀ y, lo = some y -> ∀ t, opd P s t y = opd P s' t y := fun y hy t => key t y (by subst hy; simp)
  have hhi : ∀ y, hi = some y -> ∀ t, opd P s t y = opd P s' t y := fun y hy t => key t y (by subst hy; simp)
  have e1 : intOpt P s lo = intOpt P s' lo := by cases lo with | none => rfl | some y => simp only [intOpt, hlo y rfl]
  have e2 : intOpt P s hi = intOpt P s' hi := by cases hi with | none => rfl | some y => simp only [intOpt, hhi y rfl]
  have e3 : loOf P s lo = loOf P s' lo := by cases lo with | none => rfl | some y => simp only [loOf, hlo y rfl]
  have e4 : hiOf P s x o.type hi = hiOf P s' x o.type hi := by
   cases hi with
   | none => simp only [hiOf]; rw [key _ x (by simp)]
   | some y => simp only [hiOf, hhi y rfl]
  rw [key _ x (by simp), e1, e2, e3, e4]
 case unOp op t x => cases op <;> simp only <;> try rfl
                     all_goals rw [key _ x (by simp)]
 case field t x k => rw [key _ x (by simp)]
 case indexAddr t x i => rw [key _ x (by simp), key _ i (by simp)]
 case extract x k => rw [key _ x (by simp)]
 case build t ps =>
  have : ∀ p ∈ ps.toList, ∀ t, opd P s t p.2 = opd P s' t p.2 := fun p hp t => key t p.2 (by simpa using ⟨p.1, by simpa using hp⟩)
  split
  ·split
   ·split
    ·simp only [hrm, Bool.false_eq_true, if_false]
     rw [partsOf_congr _ _ this]
    ·rfl
   ·rfl
  ·split
   ·split
    ·rw [partsOf_congr _ _ this]
    ·rfl
   ·rfl
  ·rfl
 case index t x i => rw [key _ x (by simp), key _ i (by simp)]
 case makeFunc fn first caps =>
  cases fn <;> simp only <;> try rfl
  split
  ·rw [capIds_congr caps.toList (fun x hx t => key t x (by simp only [Array.toList_append, List.mem_append]; exact .inr hx))]
  ·rename_i x hfl
   rw [key _ x (by simp only [Array.toList_append, List.mem_append]; exact .inl (by rw [hfl]; simp))]
  ·rfl
 case buildSlice t len ps =>
  have : ∀ p ∈ ps.toList, ∀ t, opd P s t p.2 = opd P s' t p.2 := fun p hp t => key t p.2 (by simpa using ⟨p.1, by simpa using hp⟩)
  split
  ·split
   ·split
    ·rfl
    ·split
     ·rw [partsOf_congr _ _ this]
     ·rfl
   ·rfl
  ·rfl
 case call c =>
  have hargs : ∀ x ∈ c.args.toList, ∀ t, opd P s t x = opd P s' t x := fun x hx t => key t x (by
   simp only [Call.operands, Array.toList_append, List.mem_append]; exact .inr hx)
  cases hcal : c.callee with
  | builtin b =>
   simp only
   unfold evBuiltin
   split
   ·rename_i hb hx ht
    rw [hx] at hargs
    rw [hargs _ (by simp), hargs _ (by simp)]
   ·rename_i hb hx ht
    rw [hx] at hargs
    rw [hargs _ (by simp), hargs _ (by simp)]
   ·rename_i hb hx ht
    rw [hx] at hargs
    split
    ·rw [hargs _ (by simp)]
    ·rw [hargs _ (by simp)]
    ·rfl
   ·rfl
  | invoke r m =>
   simp only [calleeOf]
  | value g =>
   simp only
   have hcal' : calleeOf P s (.value g) = calleeOf P s' (.value g) := by
    cases g with
    | tmp i =>
     have := h i (by simp [hop, Op.operands, Call.operands, hcal])
     simp only [calleeOf, this]
    | const v => rfl
    | global g => rfl
    | func f => rfl
   have hbo : bndOf P s (.value g) = bndOf P s' (.value g) := by
    cases g with
    | tmp i =>
     have := h i (by simp [hop, Op.operands, Call.operands, hcal])
     simp only [bndOf, this]
    | const v => rfl
    | global g => rfl
    | func f => rfl
   rw [hcal', hbo, argsOf_congr _ _ hargs]

theorem nil_app {c : Call} (h : (appNil c).isSome = true) : appOf c = none := by
 unfold appNil at h
 unfold appOf
 split at h
 ·rename_i h1 h2 h3
  rw [h1, h2, h3]
 ·cases h
theorem not_app {c : Call} (h : memCls (.call c) <= 3) : appOf c = none := by
 cases hn : (appNil c).isSome with
 | true => exact nil_app hn
 | false =>
  cases ha : appOf c with
  | none => rfl
  | some x => simp [memCls, ha, hn] at h
theorem not_nil {c : Call} (h : memCls (.call c) <= 1) : appNil c = none := by
 cases hn : appNil c with
 | none => rfl
 | some x => simp [memCls, hn] at h
theorem nil_not {c : Call} (h : memCls (.call c) = 2) : ∃ x t, appNil c = some (x, t) := by
 cases hn : appNil c with
 | some x => exact ⟨x.1, x.2, rfl⟩
 | none =>
  exfalso
  simp only [memCls, hn] at h
  cases ha : (appOf c).isSome <;> cases hl : (lenOf c).isSome <;> cases ht : tmpCallee c <;> simp [ha, hl, ht] at h
theorem roSlot_none {c : Call} (h : memCls (.call c) = 0) : roSlot st c = none := by
 have ht : tmpCallee c = false := by
  unfold memCls at h
  cases hn : (appNil c).isSome <;> cases ha : (appOf c).isSome <;> cases hl : (lenOf c).isSome <;> cases ht : tmpCallee c <;> simp [hn, ha, hl, ht] at h ⊢
 unfold roSlot
 unfold tmpCallee at ht
 split
 ·rename_i i hc
  rw [hc] at ht
  cases ht
 ·rfl

theorem rowOf_congr {i : Nat} {t : TypeId} (h : s.get i = s'.get i) (hb : s.bx = s'.bx) : rowOf s i t = rowOf s' i t := by unfold rowOf; rw [h, hb]
theorem rowX_congr {x : Operand} {t : TypeId} (h : ∀ i, x = .tmp i -> s.get i = s'.get i) (hb : s.bx = s'.bx) : rowX s x t = rowX s' x t := by
 unfold rowX
 split
 ·rename_i i; exact rowOf_congr (h i rfl) hb
 ·rfl
theorem lenOf_spec {c : Call} {i : Nat} {t : TypeId} (h : lenOf c = some (i, t)) : c.args.toList = [.tmp i] := by
 unfold lenOf at h
 split at h
 ·rename_i ha _; cases h; exact ha
 ·cases h
theorem lenRow_congr {c : Call} (h : ∀ i, Operand.tmp i ∈ c.args.toList -> s.get i = s'.get i) (hb : s.bx = s'.bx) : lenRow s c = lenRow s' c := by
 unfold lenRow
 split
 ·rename_i i t hl
  exact rowOf_congr (h i (by rw [lenOf_spec hl]; simp)) hb
 ·rfl
theorem lenRow_none {c : Call} (h : memCls (.call c) = 0) : lenRow st c = none := by
 unfold lenRow
 cases hl : lenOf c with
 | none => rfl
 | some x =>
  exfalso
  unfold memCls at h
  cases hn : (appNil c).isSome <;> cases ha : (appOf c).isSome <;> simp [hn, ha, hl] at h
theorem rowOf_upd {i j : Nat} {e : Ent} {t : TypeId} (hi : st.bx i = none) (hn : ND st) : rowOf (st.upd i e) j t = rowOf st j t := by
 unfold rowOf
 rw [upd_get]
 by_cases ht : (st.get j).tag = 2
 ·have hne : (st.get j).id ≠ i := fun hh => by
   have := hn j (st.get j).id (by rw [refs_2 ht]; exact List.mem_singleton.2 rfl)
   rw [hh, hi] at this
   cases this
  rw [upd_bx, if_neg hne]
 ·have : ((st.get j).tag == 2) = false := by simpa using ht
  rw [this]
  rfl
theorem rowX_upd {i : Nat} {x : Operand} {e : Ent} {t : TypeId} (hi : st.bx i = none) (hn : ND st) : rowX (st.upd i e) x t = rowX st x t := by
 unfold rowX
 split
 ·exact rowOf_upd hi hn
 ·rfl
theorem lenRow_upd {i : Nat} {c : Call} {e : Ent} (hi : st.bx i = none) (hn : ND st) : lenRow (st.upd i e) c = lenRow st c := by
 unfold lenRow
 split
 ·exact rowOf_upd hi hn
 ·rfl

def rowOp : Op -> Option (TypeId × Operand)
 | .indexAddr t x _ => some (t, x)
 | .slice t x _ _ _ => some (t, x)
 | _ => none
theorem rowOp_mem {op : Op} {t : TypeId} {x : Operand} (h : rowOp op = some (t, x)) : x ∈ op.operands.toList := by
 unfold rowOp at h
 split at h
 ·cases h; simp [Op.operands]
 ·cases h; simp [Op.operands]
 ·cases h
theorem chkOp_congr (hpl : PlainE env) (hm : memCls o.op <= 3) (h : Same o s s') (hb : memCls o.op = 1 -> ∀ t x, rowOp o.op = some (t, x) -> rowX s x t = rowX s' x t)
  (hre : memCls o.op = 1 -> ∀ c i, o.op = .call c -> roSlot s' c = some i -> roEnts s (s'.get i).tys = roEnts s' (s'.get i).tys) : chkOp P env s o = chkOp P env s' o := by
 have key := fun t x hx => opd_same (P := P) (x := x) h hx t
 unfold chkOp
 cases hop : o.op <;> simp only [hop, Op.operands] at key ⊢ <;> try rfl
 case binOp op t x y yt => cases op <;> simp only <;> try rfl
                           case add => rw [key _ x (by simp), key _ y (by simp)]
                           all_goals rw [key _ y (by simp)]
 case indexAddr t x i =>
  rw [hb (by rw [hop]; rfl) t x (by rw [hop]; rfl), key _ x (by simp), key _ i (by simp)]
 case index t x i => rw [key _ i (by simp), key _ x (by simp)]
 case makeSlice t x y => rw [key _ x (by simp), key _ y (by simp)]
 case slice t x lo hi mx =>
  have hlo : ∀ y, lo = some y -> ∀ t, opd P s t y = opd P s' t y := fun y hy t => key t y (by subst hy; simp)
  have hhi : ∀ y, hi = some y -> ∀ t, opd P s t y = opd P s' t y := fun y hy t => key t y (by subst hy; simp)
  have e3 : loOf P s lo = loOf P s' lo := by cases lo with | none => rfl | some y => simp only [loOf, hlo y rfl]
  have e4 : hiOf P s x o.type hi = hiOf P s' x o.type hi := by
   cases hi with
   | none => simp only [hiOf]; rw [key _ x (by simp)]
   | some y => simp only [hiOf, hhi y rfl]
  rw [hb (by rw [hop]; rfl) t x (by rw [hop]; rfl), key _ x (by simp), e3, e4]
 case call c =>
  have hargs : ∀ x ∈ c.args.toList, ∀ t, opd P s t x = opd P s' t x := fun x hx t => key t x (by
   simp only [Call.operands, Array.toList_append, List.mem_append]; exact .inr hx)
  have hcal' : calleeOf P s c.callee = calleeOf P s' c.callee := by
   cases hcal : c.callee with
   | builtin b => rfl
   | invoke r m => rfl
   | value g =>
    cases g with
    | tmp i =>
     have := h i (by simp [hop, Op.operands, Call.operands, hcal])
     simp only [calleeOf, this]
    | const v => rfl
    | global g => rfl
    | func f => rfl
  have hbo : bndOf P s c.callee = bndOf P s' c.callee := by
   cases hcal : c.callee with
   | builtin b => rfl
   | invoke r m => rfl
   | value g =>
    cases g with
    | tmp i =>
     have := h i (by simp [hop, Op.operands, Call.operands, hcal])
     simp only [bndOf, this]
    | const v => rfl
    | global g => rfl
    | func f => rfl
  rw [hop] at hm
  cases hn : appNil c with
  | some q =>
   obtain ⟨y, t⟩ := q
   simp only
   have hy : y ∈ c.args.toList := by rw [appNil_spec hn]; simp
   rw [hargs y hy]
  | none =>
   simp only
   rw [hcal', hbo, argsOf_congr _ _ hargs, not_app hm, heapF_none hpl, heapF_none hpl, freshF_none hpl, bornF_none hpl, roSlot_congr h hop]
   cases hro : roSlot s' c with
   | none => rfl
   | some i =>
    have h1 : memCls (.call c) = 1 := by
     have ht : tmpCallee c = true := by unfold tmpCallee; rw [(roSlot_spec hro).1]
     have ha := not_app hm
     unfold memCls
     cases hl : (lenOf c).isSome <;> simp [hn, ha, hl, ht]
    simp only
    rw [roSlot_get h hop hro, hre (by rw [hop]; exact h1) c i hop hro]

/-! ### Two operations that are apart -/
theorem get_put_ne {d : Option Nat} {x : AV} {i : Nat} (h : d ≠ some i) : (st.put d x).get i = st.get i := by
 rw [get_put, if_neg (fun hh => h hh.1)]

theorem put_comm {d e : Option Nat} {x y : AV} (h : ∀ i, d = some i -> e ≠ some i) : (st.put d x).put e y = (st.put e y).put d x := by
 cases d with
 | none => rfl
 | some d =>
  cases e with
  | none => rfl
  | some e =>
   have : d ≠ e := fun hh => h d rfl (by rw [hh])
   simp only [St.put]
   rw [List.set_comm _ _ this]

theorem upd_put {d : Option Nat} {x : AV} {i : Nat} {e : Ent} : (st.put d x).upd i e = (st.upd i e).put d x := by cases d <;> rfl

theorem upd_comm {d i : Nat} {e f : Ent} (h : d ≠ i) : (st.upd i e).upd d f = (st.upd d f).upd i e := by
 simp only [St.upd, St.mk.injEq, true_and]
 funext j
 by_cases h1 : j = d
 ·subst h1; simp [h]
 ·simp [h1]

theorem looks_guard {j d : Nat} {want : Bool} (hg : o.guard = some (j, want)) (hd : (ops[j]?).bind (·.dst) = some d) : d ∈ o.looksAt ops := by
 unfold Oper.looksAt
 rw [hg]
 simp [hd]

theorem looks_operand {i : Nat} (h : Operand.tmp i ∈ o.op.operands.toList) : i ∈ o.looksAt ops := by
 unfold Oper.looksAt
 exact List.mem_append_left _ (List.mem_filterMap.2 ⟨.tmp i, h, rfl⟩)

theorem same_put {d : Option Nat} {x : AV} (h : ∀ i, d = some i -> i ∉ o.looksAt ops) : Same o (st.put d x) st := by
 intro i hi
 exact get_put_ne (fun hd => h i hd (looks_operand hi))

theorem same_upd {i : Nat} {e : Ent} : Same o (st.upd i e) st := fun _ _ => rfl
theorem Same.trans {s1 s2 s3 : St} (h : Same o s1 s2) (k : Same o s2 s3) : Same o s1 s3 := fun i hi => (h i hi).trans (k i hi)

theorem guardOf_put {d : Option Nat} {x : AV} {j : Nat} {want : Bool} (hg : o.guard = some (j, want)) (h : ∀ i, d = some i -> i ∉ o.looksAt ops) : guardOf P ops (st.put d x) j want = guardOf P ops st j want := by
 unfold guardOf
 cases hd : (ops[j]?).bind (·.dst) with
 | none => rfl
 | some g =>
  simp only
  rw [get_put_ne (fun hh => h g hh (looks_guard hg hd))]

theorem guardOf_upd {i : Nat} {e : Ent} {j : Nat} {want : Bool} : guardOf P ops (st.upd i e) j want = guardOf P ops st j want := rfl

/-- The shape of what an operation does to a state. -/
theorem evOp_shape (hpl : PlainE env) (hm : memCls o.op <= 1) (h : evOp P env o s = some s') : ∃ v, s' = s.put o.dst v := by
 unfold evOp at h
 cases hop : o.op <;> simp only [litRow_plain hpl, Bool.false_eq_true, if_false, hop] at h hm <;> try (simp [memCls] at hm; done)
 case load t x =>
  simp only [hpl.1, Bool.false_eq_true, if_false] at h
  obtain ⟨d, _, rfl⟩ := Option.map_eq_some_iff.1 h; exact ⟨_, rfl⟩
 case fieldAddr t x k =>
  split at h
  ·split at h
   ·cases h; exact ⟨_, rfl⟩
   ·split at h
    ·cases h; exact ⟨_, rfl⟩
    ·split at h
     ·cases h; exact ⟨_, rfl⟩
     ·cases h
  ·cases h
 case assign x =>
  split at h
  ·rename_i hn
   simp [memCls, hn] at hm
  ·obtain ⟨v, _, rfl⟩ := Option.map_eq_some_iff.1 h; exact ⟨_, rfl⟩
 case call c =>
  rw [not_nil hm, not_app (Nat.le_trans hm (by decide)), heapF_none hpl, freshF_none hpl, bornF_none hpl] at h
  simp only [Option.isSome_none, Bool.false_eq_true, if_false] at h
  split at h
  ·obtain ⟨v, _, rfl⟩ := Option.map_eq_some_iff.1 h; exact ⟨_, rfl⟩
  ·split at h
   ·unfold roCall at h
    split at h
    ·split at h
     ·split at h
      ·obtain ⟨v, _, rfl⟩ := Option.map_eq_some_iff.1 h; exact ⟨_, rfl⟩
      ·cases h
     ·cases h
    ·cases h
   ·obtain ⟨v, _, rfl⟩ := Option.map_eq_some_iff.1 h; exact ⟨_, rfl⟩
 case indexAddr t x i =>
  split at h
  ·split at h
   ·split at h
    ·cases h; exact ⟨_, rfl⟩
    ·cases h
   ·cases h
  ·split at h
   ·split at h
    ·cases h; exact ⟨_, rfl⟩
    ·obtain ⟨v, _, rfl⟩ := Option.map_eq_some_iff.1 h; exact ⟨_, rfl⟩
   ·obtain ⟨v, _, rfl⟩ := Option.map_eq_some_iff.1 h; exact ⟨_, rfl⟩
 case slice t x lo hi mx =>
  split at h
  ·split at h
   ·cases h; exact ⟨_, rfl⟩
   ·cases h
  ·obtain ⟨v, _, rfl⟩ := Option.map_eq_some_iff.1 h; exact ⟨_, rfl⟩
 all_goals (obtain ⟨v, _, rfl⟩ := Option.map_eq_some_iff.1 h; exact ⟨_, rfl⟩)

theorem asked_put {d : Option Nat} {x : AV} (h : ∀ i, d = some i -> i ∉ o.looksAt ops) : asked P ops o (st.put d x) = asked P ops o st := by
 unfold asked
 cases hg : o.guard with
 | none => rfl
 | some g => obtain ⟨j, want⟩ := g; exact guardOf_put hg h

theorem asked_upd {i : Nat} {e : Ent} : asked P ops o (st.upd i e) = asked P ops o st := rfl

theorem ldA_put {d : Option Nat} {x y : AV} {t : TypeId} : ldA P (st.put d x) t y = ldA P st t y := by unfold ldA; rw [put_bx]

theorem boxC_put {d : Option Nat} {x y : AV} {t : TypeId} : boxC (st.put d x) t y = boxC st t y := by unfold boxC; rw [put_bx]
theorem boxL_put {lv : Bool} {d : Option Nat} {x y : AV} {t : TypeId} : boxL lv (st.put d x) t y = boxL lv st t y := by unfold boxL; rw [boxC_put]; unfold lvC; rw [put_bx]
theorem ldV_put {lv : Bool} {d : Option Nat} {x y : AV} {t : TypeId} : ldV P lv (st.put d x) t y = ldV P lv st t y := by unfold ldV; rw [boxL_put, ldA_put]
theorem stC_put {d : Option Nat} {x y z : AV} {t : TypeId} : stC P (st.put d x) t y z = (stC P st t y z).map fun s => s.put d x := by
 unfold stC
 rw [put_bx]
 split
 ·split
  ·split
   ·simp only [Option.map_some, upd_put]
   ·rfl
  ·rfl
 ·rfl

theorem splAt_put {d : Option Nat} {x y : AV} {t : TypeId} : splAt P (st.put d x) t y = splAt P st t y := by unfold splAt; rw [put_bx]
theorem stF_put {d : Option Nat} {x y z : AV} {t : TypeId} {e : Ent} {v : AV} {k : Nat} : stF P (st.put d x) t y z e v k = (stF P st t y z e v k).map fun s => s.put d x := by
 unfold stF
 rw [put_bx]
 split
 ·simp only [Option.map_some, upd_put]
 ·split
  ·split
   ·split
    ·simp only [Option.map_some, upd_put]
    ·rfl
   ·rfl
  ·rfl
theorem stA_put {d : Option Nat} {x y : AV} {t : TypeId} {z : D} : stA P (st.put d x) t y z = (stA P st t y z).map fun s => s.put d x := by
 unfold stA
 rw [put_bx]
 split
 ·split
  ·split
   ·split
    ·split
     ·split
      ·simp only [Option.map_some, upd_put]
      ·rfl
     ·split
      ·rfl
      ·split
       ·split
        ·simp only [Option.map_some, upd_put]
        ·rfl
       ·rfl
    ·split
     ·simp only [Option.map_some, upd_put]
     ·rfl
   ·split
    ·cases stE P _ t y z with
     | none => rfl
     | some e' => simp only [Option.map_some, upd_put]
    ·rfl
  ·rfl
 ·rfl

/-- What an operation does hangs on no slot that it does not look at. -/
theorem evOp_put (hpl : PlainE env) {d : Option Nat} {x : AV} (hm : memCls o.op <= 3) (hl : ∀ i, d = some i -> i ∉ o.looksAt ops) (hd : ∀ i, d = some i -> o.dst ≠ some i) :
  evOp P env o (st.put d x) = (evOp P env o st).map fun s => s.put d x := by
 have hs : Same o (st.put d x) st := same_put hl
 have key := fun t x hx => opd_same (P := P) (x := x) hs hx t
 unfold evOp opd0
 cases hop : o.op <;> simp only [litRow_plain hpl, Bool.false_eq_true, if_false, hop, Op.operands] at key ⊢
 case load t y =>
  simp only [hpl.1, Bool.false_eq_true, if_false]
  rw [key _ y (by simp), ldV_put]
  cases ldV P env.lv st t (opd P st o.type y) with
  | none => rfl
  | some r => simp only [Option.map_some, Option.some.injEq]; exact put_comm hd
 case store t y z =>
  simp only [hpl.1, Bool.false_or, Bool.false_eq_true, if_false]
  rw [key _ y (by simp), key _ z (by simp), splAt_put]
  split
  ·cases (if env.lv = true then splAt P st t (opd P st o.type y) else none) with
   | some r => exact stF_put
   | none =>
    simp only
    split
    ·exact stA_put
    ·exact stC_put
  ·rfl
 case fieldAddr t y k =>
  have hib : isBoxB (st.put d x) = isBoxB st := by funext j; unfold isBoxB; rw [put_bx]
  have hir : isRowB (st.put d x) = isRowB st := by funext j; unfold isRowB; rw [put_bx]
  rw [key _ y (by simp), hib, hir]
  split
  ·split
   ·simp only [Option.map_some, Option.some.injEq]; exact put_comm hd
   ·split
    ·simp only [Option.map_some, Option.some.injEq]; exact put_comm hd
    ·split
     ·simp only [Option.map_some, Option.some.injEq]; exact put_comm hd
     ·rfl
  ·rfl
 case alloc t =>
  rw [put_bx, hpl.1]
  simp only [Bool.false_and, Bool.false_eq_true, if_false]
  split
  ·rename_i dd z hdd hz
   split
   ·simp only [Option.map_some, Option.some.injEq, upd_put]
    rw [hdd] at hd
    exact put_comm hd
   ·rfl
  ·rfl
 case box t y =>
  rw [put_bx, key _ y (by simp)]
  split
  ·rename_i dd hdd
   rw [hdd] at hd
   split
   ·split
    ·simp only [Option.map_some, Option.some.injEq, upd_put]
     exact put_comm hd
    ·split
     ·simp only [Option.map_some, Option.some.injEq, upd_put]
      exact put_comm hd
     ·rfl
   ·rfl
  ·rfl
 case makeSlice t y z =>
  rw [put_bx, key _ y (by simp), key _ z (by simp)]
  split
  ·rename_i dd el hdd hso
   rw [hdd] at hd
   split
   ·split
    ·simp only [Option.map_some, Option.some.injEq, upd_put]
     exact put_comm hd
    ·rfl
   ·rfl
  ·rfl
 case assign y =>
  split
  ·unfold nilRow
   rw [put_bx]
   split
   ·rename_i dd z hdd hz
    split
    ·simp only [Option.map_some, Option.some.injEq, upd_put]
     rw [hdd] at hd
     exact put_comm hd
    ·rfl
   ·rfl
  ·rw [evVal_congr hpl.1 hs]
   cases evVal P env o st with
   | none => rfl
   | some r => simp only [Option.map_some, Option.some.injEq]; exact put_comm hd
 case call c =>
  rw [hop] at hm
  have hlr : lenRow (st.put d x) c = lenRow st c := lenRow_congr (fun i hi => hs i (by simp only [hop, Op.operands, Call.operands, Array.toList_append, List.mem_append]; exact .inr hi)) put_bx
  cases hn : appNil c with
  | some q =>
   obtain ⟨y, t⟩ := q
   simp only
   unfold appNew
   have hy : y ∈ c.args.toList := by rw [appNil_spec hn]; simp
   rw [put_bx, key _ y (by simp only [Call.operands, Array.toList_append, List.mem_append]; exact .inr hy)]
   split
   ·rename_i dd z hdd hz
    split
    ·simp only [Option.map_some, Option.some.injEq, upd_put]
     rw [hdd] at hd
     exact put_comm hd
    ·rfl
   ·rfl
  | none =>
   simp only
   rw [not_app hm, evVal_congr hpl.1 hs, hlr, heapF_none hpl, heapF_none hpl, freshF_none hpl, bornF_none hpl, roSlot_congr hs hop]
   simp only [Option.isSome_none, Bool.false_eq_true, if_false]
   split
   ·cases intA P (intTy P o P.rt.int) .i64 _ with
    | none => rfl
    | some r => simp only [Option.map_some, Option.some.injEq]; exact put_comm hd
   ·cases hro : roSlot st c with
    | some i =>
     simp only
     unfold roCall
     rw [roSlot_get hs hop hro, argsOf_congr c.args.toList c.argTypes.toList (fun y hy t => key t y (by simp only [Call.operands, Array.toList_append, List.mem_append]; exact .inr hy)), roEnts_bx (s := st.put d x) (s' := st) put_bx]
     split
     ·split
      ·rename_i t0 q0 F0 as0 es0 h1 h2 h3
       split
       ·cases F0 (as0.map argA ++ roCaps 0 es0) es0 with
        | none => rfl
        | some r => simp only [Option.map_some, Option.some.injEq]; exact put_comm hd
       ·rfl
      ·rfl
     ·rfl
    | none =>
     simp only
     cases evVal P env o st with
     | none => rfl
     | some r => simp only [Option.map_some, Option.some.injEq]; exact put_comm hd
 case indexAddr t y i =>
  have hrx : rowX (st.put d x) y t = rowX st y t := rowX_congr (fun j hj => hs j (by rw [hop, Op.operands, <- hj]; simp)) put_bx
  have hib : isBoxB (st.put d x) = isBoxB st := by funext j; unfold isBoxB; rw [put_bx]
  rw [hrx, key _ y (by simp), key _ i (by simp), key _ y (by simp), evVal_congr hpl.1 hs, hib]
  split
  ·split
   ·split
    ·simp only [Option.map_some, Option.some.injEq]; exact put_comm hd
    ·rfl
   ·rfl
  ·split
   ·split
    ·simp only [Option.map_some, Option.some.injEq]; exact put_comm hd
    ·cases evVal P env o st with
     | none => rfl
     | some r => simp only [Option.map_some, Option.some.injEq]; exact put_comm hd
   ·cases evVal P env o st with
    | none => rfl
    | some r => simp only [Option.map_some, Option.some.injEq]; exact put_comm hd
 case slice t y lo hi mx =>
  have hrx : rowX (st.put d x) y t = rowX st y t := rowX_congr (fun j hj => hs j (by rw [hop, Op.operands, <- hj]; simp)) put_bx
  have hhi : ∀ z, hi = some z -> ∀ t, opd P (st.put d x) t z = opd P st t z := fun z hz t => key t z (by subst hz; simp)
  have e2 : intOpt P (st.put d x) hi = intOpt P st hi := by cases hi with | none => rfl | some z => simp only [intOpt, hhi z rfl]
  have e4 : hiOf P (st.put d x) y o.type hi = hiOf P st y o.type hi := by
   cases hi with
   | none => simp only [hiOf]; rw [key _ y (by simp)]
   | some z => simp only [hiOf, hhi z rfl]
  rw [hrx, evVal_congr hpl.1 hs, e2, e4, key _ y (by simp)]
  split
  ·split
   ·simp only [Option.map_some, Option.some.injEq]; exact put_comm hd
   ·rfl
  ·cases evVal P env o st with
   | none => rfl
   | some r => simp only [Option.map_some, Option.some.injEq]; exact put_comm hd
 case range t y => rw [hop] at hm; simp [memCls] at hm
 case next y b => rw [hop] at hm; simp [memCls] at hm
 all_goals
  rw [evVal_congr hpl.1 hs]
  cases evVal P env o st with
  | none => rfl
  | some r => simp only [Option.map_some, Option.some.injEq]; exact put_comm hd

theorem opStep_put (hpl : PlainE env) {d : Option Nat} {x : AV} (hm : memCls o.op <= 3) (hl : ∀ i, d = some i -> i ∉ o.looksAt ops) (hd : ∀ i, d = some i -> o.dst ≠ some i) :
  opStep P env ops o (st.put d x) = (opStep P env ops o st).map fun s => s.put d x := by
 unfold opStep
 rw [asked_put hl, chkOp_congr hpl hm (same_put hl) (fun _ t y hro => rowX_congr (fun j hj => same_put hl j (by rw [<- hj]; exact rowOp_mem hro)) put_bx) (fun _ c i _ _ => roEnts_bx put_bx _)]
 split
 ·split
  ·exact evOp_put hpl hm hl hd
  ·rfl
 ·simp only [Option.map_some, Option.some.injEq]; exact put_comm hd
 ·rfl

/-- Nor on a box that it does not look at: (a) an operation that looks at none; (b) one that is new. -/
theorem evOp_upd0 (hpl : PlainE env) {i : Nat} {e : Ent} (hm : memCls o.op = 0) : evOp P env o (st.upd i e) = (evOp P env o st).map fun s => s.upd i e := by
 unfold evOp
 cases hop : o.op <;> simp only [litRow_plain hpl, Bool.false_eq_true, if_false, hop] at hm ⊢ <;> try (simp [memCls] at hm; done)
 case assign y =>
  split
  ·rename_i hn
   simp [memCls, hn] at hm
  ·rw [evVal_congr hpl.1 (same_upd (st := st) (i := i) (e := e))]
   cases evVal P env o st with
   | none => rfl
   | some r => simp only [Option.map_some, upd_put]
 case call c =>
  rw [not_nil (by omega), not_app (by omega), lenRow_none hm, lenRow_none hm, heapF_none hpl, heapF_none hpl, freshF_none hpl, bornF_none hpl, roSlot_none hm, roSlot_none hm, evVal_congr hpl.1 (same_upd (st := st) (i := i) (e := e))]
  simp only [Option.isSome_none, Bool.false_eq_true, if_false]
  cases evVal P env o st with
  | none => rfl
  | some r => simp only [Option.map_some, upd_put]
 all_goals
  rw [evVal_congr hpl.1 (same_upd (st := st) (i := i) (e := e))]
  cases evVal P env o st with
  | none => rfl
  | some r => simp only [Option.map_some, upd_put]

theorem opd_upd {i : Nat} {e : Ent} (t : TypeId) (x : Operand) : opd P (st.upd i e) t x = opd P st t x := by cases x <;> rfl

theorem ldA_upd {i : Nat} {e : Ent} {t : TypeId} {x : AV} (hi : st.bx i = none) (hx : LiveB st.bx x) : ldA P (st.upd i e) t x = ldA P st t x := by
 unfold ldA
 split
 ·rename_i ht
  have hne : x.id ≠ i := fun hh => by
   have := hx x.id (by rw [refs_2 ht]; exact List.mem_singleton.2 rfl)
   rw [hh, hi] at this
   cases this
  rw [upd_bx, if_neg hne]
 ·rfl

theorem boxC_upd {i : Nat} {e : Ent} {t : TypeId} {x : AV} (hi : st.bx i = none) (hx : LiveB st.bx x) : boxC (st.upd i e) t x = boxC st t x := by
 unfold boxC
 split
 ·rename_i ht
  simp only [Bool.and_eq_true, beq_iff_eq] at ht
  have hne : x.id ≠ i := fun hh => by
   have := hx x.id (by rw [refs_2 ht.1.1]; exact List.mem_singleton.2 rfl)
   rw [hh, hi] at this
   cases this
  rw [upd_bx, if_neg hne]
 ·rfl
theorem lvC_upd {i : Nat} {e : Ent} {t : TypeId} {x : AV} (hi : st.bx i = none) (hx : LiveB st.bx x) : lvC (st.upd i e) t x = lvC st t x := by
 unfold lvC
 split
 ·rfl
 ·split
  ·rename_i ht
   simp only [Bool.and_eq_true, beq_iff_eq] at ht
   have hne : x.id ≠ i := fun hh => by
    have := hx x.id (by rw [refs_2 ht.1.1]; exact List.mem_singleton.2 rfl)
    rw [hh, hi] at this
    cases this
   rw [upd_bx, if_neg hne]
  ·rfl
theorem ldV_upd {lv : Bool} {i : Nat} {e : Ent} {t : TypeId} {x : AV} (hi : st.bx i = none) (hx : LiveB st.bx x) : ldV P lv (st.upd i e) t x = ldV P lv st t x := by
 unfold ldV boxL
 rw [boxC_upd hi hx, ldA_upd hi hx, lvC_upd hi hx]

theorem evOp_upd1 (hpl : PlainE env) {i : Nat} {e : Ent} (hm : memCls o.op <= 2) (hi : st.bx i = none) (hn : ND st) (hd : o.dst ≠ some i) : evOp P env o (st.upd i e) = (evOp P env o st).map fun s => s.upd i e := by
 have hi_ := hi
 unfold evOp opd0
 cases hop : o.op <;> simp only [litRow_plain hpl, Bool.false_eq_true, if_false, hop] at hm ⊢ <;> try (simp [memCls] at hm; done)
 case load t x =>
  simp only [hpl.1, Bool.false_eq_true, if_false]
  rw [opd_upd, ldV_upd hi (opd_live hn _ _)]
  cases ldV P env.lv st t (opd P st o.type x) with
  | none => rfl
  | some r => simp only [Option.map_some, upd_put]
 case fieldAddr t y k =>
  rw [opd_upd]
  have hlive := opd_live (P := P) hn o.type y
  split
  ·by_cases ht : (opd P st o.type y).tag = 2
   ·have hne : (opd P st o.type y).id ≠ i := fun hh => by
     have := hlive (opd P st o.type y).id (by rw [refs_2 ht]; exact List.mem_singleton.2 rfl)
     rw [hh, hi] at this
     cases this
    have hib : isBoxB (st.upd i e) (opd P st o.type y).id = isBoxB st (opd P st o.type y).id := by unfold isBoxB; rw [upd_bx, if_neg hne]
    have hir : isRowB (st.upd i e) (opd P st o.type y).id = isRowB st (opd P st o.type y).id := by unfold isRowB; rw [upd_bx, if_neg hne]
    rw [hib, hir]
    split
    ·simp only [Option.map_some, upd_put]
    ·split
     ·simp only [Option.map_some, upd_put]
     ·split
      ·simp only [Option.map_some, upd_put]
      ·rfl
   ·have ht' : ((opd P st o.type y).tag == 2) = false := by simpa using ht
    simp only [ht', Bool.false_and, Bool.false_eq_true, if_false]
    split
    ·simp only [Option.map_some, upd_put]
    ·rfl
  ·rfl
 case alloc t =>
  rw [hpl.1]
  simp only [Bool.false_and, Bool.false_eq_true, if_false]
  split
  ·rename_i d z hdd hz
   have hne : d ≠ i := fun hh => hd (by rw [hdd, hh])
   rw [upd_bx, if_neg hne]
   split
   ·simp only [Option.map_some, Option.some.injEq, upd_put, upd_comm hne]
   ·rfl
  ·rfl
 case box t y =>
  rw [opd_upd]
  split
  ·rename_i d hdd
   have hne : d ≠ i := fun hh => hd (by rw [hdd, hh])
   rw [upd_bx, if_neg hne]
   split
   ·split
    ·simp only [Option.map_some, Option.some.injEq, upd_put, upd_comm hne]
    ·split
     ·simp only [Option.map_some, Option.some.injEq, upd_put, upd_comm hne]
     ·rfl
   ·rfl
  ·rfl
 case makeSlice t y z =>
  rw [opd_upd, opd_upd]
  split
  ·rename_i d el hdd hso
   have hne : d ≠ i := fun hh => hd (by rw [hdd, hh])
   rw [upd_bx, if_neg hne]
   split
   ·split
    ·simp only [Option.map_some, Option.some.injEq, upd_put, upd_comm hne]
    ·rfl
   ·rfl
  ·rfl
 case assign y =>
  split
  ·unfold nilRow
   split
   ·rename_i d z hdd hz
    have hne : d ≠ i := fun hh => hd (by rw [hdd, hh])
    rw [upd_bx, if_neg hne]
    split
    ·simp only [Option.map_some, Option.some.injEq, upd_put, upd_comm hne]
    ·rfl
   ·rfl
  ·rw [evVal_congr hpl.1 (same_upd (st := st) (i := i) (e := e))]
   cases evVal P env o st with
   | none => rfl
   | some r => simp only [Option.map_some, upd_put]
 case call c =>
  cases hnl : appNil c with
  | some q =>
   obtain ⟨y, t⟩ := q
   simp only
   unfold appNew
   rw [opd_upd]
   split
   ·rename_i d z hdd hz
    have hne : d ≠ i := fun hh => hd (by rw [hdd, hh])
    rw [upd_bx, if_neg hne]
    split
    ·simp only [Option.map_some, Option.some.injEq, upd_put, upd_comm hne]
    ·rfl
   ·rfl
  | none =>
   simp only
   have hs2 := same_upd (o := o) (st := st) (i := i) (e := e)
   rw [not_app (by omega), lenRow_upd hi hn, heapF_none hpl, heapF_none hpl, freshF_none hpl, bornF_none hpl, roSlot_congr hs2 hop, evVal_congr hpl.1 hs2]
   simp only [Option.isSome_none, Bool.false_eq_true, if_false]
   split
   ·cases intA P (intTy P o P.rt.int) .i64 _ with
    | none => rfl
    | some r => simp only [Option.map_some, upd_put]
   ·cases hro : roSlot st c with
    | some k =>
     simp only
     unfold roCall
     rw [upd_get, argsOf_congr (P := P) (s := st.upd i e) (s' := st) c.args.toList c.argTypes.toList (fun y _ t => opd_upd t y), roEnts_upd hi _ (fun j hj => hn k j (by rw [refs_4 (roSlot_spec hro).2]; exact hj))]
     split
     ·split
      ·rename_i t0 q0 F0 as0 es0 h1 h2 h3
       split
       ·cases F0 (as0.map argA ++ roCaps 0 es0) es0 with
        | none => rfl
        | some r => simp only [Option.map_some, upd_put]
       ·rfl
      ·rfl
     ·rfl
    | none =>
     simp only
     cases evVal P env o st with
     | none => rfl
     | some r => simp only [Option.map_some, upd_put]
 case indexAddr t y j =>
  rw [rowX_upd hi hn, opd_upd, opd_upd, opd_upd, evVal_congr hpl.1 (same_upd (st := st) (i := i) (e := e))]
  split
  ·split
   ·split
    ·simp only [Option.map_some, upd_put]
    ·rfl
   ·rfl
  ·split
   ·by_cases ht : (opd P st o.type y).tag = 2
    ·have hne : (opd P st o.type y).id ≠ i := fun hh => by
      have := opd_live (P := P) hn o.type y (opd P st o.type y).id (by rw [refs_2 ht]; exact List.mem_singleton.2 rfl)
      rw [hh, hi] at this
      cases this
     have hib : isBoxB (st.upd i e) (opd P st o.type y).id = isBoxB st (opd P st o.type y).id := by unfold isBoxB; rw [upd_bx, if_neg hne]
     rw [hib]
     split
     ·simp only [Option.map_some, upd_put]
     ·cases evVal P env o st with
      | none => rfl
      | some r => simp only [Option.map_some, upd_put]
    ·have ht' : ((opd P st o.type y).tag == 2) = false := by simpa using ht
     simp only [ht', Bool.false_and, Bool.false_eq_true, if_false]
     cases evVal P env o st with
     | none => rfl
     | some r => simp only [Option.map_some, upd_put]
   ·cases evVal P env o st with
    | none => rfl
    | some r => simp only [Option.map_some, upd_put]
 case slice t y lo hi mx =>
  have e2 : intOpt P (st.upd i e) hi = intOpt P st hi := by cases hi with | none => rfl | some z => simp only [intOpt, opd_upd]
  have e4 : hiOf P (st.upd i e) y o.type hi = hiOf P st y o.type hi := by
   cases hi with
   | none => simp only [hiOf, opd_upd]
   | some z => simp only [hiOf, opd_upd]
  rw [rowX_upd hi_ hn, evVal_congr hpl.1 (same_upd (st := st) (i := i) (e := e)), e2, e4, opd_upd]
  split
  ·split
   ·simp only [Option.map_some, upd_put]
   ·rfl
  ·cases evVal P env o st with
   | none => rfl
   | some r => simp only [Option.map_some, upd_put]
 all_goals
  rw [evVal_congr hpl.1 (same_upd (st := st) (i := i) (e := e))]
  cases evVal P env o st with
  | none => rfl
  | some r => simp only [Option.map_some, upd_put]

end
end Go.Ev
