/- Trees of functions, and lemmas. Nothing here is trusted. -/
import Derived.Test.YtngkmngbnlmgjaaZ10
namespace Go.Ev
open Go.RowKit
set_option linter.unusedVariables false
set_option linter.unusedSimpArgs false
section
variable {P : Program} {w w' : World} {ok ok' : Nat -> Prop} {β : Nat -> Nat × Nat} {ops : Array Oper}
variable {F : Fr P} {st st' s s' s1 s2 s12 : St} {a : Act} {env : Env} {o oi oj : Oper} {av : AV} {Q : Exit -> Act -> World -> Prop}

theorem isAlloc_inv {op : Op} (h : isAlloc op = true) : ∃ t, op = .alloc t := by
 cases op <;> simp [isAlloc] at h ⊢
theorem evOp_alloc (hpl : PlainE env) {t : TypeId} (hop : o.op = .alloc t) (h : evOp P env o st = some s') : ∃ d e b, o.dst = some d /\ s' = (st.upd d e).put (some d) b /\ (b.tag = 2 -> b.id = d) := by
 unfold evOp at h
 simp only [hop] at h
 rw [hpl.1] at h
 simp only [Bool.false_and, Bool.false_eq_true, if_false] at h
 split at h
 ·rename_i d z hd hz
  split at h
  ·cases h
   exact ⟨d, _, _, hd, rfl, fun _ => rfl⟩
  ·cases h
 ·cases h
theorem evOp_storeAt (hpl : PlainE env) {t : TypeId} {a : Nat} {y : Operand} (hop : o.op = .store t (.tmp a) y) (h : evOp P env o st = some s') : ∃ e, s' = st.upd (st.get a).id e /\ (st.get a).tag = 2 /\ o.dst = none := by
 unfold evOp opd0 at h
 simp only [hop, hpl.1, Bool.false_or, Bool.false_eq_true, if_false] at h
 split at h
 ·rename_i hc
  have hd : o.dst = none := by simpa using hc
  split at h
  ·rename_i e v k hsp
   have hsp : splAt P st t (opd P st o.type (.tmp a)) = some (e, v, k) := by
    split at hsp
    ·exact hsp
    ·cases hsp
   have ht2 : (st.get a).tag = 2 := (splAt_spec hsp).1
   unfold stF at h
   split at h
   ·cases h; exact ⟨_, rfl, ht2, hd⟩
   ·split at h
    ·split at h
     ·split at h
      ·cases h; exact ⟨_, rfl, ht2, hd⟩
      ·cases h
     ·cases h
    ·cases h
  split at h
  rotate_left
  ·unfold stC at h
   split at h
   ·rename_i ht
    rw [Bool.and_eq_true, Bool.and_eq_true] at ht
    have ht2 : (st.get a).tag = 2 := by simpa [opd] using ht.1.1
    split at h
    ·split at h
     ·cases h; exact ⟨_, rfl, ht2, hd⟩
     ·cases h
    ·cases h
   ·cases h
  unfold stA at h
  split at h
  ·rename_i ht
   have ht2 : (st.get a).tag = 2 := by simpa [opd] using ht
   split at h
   ·split at h
    ·split at h
     ·split at h
      ·split at h
       ·cases h; exact ⟨_, rfl, ht2, hd⟩
       ·cases h
      ·split at h
       ·cases h
       ·split at h
        ·split at h
         ·cases h; exact ⟨_, rfl, ht2, hd⟩
         ·cases h
        ·cases h
     ·split at h
      ·cases h; exact ⟨_, rfl, ht2, hd⟩
      ·cases h
    ·split at h
     ·obtain ⟨e', _, rfl⟩ := Option.map_eq_some_iff.1 h
      exact ⟨_, rfl, ht2, hd⟩
     ·cases h
   ·cases h
  ·cases h
 ·cases h

/-- What a step does. -/
theorem step_forms (hpl : PlainE env) (hm : memCls o.op <= 3) (h : opStep P env ops o st = some s') :
  (∃ u, s' = st.put o.dst u /\ (memCls o.op <= 1 \/ asked P ops o st = some false)) \/ (memCls o.op = 2 /\ ∃ d e b, o.dst = some d /\ st.bx d = none /\ s' = (st.upd d e).put (some d) b) \/ (memCls o.op = 3 /\ ∃ i e, s' = st.upd i e /\ (st.bx i).isSome = true /\ evOp P env o st = some s') := by
 rcases step_cases h with ⟨h1, rfl⟩ | ⟨_, _, h3⟩
 ·exact .inl ⟨_, rfl, .inr h1⟩
 ·by_cases h1 : memCls o.op <= 1
  ·obtain ⟨u, hu⟩ := evOp_shape hpl h1 h3
   exact .inl ⟨u, hu, .inl h1⟩
  ·by_cases h2 : memCls o.op = 2
   ·obtain ⟨d, e, b, g1, g2, g3, _⟩ := evOp_new hpl h2 h3
    exact .inr (.inl ⟨h2, d, e, b, g1, g2, g3⟩)
   ·obtain ⟨i, e, g1, _, g3⟩ := evOp_store hpl (by omega) h3
    exact .inr (.inr ⟨by omega, i, e, g1, g3, h3⟩)
theorem step_get (hpl : PlainE env) (hm : memCls o.op <= 3) (h : opStep P env ops o st = some s') {x : Nat} (hx : o.dst ≠ some x) : s'.get x = st.get x := by
 rcases step_forms hpl hm h with ⟨u, rfl, _⟩ | ⟨_, d, e, b, hd, _, rfl⟩ | ⟨_, i, e, rfl, _⟩
 ·exact get_put_ne hx
 ·rw [get_put_ne (by rw [<- hd]; exact hx)]
  rfl
 ·rfl

/-! ### Boxes that are added -/
def updL (st : St) : List (Nat × Ent) -> St
 | [] => st
 | p :: m => updL (st.upd p.1 p.2) m
theorem updL_put {d : Option Nat} {x : AV} : ∀ (m : List (Nat × Ent)) (st : St), updL (st.put d x) m = (updL st m).put d x
 | [], st => rfl
 | p :: m, st => by
  show updL ((st.put d x).upd p.1 p.2) m = (updL (st.upd p.1 p.2) m).put d x
  rw [upd_put, updL_put m]
theorem upd_same {i : Nat} {e f : Ent} : (st.upd i e).upd i f = st.upd i f := by
 simp only [St.upd, St.mk.injEq, true_and]
 funext j
 by_cases h : j = i <;> simp [h]
theorem updL_over {i : Nat} {e : Ent} : ∀ (m : List (Nat × Ent)) (st : St), i ∈ m.map (·.1) -> updL (st.upd i e) m = updL st m
 | [], st, h => by cases h
 | p :: m, st, h => by
  show updL ((st.upd i e).upd p.1 p.2) m = updL (st.upd p.1 p.2) m
  by_cases hp : p.1 = i
  ·rw [hp, upd_same]
  ·rw [upd_comm hp]
   refine updL_over m _ ?_
   rw [List.map_cons, List.mem_cons] at h
   rcases h with h | h
   ·exact absurd h.symm hp
   ·exact h

def Lat (P : Program) (env : Env) (ops : Array Oper) (X : Nat -> Prop) (oi : Oper) (st : St) (v : AV) : Prop := ∀ m : List (Nat × Ent), (∀ p ∈ m, X p.1) -> opStep P env ops oi (updL st m) = some ((updL st m).put oi.dst v)
def Xof (ops : Array Oper) (oi : Oper) (k : Nat) : Prop := memCls oi.op = 0 \/ k ∈ newIds ops.toList

theorem lat0 (hpl : PlainE env) (hm : memCls oi.op = 0) {v : AV} : ∀ (m : List (Nat × Ent)) (st : St), opStep P env ops oi st = some (st.put oi.dst v) -> opStep P env ops oi (updL st m) = some ((updL st m).put oi.dst v)
 | [], st, h => h
 | p :: m, st, h => lat0 hpl hm m (st.upd p.1 p.2) (by
   rw [opStep_upd0 hpl hm, h]
   simp only [Option.map_some, upd_put])
theorem nd_upd (hn : ND st) (i : Nat) (e : Ent) : ND (st.upd i e) := fun j => live_upd (hn j)
theorem lat1 (hpl : PlainE env) (hm : memCls oi.op <= 1) {v : AV} : ∀ (m : List (Nat × Ent)) (st : St), ND st -> (∀ p ∈ m, st.bx p.1 = none) -> (∀ p ∈ m, oi.dst ≠ some p.1) -> opStep P env ops oi st = some (st.put oi.dst v) -> opStep P env ops oi (updL st m) = some ((updL st m).put oi.dst v)
 | [], st, _, _, _, h => h
 | p :: m, st, hn, hb, hd, h => by
  show opStep P env ops oi (updL (st.upd p.1 p.2) m) = some ((updL (st.upd p.1 p.2) m).put oi.dst v)
  by_cases hin : p.1 ∈ m.map (·.1)
  ·rw [updL_over m st hin]
   exact lat1 hpl hm m st hn (fun q hq => hb q (List.mem_cons_of_mem _ hq)) (fun q hq => hd q (List.mem_cons_of_mem _ hq)) h
  ·refine lat1 hpl hm m (st.upd p.1 p.2) (nd_upd hn _ _) (fun q hq => ?_) (fun q hq => hd q (List.mem_cons_of_mem _ hq)) ?_
   ·have hne : q.1 ≠ p.1 := fun he => hin (he ▸ List.mem_map.2 ⟨q, hq, rfl⟩)
    rw [upd_bx, if_neg hne]
    exact hb q (List.mem_cons_of_mem _ hq)
   ·rw [opStep_upd1 hpl (by omega) (hb p (List.mem_cons_self ..)) hn (hd p (List.mem_cons_self ..)), h]
    simp only [Option.map_some, upd_put]

theorem newIds_cons (p : Oper) (l : List Oper) : newIds (p :: l) = if memCls p.op == 2 then (match p.dst with | some d => (match p.op with | .alloc _ => d :: (d + RID) :: newIds l | _ => d :: newIds l) | none => newIds l) else newIds l := by
 rw [newIds]
 rfl
theorem newIds_head {p : Oper} {l : List Oper} {d : Nat} (hm : memCls p.op = 2) (hd : p.dst = some d) : d ∈ newIds (p :: l) := by
 rw [newIds_cons, if_pos (by rw [hm]; rfl), hd]
 cases p.op <;> exact List.mem_cons_self ..
theorem newIds_tail {p : Oper} {l : List Oper} {d : Nat} (h : d ∈ newIds l) : d ∈ newIds (p :: l) := by
 rw [newIds_cons]
 cases (memCls p.op == 2) with
 | false => exact h
 | true =>
  rw [if_pos rfl]
  cases p.dst with
  | none => exact h
  | some x =>
   cases p.op with
   | alloc t => exact List.mem_cons_of_mem _ (List.mem_cons_of_mem _ h)
   | _ => exact List.mem_cons_of_mem _ h
theorem mem_newIds (l : List Oper) (o : Oper) (d : Nat) (h : o ∈ l) (hm : memCls o.op = 2) (hd : o.dst = some d) : d ∈ newIds l := by
 induction l with
 | nil => cases h
 | cons p l ih =>
  rcases List.mem_cons.1 h with h | h
  ·rw [h] at hm hd
   exact newIds_head hm hd
  ·exact newIds_tail (ih h)
theorem at_mem {k : Nat} (h : ops[k]? = some o) : o ∈ ops.toList := by
 have := Array.getElem?_eq_some_iff.1 h
 obtain ⟨hk, rfl⟩ := this
 simp

/-- A state in which what is to come first may still come first. -/
theorem lat_step (hpl : PlainE env) (hm : memCls oi.op <= 1) {v : AV} {j : Nat} (hj : ops[j]? = some oj) (hap : oi.apart ops oj = true) (hmj : memCls oj.op <= 3) (hst : memCls oj.op = 3 -> ∀ i e, s2 = st.upd i e -> evOp P env oj st = some s2 -> (st.bx i).isSome = true -> ∃ i' e', s2 = st.upd i' e' /\ Xof ops oi i')
  (L : Lat P env ops (Xof ops oi) oi st v) (h : opStep P env ops oj st = some s2) : Lat P env ops (Xof ops oi) oi s2 v := by
 obtain ⟨a1, a2, a3⟩ := Oper.apart_spec hap
 have a4 : ∀ d, oj.dst = some d -> oi.dst ≠ some d := fun d hd hd' => a2 d hd' hd
 have hput : ∀ (st : St) (u : AV), Lat P env ops (Xof ops oi) oi st v -> Lat P env ops (Xof ops oi) oi (st.put oj.dst u) v := by
  intro st u L m hmm
  rw [updL_put, opStep_put hpl (by omega) a3 a4, L m hmm]
  simp only [Option.map_some, Option.some.injEq]
  exact put_comm a2
 have hupd : ∀ (i : Nat) (e : Ent), Xof ops oi i -> Lat P env ops (Xof ops oi) oi (st.upd i e) v := by
  intro i e hi m hmm
  exact L ((i, e) :: m) (fun p hp => by
   rcases List.mem_cons.1 hp with rfl | hp
   ·exact hi
   ·exact hmm p hp)
 rcases step_forms hpl hmj h with ⟨u, rfl, _⟩ | ⟨h2, d, e, b, hd, _, rfl⟩ | ⟨h3, i, e, hs, hi, hev⟩
 ·exact hput st u L
 ·have := hput (st.upd d e) b (hupd d e (.inr (mem_newIds _ oj d (at_mem hj) h2 hd)))
  rw [hd] at this
  exact this
 ·obtain ⟨i', e', rfl, hx⟩ := hst h3 i e hs hev hi
  exact hupd i' e' hx

/-! ### All orders -/
def Pt (ops : Array Oper) (listed : Array Bool) (st : St) : Prop := ∀ (k : Nat) (o : Oper) (t : TypeId) (d : Nat), ops[k]? = some o -> o.op = .alloc t -> o.dst = some d -> o.guard = none -> listed.getD k false = true -> (st.get d).tag = 2 -> (st.get d).id = d

structure Lex2 (ops : Array Oper) : Prop where
 small : ∀ (j : Nat) (o : Oper), ops[j]? = some o -> memCls o.op <= 3
 aft : ∀ (j : Nat) (o : Oper), ops[j]? = some o -> ∀ e ∈ o.after, Region.binds .any e = true -> e.on < j
 uniq : ∀ (j k : Nat) (o o' : Oper), ops[j]? = some o -> ops[k]? = some o' -> isAlloc o.op = true -> k ≠ j -> o'.dst ≠ o.dst
 newdst : ∀ (k : Nat) (o : Oper), ops[k]? = some o -> memCls o.op <= 1 -> ∀ d ∈ newIds ops.toList, o.dst ≠ some d
 pair : ∀ (i j : Nat) (oi oj : Oper), i < j -> ops[i]? = some oi -> ops[j]? = some oj -> comm ops oi oj = true \/ waits ops 8 j i = true \/ freshTo ops i oi oj j = true

theorem lexOK2_spec (h : lexOK2 ops = true) : Lex2 ops := by
 unfold lexOK2 at h
 rw [List.all_eq_true] at h
 have hat : ∀ (j : Nat) (oj : Oper), ops[j]? = some oj -> _ := fun j oj hj => by
  have hlt : j < ops.size := (Array.getElem?_eq_some_iff.1 hj).1
  have := h j (List.mem_range.2 hlt)
  rw [hj] at this
  simp only [Bool.and_eq_true, Array.all_eq_true_iff_forall_mem, List.all_eq_true] at this
  exact this
 refine ⟨fun j o hj => ?_, fun j o hj e he hb => ?_, fun j k o o' hj hk ha hne => ?_, fun k o hk hm d hd => ?_, fun i j oi oj hij hi hj => ?_⟩
 ·have := (hat j o hj).1.1.1.2
  simpa using this
 ·have := (hat j o hj).1.1.1.1 e he
  simpa [hb] using this
 ·have h3 := (hat j o hj).1.1.2
  rw [ha] at h3
  simp only [Bool.not_true, Bool.false_or, List.all_eq_true] at h3
  have hlt : k < ops.size := (Array.getElem?_eq_some_iff.1 hk).1
  have := h3 k (List.mem_range.2 hlt)
  rw [hk] at this
  simp only [Bool.or_eq_true, beq_iff_eq, bne_iff_ne] at this
  rcases this with h4 | h4
  ·exact absurd h4 hne
  ·exact h4
 ·have h3 := (hat k o hk).1.2
  have h4 : decide (2 <= memCls o.op) = false := by simp; omega
  rw [h4, Bool.false_or, List.all_eq_true] at h3
  have := h3 d hd
  simpa using this
 ·have := (hat j oj hj).2 i (List.mem_range.2 hij)
  rw [hi] at this
  simp only [Bool.or_eq_true] at this
  rcases this with (h4 | h4) | h4
  ·exact .inl h4
  ·exact .inr (.inl h4)
  ·exact .inr (.inr h4)

theorem pt_step (hpl : PlainE env) (hx : Lex2 ops) {listed : Array Bool} {j : Nat} (hj : ops[j]? = some oj) (hp : Pt ops listed st) (h : opStep P env ops oj st = some s2) : Pt ops (listed.setIfInBounds j true) s2 := by
 intro k o t d hk hop hd hg hl ht
 by_cases hkj : j = k
 ·subst hkj
  rw [hj] at hk
  cases hk
  rcases step_cases h with ⟨h1, _⟩ | ⟨_, _, h3⟩
  ·unfold asked at h1
   rw [hg] at h1
   cases h1
  ·obtain ⟨d', e, b, hd', rfl, hb⟩ := evOp_alloc hpl hop h3
   rw [hd] at hd'
   cases hd'
   rw [get_put] at ht ⊢
   split at ht
   ·rename_i hc
    rw [if_pos hc]
    exact hb ht
   ·rename_i hc
    exfalso
    have hlen : ¬ d < st.sl.length := fun hlt => hc ⟨rfl, hlt⟩
    have : (st.upd d e).get d = dead := by
     show st.sl.getD d dead = dead
     rw [List.getD_eq_getElem?_getD, List.getElem?_eq_none (by omega)]
     rfl
    rw [this] at ht
    cases ht
 ·rw [getD_set_ne false hkj] at hl
  have hne : oj.dst ≠ some d := by
   rw [<- hd]
   exact hx.uniq k j o oj hk hj (by rw [hop]; rfl) hkj
  rw [step_get hpl (hx.small j oj hj) h hne] at ht ⊢
  exact hp k o t d hk hop hd hg hl ht

theorem fresh_spec {i j : Nat} (h : freshTo ops i oi oj j = true) : oi.apart ops oj = true /\ memCls oi.op <= 1 /\ (∀ (k : Nat) (o : Oper), k < i -> ops[k]? = some o -> memCls o.op ≠ 2) /\
  ∃ t a y k o t', oj.op = .store t (.tmp a) y /\ ops[k]? = some o /\ o.op = .alloc t' /\ o.dst = some a /\ o.guard = none /\ waits ops 8 j k = true := by
 unfold freshTo at h
 simp only [Bool.and_eq_true, decide_eq_true_eq, List.all_eq_true] at h
 obtain ⟨⟨⟨h1, h2⟩, h3⟩, h4⟩ := h
 refine ⟨h1, h2, fun k o hk ho => ?_, ?_⟩
 ·have := h3 k (List.mem_range.2 hk)
  rw [ho] at this
  simpa using this
 ·split at h4
  ·rename_i t a y hop
   rw [List.any_eq_true] at h4
   obtain ⟨k, hk, h5⟩ := h4
   cases ho : ops[k]? with
   | none => rw [ho] at h5; cases h5
   | some o =>
    rw [ho] at h5
    simp only [Bool.and_eq_true, beq_iff_eq, Option.isNone_iff_eq_none] at h5
    obtain ⟨⟨⟨g1, g2⟩, g3⟩, g4⟩ := h5
    obtain ⟨t', ht'⟩ := isAlloc_inv g1
    exact ⟨t, a, y, k, o, t', hop, ho, ht', g2, g3, g4⟩
  ·cases h4

theorem anyA_first2 (hpl : PlainE env) (hx : Lex2 ops) {G : St -> Prop} {i : Nat} (hi : ops[i]? = some oi) :
  ∀ (n : Nat) (listed : Array Bool) (st s1 : St), ND2 st -> Closed ops listed -> listed.size = ops.size -> Pt ops listed st -> i ∈ Region.ready .any ops listed ->
   (∀ (j : Nat) (oj : Oper), ops[j]? = some oj -> j ≠ i -> listed.getD j true = false -> comm ops oi oj = true \/ waits ops 8 j i = true \/ freshTo ops i oi oj j = true) ->
   (memCls oi.op <= 1 -> (memCls oi.op = 0 \/ ∀ (k : Nat) (o : Oper), k < i -> ops[k]? = some o -> memCls o.op ≠ 2) -> ∃ v, Lat P env ops (Xof ops oi) oi st v) ->
   opStep P env ops oi st = some s1 -> anyA P env ops G n (listed.setIfInBounds i true) s1 -> anyA P env ops G (n + 1) listed st := by
 intro n
 induction n with
 | zero =>
  intro listed st s1 hn hc hsz hp hr hfree hlat h1 H
  refine ⟨fun h => (by rw [h] at hr; cases hr), fun j hj => ?_⟩
  by_cases hji : j = i
  ·subst hji; exact ⟨oi, s1, hi, h1, H⟩
  ·have := ready_mono hj hji
   rw [H.1] at this
   cases this
 | succ n ih =>
  intro listed st s1 hn hc hsz hp hr hfree hlat h1 H
  refine ⟨fun h => (by rw [h] at hr; cases hr), fun j hj => ?_⟩
  by_cases hji : j = i
  ·subst hji; exact ⟨oi, s1, hi, h1, H⟩
  ·obtain ⟨oj, s12, hoj, h2, hrest⟩ := H.2 j (ready_mono hj hji)
   have hiun := (mem_ready.1 hr).1
   have hjun := (mem_ready.1 hj).1
   have hmj := hx.small j oj hoj
   have key : ∃ s2, opStep P env ops oj st = some s2 /\ opStep P env ops oi s2 = some s12 /\ (memCls oi.op <= 1 -> (memCls oi.op = 0 \/ ∀ (k : Nat) (o : Oper), k < i -> ops[k]? = some o -> memCls o.op ≠ 2) -> ∃ v, Lat P env ops (Xof ops oi) oi s2 v) := by
    rcases hfree j oj hoj hji hjun with h | h | h
    ·obtain ⟨s2, g1, g2⟩ := diamond hpl h hn.1 h1 h2
     refine ⟨s2, g1, g2, fun hm he => ?_⟩
     obtain ⟨v, L⟩ := hlat hm he
     unfold comm at h
     simp only [Bool.and_eq_true, Bool.not_eq_true', Bool.and_eq_false_iff, beq_eq_false_iff_ne, decide_eq_false_iff_not] at h
     obtain ⟨⟨⟨⟨hap, _⟩, _⟩, _⟩, hc2⟩ := h
     exact ⟨v, lat_step hpl hm hoj hap hmj (fun h3 k e hs _ _ => ⟨k, e, hs, .inl (by omega)⟩) L g1⟩
    ·rw [no_wait_ready hc hiun hj] at h; cases h
    ·obtain ⟨hap, hm, he, t, x, y, k, o, t', hop, hk, hal, hd, hg, hw⟩ := fresh_spec h
     obtain ⟨v, L⟩ := hlat hm (.inr he)
     obtain ⟨a1, a2, a3⟩ := Oper.apart_spec hap
     have e1 : s1 = st.put oi.dst v := by
      have := L [] (fun p hp => by cases hp)
      rw [show updL st [] = st from rfl, h1] at this
      exact Option.some.inj this
     rw [e1, opStep_put hpl hmj a1 a2] at h2
     obtain ⟨s2, g1, g2⟩ := Option.map_eq_some_iff.1 h2
     have hkl : listed.getD k false = true := by
      have hlt : k < listed.size := by rw [hsz]; exact (Array.getElem?_eq_some_iff.1 hk).1
      cases hv : listed.getD k true with
      | false => rw [no_wait_ready hc hv hj] at hw; cases hw
      | true => simpa [hlt] using hv
     have hm2 : memCls o.op = 2 := by rw [hal]; rfl
     have hst : memCls oj.op = 3 -> ∀ i e, s2 = st.upd i e -> evOp P env oj st = some s2 -> (st.bx i).isSome = true -> ∃ i' e', s2 = st.upd i' e' /\ Xof ops oi i' := by
      intro _ _ _ _ hev _
      obtain ⟨e', q1, q2, _⟩ := evOp_storeAt hpl hop hev
      have hid := hp k o t' x hk hal hd hg hkl q2
      exact ⟨_, e', q1, .inr (by rw [hid]; exact mem_newIds _ o x (at_mem hk) hm2 hd)⟩
     have L2 := lat_step hpl hm hoj hap hmj hst L g1
     refine ⟨s2, g1, ?_, fun _ _ => ⟨v, L2⟩⟩
     have := L2 [] (fun p hp => by cases hp)
     rw [show updL s2 [] = s2 from rfl] at this
     rw [this, g2]
   obtain ⟨s2, g1, g2, hlat2⟩ := key
   refine ⟨oj, s2, hoj, g1, ?_⟩
   refine ih (listed.setIfInBounds j true) s2 s12 (opStep_nd hpl hn g1) (closed_set hc hj) (by simpa using hsz) (pt_step hpl hx hoj hp g1) (ready_mono hr (Ne.symm hji)) ?_ hlat2 g2 ?_
   ·intro k ok hk hki hun
    refine hfree k ok hk hki ?_
    by_cases hjk : j = k
    ·subst hjk; exact hjun
    ·rw [getD_set_ne true hjk] at hun; exact hun
   ·rw [Array.setIfInBounds_comm _ _ hji]
    exact hrest

theorem step_put (hpl : PlainE env) (hm : memCls o.op <= 1) (h : opStep P env ops o st = some s') : ∃ v, s' = st.put o.dst v := by
 rcases step_forms hpl (by omega) h with ⟨u, hu, _⟩ | ⟨h2, _⟩ | ⟨h3, _⟩
 ·exact ⟨u, hu⟩
 ·omega
 ·omega

theorem anyA_lex2 (hpl : PlainE env) (hx : Lex2 ops) {G : St -> Prop} (hG : G st') :
  ∀ (l : List Oper) (k : Nat) (listed : Array Bool) (st : St), (∀ j, l[j]? = ops[k + j]?) -> listed.size = ops.size -> (∀ j, j < ops.size -> listed.getD j true = decide (j < k)) -> k + l.length = ops.size ->
   ND2 st -> Pt ops listed st -> ((∀ (k' : Nat) (o : Oper), k' < k -> ops[k']? = some o -> memCls o.op ≠ 2) -> ∀ d ∈ newIds ops.toList, st.bx d = none) -> runOps P env ops l st = some st' -> anyA P env ops G l.length listed st
 | [], k, listed, st, hl, hsz, hlist, hlen, hn, hp, hX, h => by
  simp only [runOps, Option.some.injEq] at h
  subst h
  refine ⟨?_, hG⟩
  rw [List.eq_nil_iff_forall_not_mem]
  intro j hj
  obtain ⟨h1, o, ho, _⟩ := mem_ready.1 hj
  have hlt : j < ops.size := (Array.getElem?_eq_some_iff.1 ho).1
  rw [hlist j hlt] at h1
  simp at hlen h1
  omega
 | o :: l, k, listed, st, hl, hsz, hlist, hlen, hn, hp, hX, h => by
  simp only [runOps] at h
  obtain ⟨s1, h1, h2⟩ := Option.bind_eq_some_iff.1 h
  have h0 : ops[k]? = some o := by simpa using (hl 0).symm
  have hk : k < ops.size := (Array.getElem?_eq_some_iff.1 h0).1
  have hlf : ∀ j, j < ops.size -> listed.getD j false = decide (j < k) := fun j hj => by
   have := hlist j hj
   have hj' : j < listed.size := by omega
   simpa [hj'] using this
  have hready : k ∈ Region.ready .any ops listed := mem_ready.2 ⟨by rw [hlist k hk]; simp, o, h0, fun e he hb => by
   have hlt := hx.aft k o h0 e he hb
   rw [hlf e.on (by omega)]
   simpa using hlt⟩
  have hclosed : Closed ops listed := by
   intro j oj hj hjl e he hb
   have hlt : j < ops.size := (Array.getElem?_eq_some_iff.1 hj).1
   rw [hlf j hlt] at hjl
   have := hx.aft j oj hj e he hb
   rw [hlf e.on (by omega)]
   simp at hjl ⊢
   omega
  refine anyA_first2 hpl hx h0 l.length listed st s1 hn hclosed hsz hp hready ?_ ?_ h1 ?_
  ·intro j oj hj hjk hun
   have hlt : j < ops.size := (Array.getElem?_eq_some_iff.1 hj).1
   rw [hlist j hlt] at hun
   simp at hun
   exact hx.pair k j o oj (by omega) h0 hj
  ·intro hm he
   obtain ⟨v, rfl⟩ := step_put hpl hm h1
   refine ⟨v, fun m hmm => ?_⟩
   by_cases h00 : memCls o.op = 0
   ·exact lat0 hpl h00 m st h1
   ·have he2 : ∀ (k' : Nat) (o' : Oper), k' < k -> ops[k']? = some o' -> memCls o'.op ≠ 2 := by
     rcases he with he | he
     ·exact absurd he h00
     ·exact he
    have hmem : ∀ p ∈ m, p.1 ∈ newIds ops.toList := fun p hp => by
     rcases hmm p hp with h | h
     ·exact absurd h h00
     ·exact h
    exact lat1 hpl hm m st hn.1 (fun p hp => hX he2 p.1 (hmem p hp)) (fun p hp => hx.newdst k o h0 hm p.1 (hmem p hp)) h1
  ·refine anyA_lex2 hpl hx hG l (k + 1) _ s1 (fun j => by have := hl (j + 1); simpa [Nat.add_assoc, Nat.add_comm 1 j] using this) (by simpa using hsz) ?_ (by simp at hlen; omega) (opStep_nd hpl hn h1) (pt_step hpl hx h0 hp h1) ?_ h2
   ·intro j hj
    by_cases hjk : k = j
    ·subst hjk
     have : k < listed.size := by omega
     simp [this]
    ·rw [getD_set_ne true hjk, hlist j hj]
     simp
     omega
   ·intro hall d hd
    have hprev := hX (fun k' o' hk' ho' => hall k' o' (by omega) ho') d hd
    have hno := hall k o (by omega) h0
    rcases step_forms hpl (hx.small k o h0) h1 with ⟨u, rfl, _⟩ | ⟨h2, _⟩ | ⟨_, i, e, rfl, hsome, _⟩
    ·rw [put_bx]; exact hprev
    ·exact absurd h2 hno
    ·rw [upd_bx, if_neg (fun he => by rw [<- he, hprev] at hsome; cases hsome)]
     exact hprev

theorem region_draw_sound2 (hpl : PlainE env) (hm : P.follows .mixedOrders = true) (henv : EnvOK P env) (hlex : lexOK2 ops = true) (hnew : ∀ d ∈ newIds ops.toList, st.bx d = none) {id : Nat} (h : runOps P env ops ops.toList st = some st') (R : Rel P F st a w)
  (hQ : ∀ a w, Rel P F st' a w -> Q .normal a w) : (Code.region id ops true).wp P Q a w := by
 obtain ⟨ok, β, R⟩ := R
 refine wp_region_any hm ?_
 refine anyA_sound (G := fun s => s = st') henv (fun s a w hs R' => hQ a w (hs ▸ R')) _ _ st a _ ?_ ⟨ok, β, R.drawn⟩
 have := anyA_lex2 (G := fun s => s = st') hpl (lexOK2_spec hlex) rfl ops.toList 0 (Array.replicate ops.size false) st (by simp) (by simp) (fun j hj => by simp [hj]) (by simp) ⟨R.nd, R.hp.nb⟩
  (fun k o t d hk hop hd hg hl => by
   have hlt : k < ops.size := (Array.getElem?_eq_some_iff.1 hk).1
   simp [hlt] at hl) (fun _ => hnew) h
 simpa using this

theorem kill_bx (i j : Nat) : (st.kill i).bx j = if j = i then none else (st.bx j).map (Ent.mapC (killL [i])) := rfl
theorem kills_none : ∀ (l : List Nat) (st : St) (d : Nat), (d ∈ l \/ st.bx d = none) -> (l.foldl St.kill st).bx d = none
 | [], st, d, h => by
  rcases h with h | h
  ·cases h
  ·exact h
 | i :: l, st, d, h => by
  rw [List.foldl_cons]
  refine kills_none l _ d ?_
  by_cases hd : d = i
  ·right; rw [kill_bx, if_pos hd]
  ·rcases h with h | h
   ·rcases List.mem_cons.1 h with h | h
    ·exact absurd h hd
    ·exact .inl h
   ·right; rw [kill_bx, if_neg hd, h]; rfl
theorem prep_none (env : Env) (st : St) {l : List Oper} {d : Nat} (h : d ∈ newIds l) : (prep env l st).bx d = none := kills_none _ _ d (.inl h)

end
end Go.Ev
