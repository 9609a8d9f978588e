/- Trees of functions, and lemmas. Nothing here is trusted. -/
import Derived.Test.YtanjicjomcocmaaDoorZ11
namespace Go.Ev
open Go.RowKit
set_option linter.unusedVariables false
set_option linter.unusedSimpArgs false
section
section
variable {P : Program} {w w' : World} {ok ok' : Nat -> Prop} {β : Nat -> Nat × Nat} {ops : Array Oper}
variable {F : Fr P} {st st' s s' s1 s2 s12 : St} {a : Act} {env : Env} {o oi oj : Oper} {av : AV} {Q : Exit -> Act -> World -> Prop}

theorem isAlloc_inv {op : Op} (h : isAlloc op = true) : ∃ t, op = .alloc t := by
 cases op <;> simp [isAlloc] at h ⊢
theorem evOp_alloc (hpl : PlainE env) {t : TypeId} (hop : o.op = .alloc t) (h : evOp P env o st = some s') : ∃ d e b, o.dst = some d /\ s' = (st.upd d e).put (some d) b /\ (b.tag = 2 -> b.id = d) := by
 unfold evOp at h
 simp only [hop] at h
 rw [hpl.1] at h
 simp only [Bool.false_and, Bool.false_eq_true, if_false] at h
 split at h
 ·rename_i d z hd hz
  split at h
  ·cases h
   exact ⟨d, _, _, hd, rfl, fun _ => rfl⟩
  ·cases h
 ·cases h
theorem evOp_storeAt (hpl : PlainE env) {t : TypeId} {a : Nat} {y : Operand} (hop : o.op = .store t (.tmp a) y) (h : evOp P env o st = some s') : ∃ e, s' = st.upd (st.get a).id e /\ (st.get a).tag = 2 /\ o.dst = none := by
 unfold evOp opd0 at h
 simp only [hop, hpl.1, Bool.false_eq_true, if_false] at h
 split at h
 ·rename_i hc
  have hd : o.dst = none := by simpa using hc
  split at h
  rotate_left
  ·unfold stC at h
   split at h
   ·rename_i ht
    rw [Bool.and_eq_true, Bool.and_eq_true] at ht
    have ht2 : (st.get a).tag = 2 := by simpa [opd] using ht.1.1
    split at h
    ·split at h
     ·cases h; exact ⟨_, rfl, ht2, hd⟩
     ·cases h
    ·cases h
   ·cases h
  unfold stA at h
  split at h
  ·rename_i ht
   have ht2 : (st.get a).tag = 2 := by simpa [opd] using ht
   split at h
   ·split at h
    ·split at h
     ·split at h
      ·split at h
       ·cases h; exact ⟨_, rfl, ht2, hd⟩
       ·cases h
      ·split at h
       ·cases h
       ·split at h
        ·split at h
         ·cases h; exact ⟨_, rfl, ht2, hd⟩
         ·cases h
        ·cases h
     ·split at h
      ·cases h; exact ⟨_, rfl, ht2, hd⟩
      ·cases h
    ·split at h
     ·obtain ⟨e', _, rfl⟩ := Option.map_eq_some_iff.1 h
      exact ⟨_, rfl, ht2, hd⟩
     ·cases h
   ·cases h
  ·cases h
 ·cases h

/-- What a step does. -/
theorem step_forms (hpl : PlainE env) (hm : memCls o.op <= 3) (h : opStep P env ops o st = some s') :
  (∃ u, s' = st.put o.dst u /\ (memCls o.op <= 1 \/ asked P ops o st = some false)) \/ (memCls o.op = 2 /\ ∃ d e b, o.dst = some d /\ st.bx d = none /\ s' = (st.upd d e).put (some d) b) \/ (memCls o.op = 3 /\ ∃ i e, s' = st.upd i e /\ (st.bx i).isSome = true /\ evOp P env o st = some s') := by
 rcases step_cases h with ⟨h1, rfl⟩ | ⟨_, _, h3⟩
 ·exact .inl ⟨_, rfl, .inr h1⟩
 ·by_cases h1 : memCls o.op <= 1
  ·obtain ⟨u, hu⟩ := evOp_shape hpl h1 h3
   exact .inl ⟨u, hu, .inl h1⟩
  ·by_cases h2 : memCls o.op = 2
   ·obtain ⟨d, e, b, g1, g2, g3, _⟩ := evOp_new hpl h2 h3
    exact .inr (.inl ⟨h2, d, e, b, g1, g2, g3⟩)
   ·obtain ⟨i, e, g1, _, g3⟩ := evOp_store hpl (by omega) h3
    exact .inr (.inr ⟨by omega, i, e, g1, g3, h3⟩)
theorem step_get (hpl : PlainE env) (hm : memCls o.op <= 3) (h : opStep P env ops o st = some s') {x : Nat} (hx : o.dst ≠ some x) : s'.get x = st.get x := by
 rcases step_forms hpl hm h with ⟨u, rfl, _⟩ | ⟨_, d, e, b, hd, _, rfl⟩ | ⟨_, i, e, rfl, _⟩
 ·exact get_put_ne hx
 ·rw [get_put_ne (by rw [<- hd]; exact hx)]
  rfl
 ·rfl

/-! ### Boxes that are added -/
def updL (st : St) : List (Nat × Ent) -> St
 | [] => st
 | p :: m => updL (st.upd p.1 p.2) m
theorem updL_put {d : Option Nat} {x : AV} : ∀ (m : List (Nat × Ent)) (st : St), updL (st.put d x) m = (updL st m).put d x
 | [], st => rfl
 | p :: m, st => by
  show updL ((st.put d x).upd p.1 p.2) m = (updL (st.upd p.1 p.2) m).put d x
  rw [upd_put, updL_put m]
theorem upd_same {i : Nat} {e f : Ent} : (st.upd i e).upd i f = st.upd i f := by
 simp only [St.upd, St.mk.injEq, true_and]
 funext j
 by_cases h : j = i <;> simp [h]
theorem updL_over {i : Nat} {e : Ent} : ∀ (m : List (Nat × Ent)) (st : St), i ∈ m.map (·.1) -> updL (st.upd i e) m = updL st m
 | [], st, h => by cases h
 | p :: m, st, h => by
  show updL ((st.upd i e).upd p.1 p.2) m = updL (st.upd p.1 p.2) m
  by_cases hp : p.1 = i
  ·rw [hp, upd_same]
  ·rw [upd_comm hp]
   refine updL_over m _ ?_
   rw [List.map_cons, List.mem_cons] at h
   rcases h with h | h
   ·exact absurd h.symm hp
   ·exact h

def Lat (P : Program) (env : Env) (ops : Array Oper) (X : Nat -> Prop) (oi : Oper) (st : St) (v : AV) : Prop := ∀ m : List (Nat × Ent), (∀ p ∈ m, X p.1) -> opStep P env ops oi (updL st m) = some ((updL st m).put oi.dst v)
def Xof (ops : Array Oper) (oi : Oper) (k : Nat) : Prop := memCls oi.op = 0 \/ k ∈ newIds ops.toList

theorem lat0 (hpl : PlainE env) (hm : memCls oi.op = 0) {v : AV} : ∀ (m : List (Nat × Ent)) (st : St), opStep P env ops oi st = some (st.put oi.dst v) -> opStep P env ops oi (updL st m) = some ((updL st m).put oi.dst v)
 | [], st, h => h
 | p :: m, st, h => lat0 hpl hm m (st.upd p.1 p.2) (by
   rw [opStep_upd0 hpl hm, h]
   simp only [Option.map_some, upd_put])
theorem nd_upd (hn : ND st) (i : Nat) (e : Ent) : ND (st.upd i e) := fun j => live_upd (hn j)
theorem lat1 (hpl : PlainE env) (hm : memCls oi.op <= 1) {v : AV} : ∀ (m : List (Nat × Ent)) (st : St), ND st -> (∀ p ∈ m, st.bx p.1 = none) -> (∀ p ∈ m, oi.dst ≠ some p.1) -> opStep P env ops oi st = some (st.put oi.dst v) -> opStep P env ops oi (updL st m) = some ((updL st m).put oi.dst v)
 | [], st, _, _, _, h => h
 | p :: m, st, hn, hb, hd, h => by
  show opStep P env ops oi (updL (st.upd p.1 p.2) m) = some ((updL (st.upd p.1 p.2) m).put oi.dst v)
  by_cases hin : p.1 ∈ m.map (·.1)
  ·rw [updL_over m st hin]
   exact lat1 hpl hm m st hn (fun q hq => hb q (List.mem_cons_of_mem _ hq)) (fun q hq => hd q (List.mem_cons_of_mem _ hq)) h
  ·refine lat1 hpl hm m (st.upd p.1 p.2) (nd_upd hn _ _) (fun q hq => ?_) (fun q hq => hd q (List.mem_cons_of_mem _ hq)) ?_
   ·have hne : q.1 ≠ p.1 := fun he => hin (he ▸ List.mem_map.2 ⟨q, hq, rfl⟩)
    rw [upd_bx, if_neg hne]
    exact hb q (List.mem_cons_of_mem _ hq)
   ·rw [opStep_upd1 hpl (by omega) (hb p (List.mem_cons_self ..)) hn (hd p (List.mem_cons_self ..)), h]
    simp only [Option.map_some, upd_put]

theorem newIds_cons (p : Oper) (l : List Oper) : newIds (p :: l) = if memCls p.op == 2 then (match p.dst with | some d => (match p.op with | .alloc _ => d :: (d + RID) :: newIds l | _ => d :: newIds l) | none => newIds l) else newIds l := by
 rw [newIds]
 rfl
theorem newIds_head {p : Oper} {l : List Oper} {d : Nat} (hm : memCls p.op = 2) (hd : p.dst = some d) : d ∈ newIds (p :: l) := by
 rw [newIds_cons, if_pos (by rw [hm]; rfl), hd]
 cases p.op <;> exact List.mem_cons_self ..
theorem newIds_tail {p : Oper} {l : List Oper} {d : Nat} (h : d ∈ newIds l) : d ∈ newIds (p :: l) := by
 rw [newIds_cons]
 cases (memCls p.op == 2) with
 | false => exact h
 | true =>
  rw [if_pos rfl]
  cases p.dst with
  | none => exact h
  | some x =>
   cases p.op with
   | alloc t => exact List.mem_cons_of_mem _ (List.mem_cons_of_mem _ h)
   | _ => exact List.mem_cons_of_mem _ h
theorem mem_newIds (l : List Oper) (o : Oper) (d : Nat) (h : o ∈ l) (hm : memCls o.op = 2) (hd : o.dst = some d) : d ∈ newIds l := by
 induction l with
 | nil => cases h
 | cons p l ih =>
  rcases List.mem_cons.1 h with h | h
  ·rw [h] at hm hd
   exact newIds_head hm hd
  ·exact newIds_tail (ih h)
theorem at_mem {k : Nat} (h : ops[k]? = some o) : o ∈ ops.toList := by
 have := Array.getElem?_eq_some_iff.1 h
 obtain ⟨hk, rfl⟩ := this
 simp

/-- A state in which what is to come first may still come first. -/
theorem lat_step (hpl : PlainE env) (hm : memCls oi.op <= 1) {v : AV} {j : Nat} (hj : ops[j]? = some oj) (hap : oi.apart ops oj = true) (hmj : memCls oj.op <= 3) (hst : memCls oj.op = 3 -> ∀ i e, s2 = st.upd i e -> evOp P env oj st = some s2 -> (st.bx i).isSome = true -> ∃ i' e', s2 = st.upd i' e' /\ Xof ops oi i')
  (L : Lat P env ops (Xof ops oi) oi st v) (h : opStep P env ops oj st = some s2) : Lat P env ops (Xof ops oi) oi s2 v := by
 obtain ⟨a1, a2, a3⟩ := Oper.apart_spec hap
 have a4 : ∀ d, oj.dst = some d -> oi.dst ≠ some d := fun d hd hd' => a2 d hd' hd
 have hput : ∀ (st : St) (u : AV), Lat P env ops (Xof ops oi) oi st v -> Lat P env ops (Xof ops oi) oi (st.put oj.dst u) v := by
  intro st u L m hmm
  rw [updL_put, opStep_put hpl (by omega) a3 a4, L m hmm]
  simp only [Option.map_some, Option.some.injEq]
  exact put_comm a2
 have hupd : ∀ (i : Nat) (e : Ent), Xof ops oi i -> Lat P env ops (Xof ops oi) oi (st.upd i e) v := by
  intro i e hi m hmm
  exact L ((i, e) :: m) (fun p hp => by
   rcases List.mem_cons.1 hp with rfl | hp
   ·exact hi
   ·exact hmm p hp)
 rcases step_forms hpl hmj h with ⟨u, rfl, _⟩ | ⟨h2, d, e, b, hd, _, rfl⟩ | ⟨h3, i, e, hs, hi, hev⟩
 ·exact hput st u L
 ·have := hput (st.upd d e) b (hupd d e (.inr (mem_newIds _ oj d (at_mem hj) h2 hd)))
  rw [hd] at this
  exact this
 ·obtain ⟨i', e', rfl, hx⟩ := hst h3 i e hs hev hi
  exact hupd i' e' hx

/-! ### All orders -/
def Pt (ops : Array Oper) (listed : Array Bool) (st : St) : Prop := ∀ (k : Nat) (o : Oper) (t : TypeId) (d : Nat), ops[k]? = some o -> o.op = .alloc t -> o.dst = some d -> o.guard = none -> listed.getD k false = true -> (st.get d).tag = 2 -> (st.get d).id = d

structure Lex2 (ops : Array Oper) : Prop where
 small : ∀ (j : Nat) (o : Oper), ops[j]? = some o -> memCls o.op <= 3
 aft : ∀ (j : Nat) (o : Oper), ops[j]? = some o -> ∀ e ∈ o.after, Region.binds .any e = true -> e.on < j
 uniq : ∀ (j k : Nat) (o o' : Oper), ops[j]? = some o -> ops[k]? = some o' -> isAlloc o.op = true -> k ≠ j -> o'.dst ≠ o.dst
 newdst : ∀ (k : Nat) (o : Oper), ops[k]? = some o -> memCls o.op <= 1 -> ∀ d ∈ newIds ops.toList, o.dst ≠ some d
 pair : ∀ (i j : Nat) (oi oj : Oper), i < j -> ops[i]? = some oi -> ops[j]? = some oj -> comm ops oi oj = true \/ waits ops 8 j i = true \/ freshTo ops i oi oj j = true

theorem lexOK2_spec (h : lexOK2 ops = true) : Lex2 ops := by
 unfold lexOK2 at h
 rw [List.all_eq_true] at h
 have hat : ∀ (j : Nat) (oj : Oper), ops[j]? = some oj -> _ := fun j oj hj => by
  have hlt : j < ops.size := (Array.getElem?_eq_some_iff.1 hj).1
  have := h j (List.mem_range.2 hlt)
  rw [hj] at this
  simp only [Bool.and_eq_true, Array.all_eq_true_iff_forall_mem, List.all_eq_true] at this
  exact this
 refine ⟨fun j o hj => ?_, fun j o hj e he hb => ?_, fun j k o o' hj hk ha hne => ?_, fun k o hk hm d hd => ?_, fun i j oi oj hij hi hj => ?_⟩
 ·have := (hat j o hj).1.1.1.2
  simpa using this
 ·have := (hat j o hj).1.1.1.1 e he
  simpa [hb] using this
 ·have h3 := (hat j o hj).1.1.2
  rw [ha] at h3
  simp only [Bool.not_true, Bool.false_or, List.all_eq_true] at h3
  have hlt : k < ops.size := (Array.getElem?_eq_some_iff.1 hk).1
  have := h3 k (List.mem_range.2 hlt)
  rw [hk] at this
  simp only [Bool.or_eq_true, beq_iff_eq, bne_iff_ne] at this
  rcases this with h4 | h4
  ·exact absurd h4 hne
  ·exact h4
 ·have h3 := (hat k o hk).1.2
  have h4 : decide (2 <= memCls o.op) = false := by simp; omega
  rw [h4, Bool.false_or, List.all_eq_true] at h3
  have := h3 d hd
  simpa using this
 ·have := (hat j oj hj).2 i (List.mem_range.2 hij)
  rw [hi] at this
  simp only [Bool.or_eq_true] at this
  rcases this with (h4 | h4) | h4
  ·exact .inl h4
  ·exact .inr (.inl h4)
  ·exact .inr (.inr h4)

theorem pt_step (hpl : PlainE env) (hx : Lex2 ops) {listed : Array Bool} {j : Nat} (hj : ops[j]? = some oj) (hp : Pt ops listed st) (h : opStep P env ops oj st = some s2) : Pt ops (listed.setIfInBounds j true) s2 := by
 intro k o t d hk hop hd hg hl ht
 by_cases hkj : j = k
 ·subst hkj
  rw [hj] at hk
  cases hk
  rcases step_cases h with ⟨h1, _⟩ | ⟨_, _, h3⟩
  ·unfold asked at h1
   rw [hg] at h1
   cases h1
  ·obtain ⟨d', e, b, hd', rfl, hb⟩ := evOp_alloc hpl hop h3
   rw [hd] at hd'
   cases hd'
   rw [get_put] at ht ⊢
   split at ht
   ·rename_i hc
    rw [if_pos hc]
    exact hb ht
   ·rename_i hc
    exfalso
    have hlen : ¬ d < st.sl.length := fun hlt => hc ⟨rfl, hlt⟩
    have : (st.upd d e).get d = dead := by
     show st.sl.getD d dead = dead
     rw [List.getD_eq_getElem?_getD, List.getElem?_eq_none (by omega)]
     rfl
    rw [this] at ht
    cases ht
 ·rw [getD_set_ne false hkj] at hl
  have hne : oj.dst ≠ some d := by
   rw [<- hd]
   exact hx.uniq k j o oj hk hj (by rw [hop]; rfl) hkj
  rw [step_get hpl (hx.small j oj hj) h hne] at ht ⊢
  exact hp k o t d hk hop hd hg hl ht

theorem fresh_spec {i j : Nat} (h : freshTo ops i oi oj j = true) : oi.apart ops oj = true /\ memCls oi.op <= 1 /\ (∀ (k : Nat) (o : Oper), k < i -> ops[k]? = some o -> memCls o.op ≠ 2) /\
  ∃ t a y k o t', oj.op = .store t (.tmp a) y /\ ops[k]? = some o /\ o.op = .alloc t' /\ o.dst = some a /\ o.guard = none /\ waits ops 8 j k = true := by
 unfold freshTo at h
 simp only [Bool.and_eq_true, decide_eq_true_eq, List.all_eq_true] at h
 obtain ⟨⟨⟨h1, h2⟩, h3⟩, h4⟩ := h
 refine ⟨h1, h2, fun k o hk ho => ?_, ?_⟩
 ·have := h3 k (List.mem_range.2 hk)
  rw [ho] at this
  simpa using this
 ·split at h4
  ·rename_i t a y hop
   rw [List.any_eq_true] at h4
   obtain ⟨k, hk, h5⟩ := h4
   cases ho : ops[k]? with
   | none => rw [ho] at h5; cases h5
   | some o =>
    rw [ho] at h5
    simp only [Bool.and_eq_true, beq_iff_eq, Option.isNone_iff_eq_none] at h5
    obtain ⟨⟨⟨g1, g2⟩, g3⟩, g4⟩ := h5
    obtain ⟨t', ht'⟩ := isAlloc_inv g1
    exact ⟨t, a, y, k, o, t', hop, ho, ht', g2, g3, g4⟩
  ·cases h4

theorem anyA_first2 (hpl : PlainE env) (hx : Lex2 ops) {G : St -> Prop} {i : Nat} (hi : ops[i]? = some oi) :
  ∀ (n : Nat) (listed : Array Bool) (st s1 : St), ND2 st -> Closed ops listed -> listed.size = ops.size -> Pt ops listed st -> i ∈ Region.ready .any ops listed ->
   (∀ (j : Nat) (oj : Oper), ops[j]? = some oj -> j ≠ i -> listed.getD j true = false -> comm ops oi oj = true \/ waits ops 8 j i = true \/ freshTo ops i oi oj j = true) ->
   (memCls oi.op <= 1 -> (memCls oi.op = 0 \/ ∀ (k : Nat) (o : Oper), k < i -> ops[k]? = some o -> memCls o.op ≠ 2) -> ∃ v, Lat P env ops (Xof ops oi) oi st v) ->
   opStep P env ops oi st = some s1 -> anyA P env ops G n (listed.setIfInBounds i true) s1 -> anyA P env ops G (n + 1) listed st := by
 intro n
 induction n with
 | zero =>
  intro listed st s1 hn hc hsz hp hr hfree hlat h1 H
  refine ⟨fun h => (by rw [h] at hr; cases hr), fun j hj => ?_⟩
  by_cases hji : j = i
  ·subst hji; exact ⟨oi, s1, hi, h1, H⟩
  ·have := ready_mono hj hji
   rw [H.1] at this
   cases this
 | succ n ih =>
  intro listed st s1 hn hc hsz hp hr hfree hlat h1 H
  refine ⟨fun h => (by rw [h] at hr; cases hr), fun j hj => ?_⟩
  by_cases hji : j = i
  ·subst hji; exact ⟨oi, s1, hi, h1, H⟩
  ·obtain ⟨oj, s12, hoj, h2, hrest⟩ := H.2 j (ready_mono hj hji)
   have hiun := (mem_ready.1 hr).1
   have hjun := (mem_ready.1 hj).1
   have hmj := hx.small j oj hoj
   have key : ∃ s2, opStep P env ops oj st = some s2 /\ opStep P env ops oi s2 = some s12 /\ (memCls oi.op <= 1 -> (memCls oi.op = 0 \/ ∀ (k : Nat) (o : Oper), k < i -> ops[k]? = some o -> memCls o.op ≠ 2) -> ∃ v, Lat P env ops (Xof ops oi) oi s2 v) := by
    rcases hfree j oj hoj hji hjun with h | h | h
    ·obtain ⟨s2, g1, g2⟩ := diamond hpl h hn.1 h1 h2
     refine ⟨s2, g1, g2, fun hm he => ?_⟩
     obtain ⟨v, L⟩ := hlat hm he
     unfold comm at h
     simp only [Bool.and_eq_true, Bool.not_eq_true', Bool.and_eq_false_iff, beq_eq_false_iff_ne, decide_eq_false_iff_not] at h
     obtain ⟨⟨⟨⟨hap, _⟩, _⟩, _⟩, hc2⟩ := h
     exact ⟨v, lat_step hpl hm hoj hap hmj (fun h3 k e hs _ _ => ⟨k, e, hs, .inl (by omega)⟩) L g1⟩
    ·rw [no_wait_ready hc hiun hj] at h; cases h
    ·obtain ⟨hap, hm, he, t, x, y, k, o, t', hop, hk, hal, hd, hg, hw⟩ := fresh_spec h
     obtain ⟨v, L⟩ := hlat hm (.inr he)
     obtain ⟨a1, a2, a3⟩ := Oper.apart_spec hap
     have e1 : s1 = st.put oi.dst v := by
      have := L [] (fun p hp => by cases hp)
      rw [show updL st [] = st from rfl, h1] at this
      exact Option.some.inj this
     rw [e1, opStep_put hpl hmj a1 a2] at h2
     obtain ⟨s2, g1, g2⟩ := Option.map_eq_some_iff.1 h2
     have hkl : listed.getD k false = true := by
      have hlt : k < listed.size := by rw [hsz]; exact (Array.getElem?_eq_some_iff.1 hk).1
      cases hv : listed.getD k true with
      | false => rw [no_wait_ready hc hv hj] at hw; cases hw
      | true => simpa [hlt] using hv
     have hm2 : memCls o.op = 2 := by rw [hal]; rfl
     have hst : memCls oj.op = 3 -> ∀ i e, s2 = st.upd i e -> evOp P env oj st = some s2 -> (st.bx i).isSome = true -> ∃ i' e', s2 = st.upd i' e' /\ Xof ops oi i' := by
      intro _ _ _ _ hev _
      obtain ⟨e', q1, q2, _⟩ := evOp_storeAt hpl hop hev
      have hid := hp k o t' x hk hal hd hg hkl q2
      exact ⟨_, e', q1, .inr (by rw [hid]; exact mem_newIds _ o x (at_mem hk) hm2 hd)⟩
     have L2 := lat_step hpl hm hoj hap hmj hst L g1
     refine ⟨s2, g1, ?_, fun _ _ => ⟨v, L2⟩⟩
     have := L2 [] (fun p hp => by cases hp)
     rw [show updL s2 [] = s2 from rfl] at this
     rw [this, g2]
   obtain ⟨s2, g1, g2, hlat2⟩ := key
   refine ⟨oj, s2, hoj, g1, ?_⟩
   refine ih (listed.setIfInBounds j true) s2 s12 (opStep_nd hpl hn g1) (closed_set hc hj) (by simpa using hsz) (pt_step hpl hx hoj hp g1) (ready_mono hr (Ne.symm hji)) ?_ hlat2 g2 ?_
   ·intro k ok hk hki hun
    refine hfree k ok hk hki ?_
    by_cases hjk : j = k
    ·subst hjk; exact hjun
    ·rw [getD_set_ne true hjk] at hun; exact hun
   ·rw [Array.setIfInBounds_comm _ _ hji]
    exact hrest

theorem step_put (hpl : PlainE env) (hm : memCls o.op <= 1) (h : opStep P env ops o st = some s') : ∃ v, s' = st.put o.dst v := by
 rcases step_forms hpl (by omega) h with ⟨u, hu, _⟩ | ⟨h2, _⟩ | ⟨h3, _⟩
 ·exact ⟨u, hu⟩
 ·omega
 ·omega

theorem anyA_lex2 (hpl : PlainE env) (hx : Lex2 ops) {G : St -> Prop} (hG : G st') :
  ∀ (l : List Oper) (k : Nat) (listed : Array Bool) (st : St), (∀ j, l[j]? = ops[k + j]?) -> listed.size = ops.size -> (∀ j, j < ops.size -> listed.getD j true = decide (j < k)) -> k + l.length = ops.size ->
   ND2 st -> Pt ops listed st -> ((∀ (k' : Nat) (o : Oper), k' < k -> ops[k']? = some o -> memCls o.op ≠ 2) -> ∀ d ∈ newIds ops.toList, st.bx d = none) -> runOps P env ops l st = some st' -> anyA P env ops G l.length listed st
 | [], k, listed, st, hl, hsz, hlist, hlen, hn, hp, hX, h => by
  simp only [runOps, Option.some.injEq] at h
  subst h
  refine ⟨?_, hG⟩
  rw [List.eq_nil_iff_forall_not_mem]
  intro j hj
  obtain ⟨h1, o, ho, _⟩ := mem_ready.1 hj
  have hlt : j < ops.size := (Array.getElem?_eq_some_iff.1 ho).1
  rw [hlist j hlt] at h1
  simp at hlen h1
  omega
 | o :: l, k, listed, st, hl, hsz, hlist, hlen, hn, hp, hX, h => by
  simp only [runOps] at h
  obtain ⟨s1, h1, h2⟩ := Option.bind_eq_some_iff.1 h
  have h0 : ops[k]? = some o := by simpa using (hl 0).symm
  have hk : k < ops.size := (Array.getElem?_eq_some_iff.1 h0).1
  have hlf : ∀ j, j < ops.size -> listed.getD j false = decide (j < k) := fun j hj => by
   have := hlist j hj
   have hj' : j < listed.size := by omega
   simpa [hj'] using this
  have hready : k ∈ Region.ready .any ops listed := mem_ready.2 ⟨by rw [hlist k hk]; simp, o, h0, fun e he hb => by
   have hlt := hx.aft k o h0 e he hb
   rw [hlf e.on (by omega)]
   simpa using hlt⟩
  have hclosed : Closed ops listed := by
   intro j oj hj hjl e he hb
   have hlt : j < ops.size := (Array.getElem?_eq_some_iff.1 hj).1
   rw [hlf j hlt] at hjl
   have := hx.aft j oj hj e he hb
   rw [hlf e.on (by omega)]
   simp at hjl ⊢
   omega
  refine anyA_first2 hpl hx h0 l.length listed st s1 hn hclosed hsz hp hready ?_ ?_ h1 ?_
  ·intro j oj hj hjk hun
   have hlt : j < ops.size := (Array.getElem?_eq_some_iff.1 hj).1
   rw [hlist j hlt] at hun
   simp at hun
   exact hx.pair k j o oj (by omega) h0 hj
  ·intro hm he
   obtain ⟨v, rfl⟩ := step_put hpl hm h1
   refine ⟨v, fun m hmm => ?_⟩
   by_cases h00 : memCls o.op = 0
   ·exact lat0 hpl h00 m st h1
   ·have he2 : ∀ (k' : Nat) (o' : Oper), k' < k -> ops[k']? = some o' -> memCls o'.op ≠ 2 := by
     rcases he with he | he
     ·exact absurd he h00
     ·exact he
    have hmem : ∀ p ∈ m, p.1 ∈ newIds ops.toList := fun p hp => by
     rcases hmm p hp with h | h
     ·exact absurd h h00
     ·exact h
    exact lat1 hpl hm m st hn.1 (fun p hp => hX he2 p.1 (hmem p hp)) (fun p hp => hx.newdst k o h0 hm p.1 (hmem p hp)) h1
  ·refine anyA_lex2 hpl hx hG l (k + 1) _ s1 (fun j => by have := hl (j + 1); simpa [Nat.add_assoc, Nat.add_comm 1 j] using this) (by simpa using hsz) ?_ (by simp at hlen; omega) (opStep_nd hpl hn h1) (pt_step hpl hx h0 hp h1) ?_ h2
   ·intro j hj
    by_cases hjk : k = j
    ·subst hjk
     have : k < listed.size := by omega
     simp [this]
    ·rw [getD_set_ne true hjk, hlist j hj]
     simp
     omega
   ·intro hall d hd
    have hprev := hX (fun k' o' hk' ho' => hall k' o' (by omega) ho') d hd
    have hno := hall k o (by omega) h0
    rcases step_forms hpl (hx.small k o h0) h1 with ⟨u, rfl, _⟩ | ⟨h2, _⟩ | ⟨_, i, e, rfl, hsome, _⟩
    ·rw [put_bx]; exact hprev
    ·exact absurd h2 hno
    ·rw [upd_bx, if_neg (fun he => by rw [<- he, hprev] at hsome; cases hsome)]
     exact hprev

theorem region_draw_sound2 (hpl : PlainE env) (hm : P.follows .mixedOrders = true) (henv : EnvOK P env) (hlex : lexOK2 ops = true) (hnew : ∀ d ∈ newIds ops.toList, st.bx d = none) {id : Nat} (h : runOps P env ops ops.toList st = some st') (R : Rel P F st a w)
  (hQ : ∀ a w, Rel P F st' a w -> Q .normal a w) : (Code.region id ops true).wp P Q a w := by
 obtain ⟨ok, β, R⟩ := R
 refine wp_region_any hm ?_
 refine anyA_sound (G := fun s => s = st') henv (fun s a w hs R' => hQ a w (hs ▸ R')) _ _ st a _ ?_ ⟨ok, β, R.drawn⟩
 have := anyA_lex2 (G := fun s => s = st') hpl (lexOK2_spec hlex) rfl ops.toList 0 (Array.replicate ops.size false) st (by simp) (by simp) (fun j hj => by simp [hj]) (by simp) ⟨R.nd, R.hp.nb⟩
  (fun k o t d hk hop hd hg hl => by
   have hlt : k < ops.size := (Array.getElem?_eq_some_iff.1 hk).1
   simp [hlt] at hl) (fun _ => hnew) h
 simpa using this

theorem kill_bx (i j : Nat) : (st.kill i).bx j = if j = i then none else (st.bx j).map (Ent.mapC (killL [i])) := rfl
theorem kills_none : ∀ (l : List Nat) (st : St) (d : Nat), (d ∈ l \/ st.bx d = none) -> (l.foldl St.kill st).bx d = none
 | [], st, d, h => by
  rcases h with h | h
  ·cases h
  ·exact h
 | i :: l, st, d, h => by
  rw [List.foldl_cons]
  refine kills_none l _ d ?_
  by_cases hd : d = i
  ·right; rw [kill_bx, if_pos hd]
  ·rcases h with h | h
   ·rcases List.mem_cons.1 h with h | h
    ·exact absurd h hd
    ·exact .inl h
   ·right; rw [kill_bx, if_neg hd, h]; rfl
theorem prep_none (env : Env) (st : St) {l : List Oper} {d : Nat} (h : d ∈ newIds l) : (prep env l st).bx d = none := kills_none _ _ d (.inl h)

end
end
section
section
variable {P : Program} {w w' : World} {ok ok' : Nat -> Prop} {β : Nat -> Nat × Nat} {ops : Array Oper}
variable {F : Fr P} {st st' s s' s1 s2 s12 : St} {a : Act} {env : Env} {o oi oj : Oper} {av : AV} {Q : Exit -> Act -> World -> Prop}

theorem constD_tag01 (P : Program) (t : TypeId) (v : Value) : (constD P t v).tag = 0 \/ (constD P t v).tag = 1 := by
 unfold constD
 split
 ·split
  ·split
   ·exact .inr rfl
   ·exact .inl rfl
  ·exact .inl rfl
 ·split
  ·exact .inr rfl
  ·split
   ·exact .inr rfl
   ·exact .inl rfl
  ·split
   ·exact .inr rfl
   ·exact .inl rfl
  ·exact .inr rfl
  ·exact .inr rfl
  ·exact .inl rfl
theorem kill_put {i : Nat} {d : Option Nat} {v : AV} (hv : ∀ j ∈ refs v, j ≠ i) : (st.put d v).kill i = (st.kill i).put d v := by
 have hk : killL [i] v = v := by
  unfold killL
  have : (refs v).any [i].contains = false := by
   rw [<- Bool.not_eq_true, List.any_eq_true]
   rintro ⟨j, hj, hh⟩
   simp only [List.contains_iff_mem, List.mem_singleton] at hh
   exact hv j hj hh
  rw [this]
  rfl
 cases d with
 | none => rfl
 | some d =>
  show (⟨(st.sl.set d v).map (killL [i]), _⟩ : St) = ⟨(st.sl.map (killL [i])).set d v, _⟩
  rw [List.map_set, hk]
  rfl
/-- What the address of a field is. -/
theorem evOp_fa {t : TypeId} {y : Operand} {k : Nat} (hop : o.op = .fieldAddr t y k) (h : evOp P env o st = some s') :
  ∃ v, s' = st.put o.dst v /\ (∀ j ∈ refs v, j ∈ refs (opd0 P st o y)) /\ ((opd0 P st o y).tag = 2 \/ (opd0 P st o y).tag = 3) /\
   ∀ s2 : St, opd0 P s2 o y = opd0 P st o y -> ((opd0 P st o y).tag = 2 -> (s2.bx (opd0 P st o y).id).map (·.row) = (st.bx (opd0 P st o y).id).map (·.row)) -> evOp P env o s2 = some (s2.put o.dst v) := by
 unfold evOp at h
 simp only [hop] at h
 have hbox : ∀ {s2 : St} {i : Nat}, (s2.bx i).map (·.row) = (st.bx i).map (·.row) -> isBoxB s2 i = isBoxB st i /\ isRowB s2 i = isRowB st i := by
  intro s2 i hh
  unfold isBoxB isRowB
  cases h1 : s2.bx i <;> cases h2 : st.bx i <;> rw [h1, h2] at hh <;> simp_all
 split at h
 ·rename_i f hf
  split at h
  ·rename_i hc
   have hc' := hc
   simp only [Bool.and_eq_true, beq_iff_eq] at hc
   cases h
   refine ⟨_, rfl, fun j hj => ?_, .inl hc.1.1.1.1, fun s2 h2 h3 => ?_⟩
   ·rw [refs_2 rfl] at hj
    rw [refs_2 hc.1.1.1.1]
    simpa [fdp] using hj
   ·unfold evOp
    simp only [hop, hf, h2, (hbox (h3 hc.1.1.1.1)).1, hc', if_true]
  ·rename_i hn1
   split at h
   ·rename_i hc
    have hc' := hc
    simp only [Bool.and_eq_true, beq_iff_eq] at hc
    cases h
    refine ⟨_, rfl, fun j hj => ?_, .inr hc.1, fun s2 h2 h3 => ?_⟩
    ·have : refs (refp f.type (fieldD (opd0 P st o y).d k)) = [] := rfl
     rw [this] at hj
     cases hj
    ·unfold evOp
     have ht : ((opd0 P st o y).tag == 2) = false := by rw [hc.1]; rfl
     simp only [hop, hf, h2, ht, Bool.false_and, Bool.false_eq_true, if_false, hc', if_true]
   ·rename_i hn2
    split at h
    ·rename_i hc
     have hc' := hc
     simp only [Bool.and_eq_true, beq_iff_eq] at hc
     cases h
     have htag := hc.1.1.1.1
     refine ⟨_, rfl, fun j hj => ?_, .inl htag, fun s2 h2 h3 => ?_⟩
     ·rw [refs_2 rfl] at hj
      rw [refs_2 htag]
      simpa [elf] using hj
     ·unfold evOp
      simp only [hop, hf, h2, (hbox (h3 htag)).1, (hbox (h3 htag)).2, hn1, hn2, hc', Bool.false_eq_true, if_false, if_true]
    ·cases h
 ·cases h
def killO (k : Option Nat) (st : St) : St := match k with | none => st | some i => st.kill i
def kA (k : Option Nat) (v : AV) : AV := match k with | none => v | some i => killL [i] v
theorem kput {i : Nat} {d : Option Nat} {v : AV} : (st.put d v).kill i = (st.kill i).put d (killL [i] v) := by
 cases d with
 | none => rfl
 | some d =>
  show (⟨(st.sl.set d v).map (killL [i]), _⟩ : St) = ⟨(st.sl.map (killL [i])).set d (killL [i] v), _⟩
  rw [List.map_set]
  rfl
theorem killO_put {k : Option Nat} {d : Option Nat} {v : AV} : killO k (st.put d v) = (killO k st).put d (kA k v) := by
 cases k with
 | none => rfl
 | some i => exact kput
theorem kA_same {k : Option Nat} {v : AV} (h : ∀ j ∈ refs v, k ≠ some j) : kA k v = v := by
 cases k with
 | none => rfl
 | some i =>
  show killL [i] v = v
  unfold killL
  have : (refs v).any [i].contains = false := by
   rw [<- Bool.not_eq_true, List.any_eq_true]
   rintro ⟨j, hj, hh⟩
   simp only [List.contains_iff_mem, List.mem_singleton] at hh
   exact h j hj (by rw [hh])
  rw [this]
  rfl
theorem mapC_id0 (e : Ent) : Ent.mapC (kA none) e = e := by
 unfold Ent.mapC
 cases e with
 | mk a b c d => cases d <;> rfl
theorem killO_bx {k : Option Nat} {j : Nat} (h : k ≠ some j) : (killO k st).bx j = (st.bx j).map (Ent.mapC (kA k)) := by
 cases k with
 | none =>
  show st.bx j = _
  cases st.bx j with
  | none => rfl
  | some e => rw [Option.map_some, mapC_id0]
 | some i =>
  show (st.kill i).bx j = _
  rw [killB_bx, if_neg (fun hh => h (by rw [hh]))]
  rfl
theorem killO_upd {k : Option Nat} {d : Nat} {e : Ent} (h : k ≠ some d) (he : e.c = none) : killO k (st.upd d e) = (killO k st).upd d e := by
 cases k with
 | none => rfl
 | some i =>
  have hne : d ≠ i := fun hh => h (by rw [hh])
  show (⟨st.sl.map (killL [i]), fun j => if j = i then none else ((if j = d then some e else st.bx j)).map (Ent.mapC (killL [i]))⟩ : St) = ⟨st.sl.map (killL [i]), fun j => if j = d then some e else if j = i then none else (st.bx j).map (Ent.mapC (killL [i]))⟩
  congr 1
  funext j
  by_cases hj : j = d
  ·subst hj
   rw [if_neg hne, if_pos rfl, if_pos rfl, Option.map_some]
   unfold Ent.mapC
   rw [he]
   cases e
   simp_all
  ·rw [if_neg hj, if_neg hj]
theorem kA_tag7 {k : Option Nat} {v : AV} : ((kA k v).tag == 7) = (v.tag == 7) := by
 cases k with
 | none => rfl
 | some i =>
  show ((killL [i] v).tag == 7) = _
  unfold killL
  split
  ·unfold dz
   split
   ·rename_i h; exact h.symm ▸ h
   ·rename_i h; simp at h; split <;> simp [dead, h]
  ·rfl
theorem kA_tag8 {k : Option Nat} {v : AV} : ((kA k v).tag == 8) = (v.tag == 8) := by
 cases k with
 | none => rfl
 | some i =>
  show ((killL [i] v).tag == 8) = _
  unfold killL
  split
  ·unfold dz
   split
   ·rfl
   ·split
    ·rfl
    ·rename_i h8
     have : v.tag ≠ 8 := by simpa using h8
     simp [dead, this]
  ·rfl
theorem boxC_killO {k : Option Nat} {t : TypeId} {x : AV} (h : x.tag = 2 -> k ≠ some x.id) : boxC (killO k st) t x = (boxC st t x).map (kA k) := by
 unfold boxC
 split
 ·rename_i hx
  simp only [Bool.and_eq_true, beq_iff_eq] at hx
  rw [killO_bx (h hx.1.1)]
  cases st.bx x.id with
  | none => rfl
  | some e =>
   simp only [Option.map_some]
   have e1 : (Ent.mapC (kA k) e).row = e.row := rfl
   have e2 : (Ent.mapC (kA k) e).c = e.c.map (kA k) := rfl
   rw [e1, e2]
   split
   ·cases e.c with
    | none => rfl
    | some v =>
     simp only [Option.map_some, kA_tag7, kA_tag8]
     split <;> rfl
   ·rfl
 ·rfl
theorem ldA_killO {k : Option Nat} {t : TypeId} {x : AV} (h : x.tag = 2 -> k ≠ some x.id) : ldA P (killO k st) t x = ldA P st t x := by
 unfold ldA
 split
 ·rename_i hx
  rw [killO_bx (h hx)]
  cases st.bx x.id with
  | none => rfl
  | some e =>
   simp only [Option.map_some]
   have e1 : (Ent.mapC (kA k) e).row = e.row := rfl
   have e2 : (Ent.mapC (kA k) e).c.isSome = e.c.isSome := by
    show (e.c.map (kA k)).isSome = _
    cases e.c <;> rfl
   have e3 : (Ent.mapC (kA k) e).ty = e.ty := rfl
   have e4 : (Ent.mapC (kA k) e).d = e.d := rfl
   have e5 : ldE P (Ent.mapC (kA k) e) t x = ldE P e t x := rfl
   rw [e1, e2, e3, e4, e5]
 ·rfl
theorem boxL_no {t : TypeId} {x : AV} : boxL false st t x = boxC st t x := by unfold boxL; cases boxC st t x <;> rfl
theorem ldV_killO {k : Option Nat} {t : TypeId} {x : AV} (h : x.tag = 2 -> k ≠ some x.id) : ldV P false (killO k st) t x = (ldV P false st t x).map (kA k) := by
 unfold ldV
 rw [boxL_no, boxL_no, boxC_killO h, ldA_killO h]
 cases boxC st t x with
 | some v => rfl
 | none =>
  simp only [Option.map_none, Option.map_map]
  congr 1
  funext z
  exact (kA_same (v := dat t z) (fun j hj => by cases hj)).symm
theorem ldV_tag {t : TypeId} {x v : AV} (h : ldV P false st t x = some v) : x.tag = 2 \/ x.tag = 3 := by
 unfold ldV at h
 rw [boxL_no] at h
 unfold boxC ldA at h
 by_cases h2 : x.tag = 2
 ·exact .inl h2
 ·by_cases h3 : x.tag = 3
  ·exact .inr h3
  ·have hb : (x.tag == 2) = false := by simpa using h2
   simp [hb, h2, h3] at h
/-- What an append of which only data is asked comes to. -/
theorem app_form (hi : isAppD env oi = true) (hk : chkOp P env st oi = true) (h : evOp P env oi st = some s1) :
  ∃ (k : Option Nat) (d : Nat) (A : AV), oi.dst = some d /\ refs A = [] /\ s1 = (killO k st).put (some d) A /\ (∀ i, k = some i -> Operand.tmp i ∈ oi.op.operands.toList) /\
   ∀ s2 : St, Same oi s2 st -> (∀ i, k = some i -> s2.bx i = st.bx i) -> chkOp P env s2 oi = true /\ evOp P env oi s2 = some ((killO k s2).put (some d) A) := by
 unfold isAppD at hi
 split at hi
 rotate_left
 ·cases hi
 rename_i c hoi
 simp only [Bool.and_eq_true, Option.isNone_iff_eq_none, Option.isSome_iff_exists] at hi
 obtain ⟨⟨hnn, ⟨⟨q, x, t⟩, happ⟩⟩, hda⟩ := hi
 have hcs := appOf_spec happ
 have hargs : c.args.toList = [.tmp q, x] := by rw [hcs]
 have hmq : Operand.tmp q ∈ oi.op.operands.toList := by rw [hoi]; simp only [Op.operands, Call.operands, Array.toList_append, List.mem_append]; right; rw [hargs]; simp
 have hmx : x ∈ oi.op.operands.toList := by rw [hoi]; simp only [Op.operands, Call.operands, Array.toList_append, List.mem_append]; right; rw [hargs]; simp
 unfold evOp at h
 simp only [hoi, hnn, happ, hda, if_true] at h
 unfold appData at h
 split at h
 ·rename_i el d e hso hd hro
  split at h
  ·rename_i hcond
   cases h
   have hid : (st.get q).id = q := by simp only [Bool.and_eq_true, beq_iff_eq] at hcond; exact hcond.2
   refine ⟨some q, d, _, hd, rfl, by rw [hid]; rfl, fun i hi => by cases hi; exact hmq, fun s2 hs hb => ?_⟩
   have hq : s2.get q = st.get q := hs q hmq
   have hx : opd P s2 t x = opd P st t x := opd_same hs hmx t
   have hr : rowOf s2 q t = rowOf st q t := by unfold rowOf; rw [hq, hid, hb q rfl]
   refine ⟨?_, ?_⟩
   ·unfold chkOp at hk ⊢
    simp only [hoi, hnn, happ, preOf_row hro, preOf_row (hr.trans hro), hr, hro, hx] at hk ⊢
    exact hk
   ·unfold evOp
    simp only [hoi, hnn, happ, hda, if_true]
    unfold appData
    rw [hso, hd, hr, hro, hx, hq]
    simp only [hcond, if_true]
    rw [hid]
    rfl
  ·cases h
 ·rename_i el d hso hd hro
  split at h
  ·rename_i hcond
   cases h
   have hc2 := hcond
   simp only [Bool.and_eq_true, beq_iff_eq] at hc2
   refine ⟨none, d, dat t (.slice (elemsD (st.get q).d ++ elemsD (opd P st t x).d) []), hd, rfl, rfl, fun i hi => (by cases hi), fun s2 hs _ => ?_⟩
   have hq : s2.get q = st.get q := hs q hmq
   have hx : opd P s2 t x = opd P st t x := opd_same hs hmx t
   have hr : rowOf s2 q t = none := by unfold rowOf; rw [hq, hc2.1.1.1.1]; rfl
   refine ⟨?_, ?_⟩
   ·unfold chkOp at hk ⊢
    simp only [hoi, hnn, happ, preOf_dat hc2.1.1.1.1, preOf_dat (st := s2) (s := q) (by rw [hq]; exact hc2.1.1.1.1), hr, hro, hx, hq] at hk ⊢
    exact hk
   ·unfold evOp
    simp only [hoi, hnn, happ, hda, if_true]
    unfold appData
    rw [hso, hd, hr, hx, hq]
    simp only [hcond, if_true]
    rfl
  ·cases h
 ·cases h
theorem opd_killO {k : Option Nat} {d : Nat} {A : AV} {y : Operand} (hd : ∀ i, y = .tmp i -> i ≠ d) (ht : (opd0 P ((killO k st).put (some d) A) oj y).tag = 2 \/ (opd0 P ((killO k st).put (some d) A) oj y).tag = 3) :
  opd0 P ((killO k st).put (some d) A) oj y = opd0 P st oj y /\ ∀ j ∈ refs (opd0 P st oj y), k ≠ some j := by
 cases y with
 | tmp i =>
  have hg' : opd0 P ((killO k st).put (some d) A) oj (.tmp i) = (killO k st).get i := get_put_ne (fun hh => hd i rfl (Option.some.inj hh).symm)
  cases k with
  | none =>
   refine ⟨hg', fun j _ hh => by cases hh⟩
  | some q =>
   have hg : (killO (some q) st).get i = killL [q] (st.get i) := killB_get q i
   rw [hg] at hg'
   rw [hg'] at ht ⊢
   rcases killL_cases [q] (st.get i) with hk | ⟨hk, hne2⟩
   ·exfalso
    rw [hk] at ht
    unfold dz at ht
    split at ht
    ·rename_i h7
     have h7 : (st.get i).tag = 7 := by simpa using h7
     rcases ht with h | h <;> · simp only [h7] at h; cases h
    ·split at ht
     ·rename_i h8
      have h8 : (st.get i).tag = 8 := by simpa using h8
      rcases ht with h | h <;> omega
     ·rcases ht with h | h <;> cases h
   ·rw [hk]
    refine ⟨rfl, fun j hj hh => hne2 j hj ?_⟩
    cases hh
    simp
 | const u =>
  exfalso
  have ht' : (opd0 P ((killO k st).put (some d) A) oj (.const u)).tag = 0 \/ (opd0 P ((killO k st).put (some d) A) oj (.const u)).tag = 1 := constD_tag01 P oj.type u
  omega
 | global g =>
  refine ⟨rfl, fun j hj => ?_⟩
  have : refs (opd0 P st oj (.global g)) = [] := rfl
  rw [this] at hj
  cases hj
 | func f =>
  refine ⟨rfl, fun j hj => ?_⟩
  have : refs (opd0 P st oj (.func f)) = [] := by
   have e : opd0 P st oj (.func f) = (match P.underlying oj.type with
     | some (.func _ _ _) => if P.cellsOf oj.type = 1 then dat oj.type (.held (.func (.func f) #[] #[])) else dead
     | _ => dead) := rfl
   rw [e]
   split
   ·split <;> rfl
   ·rfl
  rw [this] at hj
  cases hj
/-- What was done behind the append may be done ahead of it. -/
theorem soft_back (hpl : PlainE env) (hlv : env.lv = false) (hs : isFA oj.op = true) {k : Option Nat} {d : Nat} {A : AV} (hA : refs A = []) (hk : ∀ i, k = some i -> oj.dst ≠ some i) (hl : ∀ i, Operand.tmp i ∈ oj.op.operands.toList -> i ≠ d) (hd : oj.dst ≠ some d)
  (h : evOp P env oj ((killO k st).put (some d) A) = some s12) :
  ∃ s2, evOp P env oj st = some s2 /\ (∀ i, k = some i -> s2.bx i = st.bx i) /\ (∀ j, oj.dst ≠ some j -> s2.get j = st.get j) /\ s12 = (killO k s2).put (some d) A /\ ∀ s, chkOp P env s oj = true := by
 have hc : ∀ i, (some d : Option Nat) = some i -> oj.dst ≠ some i := fun i hi => by cases hi; exact hd
 have hc' : ∀ i, oj.dst = some i -> (some d : Option Nat) ≠ some i := fun i hi hh => by cases hh; exact hd hi
 unfold isFA at hs
 split at hs
 ·rename_i t' y n hoj
  obtain ⟨v, rfl, hv, htag, hre⟩ := evOp_fa hoj h
  obtain ⟨ho, hnr⟩ := opd_killO (fun i hi => hl i (by rw [hoj]; simp [Op.operands, hi])) htag
  rw [ho] at hv htag
  have ej : evOp P env oj st = some (st.put oj.dst v) := by
   refine hre st ho.symm fun h2 => ?_
   rw [ho] at h2 ⊢
   have hne : k ≠ some (opd0 P st oj y).id := hnr _ (by rw [refs_2 h2]; simp)
   rw [put_bx, killO_bx hne, Option.map_map]
   rfl
  refine ⟨_, ej, fun i _ => by rw [put_bx], fun j hj => get_put_ne hj, ?_, fun s => by unfold chkOp; rw [hoj]⟩
  rw [killO_put, kA_same (fun j hj => hnr j (hv j hj))]
  exact put_comm hc
 ·rename_i t' y hoj
  unfold evOp at h
  simp only [hoj, hpl.1, hlv, Bool.false_eq_true, if_false] at h
  obtain ⟨v1, hv1, rfl⟩ := Option.map_eq_some_iff.1 h
  have htag := ldV_tag hv1
  obtain ⟨ho, hnr⟩ := opd_killO (fun i hi => hl i (by rw [hoj]; simp [Op.operands, hi])) htag
  rw [ho, ldV_put, ldV_killO (fun h2 => hnr _ (by rw [refs_2 h2]; simp))] at hv1
  obtain ⟨v, hv, rfl⟩ := Option.map_eq_some_iff.1 hv1
  refine ⟨st.put oj.dst v, ?_, fun i _ => by rw [put_bx], fun j hj => get_put_ne hj, ?_, fun s => by unfold chkOp; rw [hoj]⟩
  ·unfold evOp
   simp only [hoj, hpl.1, hlv, Bool.false_eq_true, if_false]
   rw [hv]
   rfl
  ·rw [killO_put]
   exact put_comm hc
 ·rename_i t' hoj
  unfold evOp at h
  simp only [hoj, hpl.1, Bool.false_and, Bool.false_eq_true, if_false] at h
  split at h
  ·rename_i d' z hd' hz
   split at h
   ·rename_i hf
    cases h
    have hkd : k ≠ some d' := fun hh => hk d' hh hd'
    have hf' : ((st.bx d').isNone && decide (d' < RID)) = true := by
     rw [put_bx, killO_bx hkd, Option.isNone_map] at hf
     exact hf
    refine ⟨(st.upd d' ⟨t', z, 0, none⟩).put (some d') (bxp d' t'), ?_, fun i hi => ?_, fun j hj => ?_, ?_, fun s => by unfold chkOp; rw [hoj]⟩
    ·unfold evOp
     simp only [hoj, hpl.1, Bool.false_and, Bool.false_eq_true, if_false]
     rw [hd', hz]
     simp only [hf', if_true]
    ·rw [put_bx, upd_bx, if_neg (fun hh => hkd (by rw [hi, hh]))]
    ·rw [hd'] at hj
     rw [get_put_ne hj]
     rfl
    ·rw [killO_put, killO_upd hkd rfl, kA_same (v := bxp d' t') (fun j hj => by rw [refs_2 rfl] at hj; simp [bxp] at hj; rw [hj]; exact hkd), upd_put]
     exact put_comm (by rw [<- hd']; exact hc)
   ·cases h
  ·cases h
 ·cases hs
theorem diamond_app (hpl : PlainE env) (hlv : env.lv = false) (hc : appFld env ops oi oj = true) (h1 : opStep P env ops oi st = some s1) (h2 : opStep P env ops oj s1 = some s12) :
  ∃ s2, opStep P env ops oj st = some s2 /\ opStep P env ops oi s2 = some s12 := by
 unfold appFld at hc
 simp only [Bool.and_eq_true, Option.isNone_iff_eq_none] at hc
 obtain ⟨⟨⟨⟨hap, gi⟩, gj⟩, hi⟩, hj⟩ := hc
 obtain ⟨a1, a2, a3⟩ := Oper.apart_spec hap
 have ask : ∀ (o : Oper) (s : St), o.guard = none -> asked P ops o s = some true := fun o s hg => by unfold asked; rw [hg]
 have step : ∀ (o : Oper) (s s' : St), o.guard = none -> opStep P env ops o s = some s' -> chkOp P env s o = true /\ evOp P env o s = some s' := by
  intro o s s' hg h
  unfold opStep at h
  rw [ask o s hg] at h
  simp only at h
  split at h
  ·rename_i hk; exact ⟨hk, h⟩
  ·cases h
 have back : ∀ (o : Oper) (s s' : St), o.guard = none -> chkOp P env s o = true -> evOp P env o s = some s' -> opStep P env ops o s = some s' := by
  intro o s s' hg hk he
  unfold opStep
  rw [ask o s hg]
  simp only
  rw [if_pos hk]
  exact he
 obtain ⟨k1, e1⟩ := step oi st s1 gi h1
 obtain ⟨k2, e2⟩ := step oj s1 s12 gj h2
 obtain ⟨k, d, A, hd, hA, rfl, hko, hre⟩ := app_form hi k1 e1
 obtain ⟨s2, ej, hb, hg, hs, hck⟩ := soft_back hpl hlv hj hA (fun i hki hh => a3 i hh (looks_operand (hko i hki))) (fun i hi hh => a1 d hd (by rw [<- hh]; exact looks_operand hi)) (fun hh => a2 d hd hh) e2
 obtain ⟨c3, e3⟩ := hre s2 (fun i hi => hg i (fun hh => a3 i hh (looks_operand hi))) hb
 exact ⟨s2, back oj st s2 gj (hck st) ej, back oi s2 s12 gi c3 (by rw [e3, hs])⟩

theorem anyA_first3 (hpl : PlainE env) (hlv : env.lv = false) {G : St -> Prop} {i : Nat} (hi : ops[i]? = some oi) :
  ∀ (n : Nat) (listed : Array Bool) (st s1 : St), ND2 st -> Closed ops listed -> i ∈ Region.ready .any ops listed ->
   (∀ (j : Nat) (oj : Oper), ops[j]? = some oj -> j ≠ i -> listed.getD j true = false -> (comm ops oi oj = true \/ waits ops 8 j i = true) \/ appFld env ops oi oj = true) ->
   opStep P env ops oi st = some s1 -> anyA P env ops G n (listed.setIfInBounds i true) s1 -> anyA P env ops G (n + 1) listed st := by
 intro n
 induction n with
 | zero =>
  intro listed st s1 hn hc hr hfree h1 H
  refine ⟨fun h => (by rw [h] at hr; cases hr), fun j hj => ?_⟩
  by_cases hji : j = i
  ·subst hji; exact ⟨oi, s1, hi, h1, H⟩
  ·have := ready_mono hj hji
   rw [H.1] at this
   cases this
 | succ n ih =>
  intro listed st s1 hn hc hr hfree h1 H
  refine ⟨fun h => (by rw [h] at hr; cases hr), fun j hj => ?_⟩
  by_cases hji : j = i
  ·subst hji; exact ⟨oi, s1, hi, h1, H⟩
  ·obtain ⟨oj, s12, hoj, h2, hrest⟩ := H.2 j (ready_mono hj hji)
   have hiun := (mem_ready.1 hr).1
   have hjun := (mem_ready.1 hj).1
   have hd : ∃ s2, opStep P env ops oj st = some s2 /\ opStep P env ops oi s2 = some s12 := by
    rcases hfree j oj hoj hji hjun with (h | h) | h
    ·exact diamond hpl h hn.1 h1 h2
    ·rw [no_wait_ready hc hiun hj] at h; cases h
    ·exact diamond_app hpl hlv h h1 h2
   obtain ⟨s2, g1, g2⟩ := hd
   refine ⟨oj, s2, hoj, g1, ?_⟩
   refine ih (listed.setIfInBounds j true) s2 s12 (opStep_nd hpl hn g1) (closed_set hc hj) (ready_mono hr (Ne.symm hji)) ?_ g2 ?_
   ·intro k ok hk hki hun
    refine hfree k ok hk hki ?_
    by_cases hjk : j = k
    ·subst hjk; exact hjun
    ·rw [getD_set_ne true hjk] at hun; exact hun
   ·rw [Array.setIfInBounds_comm _ _ hji]
    exact hrest
theorem anyA_lex3 (hpl : PlainE env) (hlv : env.lv = false) (hlex : lexOK3 env ops = true) {G : St -> Prop} (hG : G st') :
  ∀ (l : List Oper) (k : Nat) (listed : Array Bool) (st : St), (∀ j, l[j]? = ops[k + j]?) -> listed.size = ops.size -> (∀ j, j < ops.size -> listed.getD j true = decide (j < k)) -> k + l.length = ops.size ->
   ND2 st -> runOps P env ops l st = some st' -> anyA P env ops G l.length listed st
 | [], k, listed, st, hl, hsz, hlist, hlen, hn, h => by
  simp only [runOps, Option.some.injEq] at h
  subst h
  refine ⟨?_, hG⟩
  rw [List.eq_nil_iff_forall_not_mem]
  intro j hj
  obtain ⟨h1, o, ho, _⟩ := mem_ready.1 hj
  have hlt : j < ops.size := (Array.getElem?_eq_some_iff.1 ho).1
  rw [hlist j hlt] at h1
  simp at hlen h1
  omega
 | o :: l, k, listed, st, hl, hsz, hlist, hlen, hn, h => by
  simp only [runOps] at h
  obtain ⟨s1, h1, h2⟩ := Option.bind_eq_some_iff.1 h
  have h0 : ops[k]? = some o := by simpa using (hl 0).symm
  have hk : k < ops.size := (Array.getElem?_eq_some_iff.1 h0).1
  have hlf : ∀ j, j < ops.size -> listed.getD j false = decide (j < k) := fun j hj => by
   have := hlist j hj
   have hj' : j < listed.size := by omega
   simpa [hj'] using this
  unfold lexOK3 at hlex
  have hlex' := hlex
  rw [List.all_eq_true] at hlex'
  have hat : ∀ (j : Nat) (oj : Oper), ops[j]? = some oj -> (∀ e ∈ oj.after, Region.binds .any e = true -> e.on < j) /\ ∀ (i : Nat) (oi : Oper), i < j -> ops[i]? = some oi -> (comm ops oi oj = true \/ waits ops 8 j i = true) \/ appFld env ops oi oj = true := by
   intro j oj hj
   have hlt : j < ops.size := (Array.getElem?_eq_some_iff.1 hj).1
   have := hlex' j (List.mem_range.2 hlt)
   rw [hj] at this
   simp only [Bool.and_eq_true, Array.all_eq_true_iff_forall_mem, List.all_eq_true] at this
   refine ⟨fun e he hb => ?_, fun i oi hij hi => ?_⟩
   ·have := this.1 e he
    simpa [hb] using this
   ·have := this.2 i (List.mem_range.2 hij)
    rw [hi] at this
    simpa using this
  have hready : k ∈ Region.ready .any ops listed := mem_ready.2 ⟨by rw [hlist k hk]; simp, o, h0, fun e he hb => by
   have hlt := (hat k o h0).1 e he hb
   rw [hlf e.on (by omega)]
   simpa using hlt⟩
  have hclosed : Closed ops listed := by
   intro j oj hj hjl e he hb
   have hlt : j < ops.size := (Array.getElem?_eq_some_iff.1 hj).1
   rw [hlf j hlt] at hjl
   have := (hat j oj hj).1 e he hb
   rw [hlf e.on (by omega)]
   simp at hjl ⊢
   omega
  refine anyA_first3 hpl hlv h0 l.length listed st s1 hn hclosed hready ?_ h1 ?_
  ·intro j oj hj hjk hun
   have hlt : j < ops.size := (Array.getElem?_eq_some_iff.1 hj).1
   rw [hlist j hlt] at hun
   simp at hun
   exact (hat j oj hj).2 k o (by omega) h0
  ·refine anyA_lex3 hpl hlv hlex hG l (k + 1) _ s1 (fun j => by have := hl (j + 1); simpa [Nat.add_assoc, Nat.add_comm 1 j] using this) (by simpa using hsz) ?_ (by simp at hlen; omega) (opStep_nd hpl hn h1) h2
   intro j hj
   by_cases hjk : k = j
   ·subst hjk
    have : k < listed.size := by omega
    simp [this]
   ·rw [getD_set_ne true hjk, hlist j hj]
    simp
    omega

theorem anyA_perm (hpl : PlainE env) (hlv : env.lv = false) {G : St -> Prop} (hG : G st') :
  ∀ (l done : List Nat) (listed : Array Bool) (st : St), lexPr env ops done l = true -> listed.size = ops.size -> (∀ j, listed.getD j false = done.contains j) -> Closed ops listed -> (∀ j, j < ops.size -> j ∈ done \/ j ∈ l) ->
   ND2 st -> runOps P env ops (pickOps ops l) st = some st' -> anyA P env ops G l.length listed st
 | [], done, listed, st, hx, hsz, hlist, hcl, hcov, hn, h => by
  have h : some st = some st' := h
  cases h
  refine ⟨?_, hG⟩
  rw [List.eq_nil_iff_forall_not_mem]
  intro j hj
  obtain ⟨h1, o, ho, _⟩ := mem_ready.1 hj
  have hlt : j < ops.size := (Array.getElem?_eq_some_iff.1 ho).1
  have hd : j ∈ done := (hcov j hlt).resolve_right (by simp)
  have h2 : listed.getD j false = true := by rw [hlist, List.contains_iff_mem]; exact hd
  have hj' : j < listed.size := by omega
  simp [hj'] at h1 h2
  rw [h1] at h2
  cases h2
 | k :: l, done, listed, st, hx, hsz, hlist, hcl, hcov, hn, h => by
  unfold lexPr at hx
  rw [Bool.and_eq_true] at hx
  obtain ⟨hx1, hx2⟩ := hx
  cases h0 : ops[k]? with
  | none => rw [h0] at hx1; cases hx1
  | some o =>
   rw [h0] at hx1
   simp only [Bool.and_eq_true, Array.all_eq_true_iff_forall_mem, List.all_eq_true] at hx1
   obtain ⟨⟨hnd, haft⟩, hrest⟩ := hx1
   have hk : k < ops.size := (Array.getElem?_eq_some_iff.1 h0).1
   have hkd : done.contains k = false := by simpa using hnd
   have hpick : pickOps ops (k :: l) = o :: pickOps ops l := by unfold pickOps; rw [List.filterMap_cons, h0]
   rw [hpick] at h
   simp only [runOps] at h
   obtain ⟨s1, h1, h2⟩ := Option.bind_eq_some_iff.1 h
   have hready : k ∈ Region.ready .any ops listed := mem_ready.2 ⟨by
    have := hlist k
    have hk' : k < listed.size := by omega
    rw [hkd] at this
    simpa [hk'] using this, o, h0, fun e he hb => by
     have := haft e he
     rw [hlist]
     simpa [hb] using this⟩
   refine anyA_first3 hpl hlv h0 l.length listed st s1 hn hcl hready ?_ h1 ?_
   ·intro j oj hj hjk hun
    have hlt : j < ops.size := (Array.getElem?_eq_some_iff.1 hj).1
    have hjd : j ∉ done := fun hh => by
     have h3 : listed.getD j false = true := by rw [hlist, List.contains_iff_mem]; exact hh
     have hj' : j < listed.size := by omega
     simp [hj'] at hun h3
     rw [hun] at h3
     cases h3
    have hjl : j ∈ l := by
     rcases List.mem_cons.1 ((hcov j hlt).resolve_left hjd) with hh | hh
     ·exact absurd hh hjk
     ·exact hh
    have := hrest j hjl
    rw [hj] at this
    simpa using this
   ·refine anyA_perm hpl hlv hG l (k :: done) _ s1 hx2 (by simpa using hsz) ?_ (closed_set hcl hready) ?_ (opStep_nd hpl hn h1) h2
    ·intro j
     by_cases hjk : k = j
     ·subst hjk
      have : k < listed.size := by omega
      simp [this]
     ·rw [getD_set_ne false hjk, hlist, List.contains_cons]
      have : (j == k) = false := by simpa using Ne.symm hjk
      rw [this, Bool.false_or]
    ·intro j hj
     rcases hcov j hj with hh | hh
     ·exact .inl (List.mem_cons_of_mem _ hh)
     ·rcases List.mem_cons.1 hh with rfl | hh
      ·exact .inl (List.mem_cons_self ..)
      ·exact .inr hh

theorem lexPr_cov {j : Nat} (hj : j < ops.size) : ∀ (l done : List Nat), lexPr env ops done l = true -> j ∈ done \/ j ∈ l
 | [], done, h => by
  have h : (List.range ops.size).all done.contains = true := h
  rw [List.all_eq_true] at h
  have := h j (List.mem_range.2 hj)
  rw [List.contains_iff_mem] at this
  exact .inl this
 | k :: l, done, h => by
  unfold lexPr at h
  rw [Bool.and_eq_true] at h
  rcases lexPr_cov hj l (k :: done) h.2 with hh | hh
  ·rcases List.mem_cons.1 hh with rfl | hh
   ·exact .inr (List.mem_cons_self ..)
   ·exact .inl hh
  ·exact .inr (List.mem_cons_of_mem _ hh)

theorem split_len (p : Nat -> Bool) (l : List Nat) : (l.filter p ++ l.filter fun j => !p j).length = l.length := by
 induction l with
 | nil => rfl
 | cons x l ih =>
  rw [List.length_append] at ih ⊢
  cases hp : p x <;> simp [List.filter_cons, hp] <;> omega
theorem appOrd_len (env : Env) (ops : Array Oper) : (appOrd env ops).length = ops.size :=
 (split_len (fun j => (List.range ops.size).any fun a => ((ops[a]?).map (isAppD env)).getD false && (a == j || waits ops 8 a j)) (List.range ops.size)).trans List.length_range
theorem rep_false (n j : Nat) : (Array.replicate n false).getD j false = false := by
 rw [Array.getD_eq_getD_getElem?, Array.getElem?_replicate]
 split <;> rfl
theorem region_draw_sound4 (hpl : PlainE env) (hlv : env.lv = false) (hm : P.follows .mixedOrders = true) (henv : EnvOK P env) {l : List Nat} (hlex : lexPr env ops [] l = true) (hlen : l.length = ops.size) {id : Nat} (h : runOps P env ops (pickOps ops l) st = some st') (R : Rel P F st a w)
  (hQ : ∀ a w, Rel P F st' a w -> Q .normal a w) : (Code.region id ops true).wp P Q a w := by
 obtain ⟨ok, β, R⟩ := R
 refine wp_region_any hm ?_
 refine anyA_sound (G := fun s => s = st') henv (fun s a w hs R' => hQ a w (hs ▸ R')) _ _ st a _ ?_ ⟨ok, β, R.drawn⟩
 have := anyA_perm (G := fun s => s = st') hpl hlv rfl l [] (Array.replicate ops.size false) st hlex (by simp) (fun j => rep_false _ j) (by intro j oj hj hjl; rw [rep_false] at hjl; cases hjl) (fun j hj => lexPr_cov hj l [] hlex) ⟨R.nd, R.hp.nb⟩ h
 rw [hlen] at this
 simpa using this

theorem region_draw_sound3 (hpl : PlainE env) (hlv : env.lv = false) (hm : P.follows .mixedOrders = true) (henv : EnvOK P env) (hlex : lexOK3 env ops = true) {id : Nat} (h : runOps P env ops ops.toList st = some st') (R : Rel P F st a w)
  (hQ : ∀ a w, Rel P F st' a w -> Q .normal a w) : (Code.region id ops true).wp P Q a w := by
 obtain ⟨ok, β, R⟩ := R
 refine wp_region_any hm ?_
 refine anyA_sound (G := fun s => s = st') henv (fun s a w hs R' => hQ a w (hs ▸ R')) _ _ st a _ ?_ ⟨ok, β, R.drawn⟩
 have := anyA_lex3 (G := fun s => s = st') hpl hlv hlex rfl ops.toList 0 (Array.replicate ops.size false) st (by simp) (by simp) (fun j hj => by simp [hj]) (by simp) ⟨R.nd, R.hp.nb⟩ h
 simpa using this

end
end
end Go.Ev
