/- Trees of functions, and lemmas. Nothing here is trusted. -/
import Derived.Test.YtdacippnonhahaaDoorZ15
import Derived.OrdersIn
import Derived.LoopNIn
import Derived.RangeFuncIn
import Derived.RangeFuncRecord
import Derived.RangeFuncLeaves
import Derived.RangeFuncSeq
import Derived.TacticsIn
namespace Go.Ev
open Go.RowKit
set_option linter.unusedVariables false
set_option linter.unusedSimpArgs false
section
section
variable {S : Type} {step : Oper -> S -> Option S} {cm : Oper -> Oper -> Bool} {ord : Oper -> Bool} {inv : S -> Prop} {ops : Array Oper} {oi oj o : Oper} {s s' s1 s2 s12 : S}

def ordTo (ord : Oper -> Bool) (ops : Array Oper) (j : Nat) : Bool := (List.range j).all fun k => match ops[k]? with | some o => ord o | none => true
/-- Pairs of ordinary operations are apart, or one waits for the other; all else is taken one behind the other. -/
def lexG (cm : Oper -> Oper -> Bool) (ord : Oper -> Bool) (ops : Array Oper) : Bool :=
 (List.range ops.size).all fun j => match ops[j]? with
  | none => true
  | some oj => (oj.after.all fun e => !Region.binds .any e || decide (e.on < j)) &&
   (List.range j).all fun i => match ops[i]? with
    | none => true
    | some oi => waits ops 8 j i || (cm oi oj && ord oi && ord oj && ordTo ord ops j)

def runG (step : Oper -> S -> Option S) : List Oper -> S -> Option S
 | [], s => some s
 | o :: l, s => (step o s).bind (runG step l)

def anyG (step : Oper -> S -> Option S) (ops : Array Oper) (G : S -> Prop) : Nat -> Array Bool -> S -> Prop
 | 0, listed, s => Region.ready .any ops listed = [] /\ G s
 | n + 1, listed, s => (Region.ready .any ops listed = [] -> G s) /\
  ∀ i ∈ Region.ready .any ops listed, ∃ o s', ops[i]? = some o /\ step o s = some s' /\ anyG step ops G n (listed.setIfInBounds i true) s'

/-- Ordinary steps that are apart. -/
def DiaG (step : Oper -> S -> Option S) (cm : Oper -> Oper -> Bool) (ord : Oper -> Bool) (inv : S -> Prop) (ops : Array Oper) : Prop :=
 ∀ oi oj s s1 s12, ord oi = true -> ord oj = true -> cm oi oj = true -> (∃ i j : Nat, ops[i]? = some oi /\ ops[j]? = some oj) -> inv s -> step oi s = some s1 -> step oj s1 = some s12 -> ∃ s2, step oj s = some s2 /\ step oi s2 = some s12
def InvG (step : Oper -> S -> Option S) (ord : Oper -> Bool) (inv : S -> Prop) : Prop := ∀ o s s', ord o = true -> inv s -> step o s = some s' -> inv s'

theorem anyG_first (hd : DiaG step cm ord inv ops) (hi' : InvG step ord inv) {G : S -> Prop} {i : Nat} (hi : ops[i]? = some oi) :
  ∀ (n : Nat) (listed : Array Bool) (s s1 : S), inv s -> Closed ops listed -> i ∈ Region.ready .any ops listed ->
   (∀ (j : Nat) (oj : Oper), ops[j]? = some oj -> j ≠ i -> listed.getD j true = false -> (cm oi oj = true /\ ord oi = true /\ ord oj = true) \/ waits ops 8 j i = true) ->
   step oi s = some s1 -> anyG step ops G n (listed.setIfInBounds i true) s1 -> anyG step ops G (n + 1) listed s := by
 intro n
 induction n with
 | zero =>
  intro listed st s1 hn hc hr hfree h1 H
  refine ⟨fun h => (by rw [h] at hr; cases hr), fun j hj => ?_⟩
  by_cases hji : j = i
  ·subst hji; exact ⟨oi, s1, hi, h1, H⟩
  ·have := ready_mono hj hji
   rw [H.1] at this
   cases this
 | succ n ih =>
  intro listed st s1 hn hc hr hfree h1 H
  refine ⟨fun h => (by rw [h] at hr; cases hr), fun j hj => ?_⟩
  by_cases hji : j = i
  ·subst hji; exact ⟨oi, s1, hi, h1, H⟩
  ·obtain ⟨oj, s12, hoj, h2, hrest⟩ := H.2 j (ready_mono hj hji)
   have hiun := (mem_ready.1 hr).1
   have hjun := (mem_ready.1 hj).1
   have hcomm : cm oi oj = true /\ ord oi = true /\ ord oj = true := by
    rcases hfree j oj hoj hji hjun with h | h
    ·exact h
    ·rw [no_wait_ready hc hiun hj] at h; cases h
   obtain ⟨s2, g1, g2⟩ := hd oi oj st s1 s12 hcomm.2.1 hcomm.2.2 hcomm.1 ⟨i, j, hi, hoj⟩ hn h1 h2
   refine ⟨oj, s2, hoj, g1, ?_⟩
   refine ih (listed.setIfInBounds j true) s2 s12 (hi' oj st s2 hcomm.2.2 hn g1) (closed_set hc hj) (ready_mono hr (Ne.symm hji)) ?_ g2 ?_
   ·intro k ok hk hki hun
    refine hfree k ok hk hki ?_
    by_cases hjk : j = k
    ·subst hjk; exact hjun
    ·rw [getD_set_ne true hjk] at hun; exact hun
   ·rw [Array.setIfInBounds_comm _ _ hji]
    exact hrest

theorem anyG_only {G : S -> Prop} {i n : Nat} {listed : Array Bool} (hi : ops[i]? = some oi) (hr : i ∈ Region.ready .any ops listed) (ho : ∀ j ∈ Region.ready .any ops listed, j = i)
  (h1 : step oi s = some s1) (H : anyG step ops G n (listed.setIfInBounds i true) s1) : anyG step ops G (n + 1) listed s := by
 refine ⟨fun h => (by rw [h] at hr; cases hr), fun j hj => ?_⟩
 obtain rfl := ho j hj
 exact ⟨oi, s1, hi, h1, H⟩

theorem anyG_lex (hd : DiaG step cm ord inv ops) (hi' : InvG step ord inv) (hlex : lexG cm ord ops = true) {G : S -> Prop} (hG : G s') :
  ∀ (l : List Oper) (k : Nat) (listed : Array Bool) (s : S), (∀ j, l[j]? = ops[k + j]?) -> listed.size = ops.size -> (∀ j, j < ops.size -> listed.getD j true = decide (j < k)) -> k + l.length = ops.size ->
   (ordTo ord ops k = true -> inv s) -> runG step l s = some s' -> anyG step ops G l.length listed s
 | [], k, listed, st, hl, hsz, hlist, hlen, hn, h => by
  simp only [runG, Option.some.injEq] at h
  subst h
  refine ⟨?_, hG⟩
  rw [List.eq_nil_iff_forall_not_mem]
  intro j hj
  obtain ⟨h1, o, ho, _⟩ := mem_ready.1 hj
  have hlt : j < ops.size := (Array.getElem?_eq_some_iff.1 ho).1
  rw [hlist j hlt] at h1
  simp at hlen h1
  omega
 | o :: l, k, listed, st, hl, hsz, hlist, hlen, hn, h => by
  simp only [runG] at h
  obtain ⟨s1, h1, h2⟩ := Option.bind_eq_some_iff.1 h
  have h0 : ops[k]? = some o := by simpa using (hl 0).symm
  have hk : k < ops.size := (Array.getElem?_eq_some_iff.1 h0).1
  have hlf : ∀ j, j < ops.size -> listed.getD j false = decide (j < k) := fun j hj => by
   have := hlist j hj
   have hj' : j < listed.size := by omega
   simpa [hj'] using this
  unfold lexG at hlex
  have hlex' := hlex
  rw [List.all_eq_true] at hlex'
  have hat : ∀ (j : Nat) (oj : Oper), ops[j]? = some oj -> (∀ e ∈ oj.after, Region.binds .any e = true -> e.on < j) /\ ∀ (i : Nat) (oi : Oper), i < j -> ops[i]? = some oi -> (cm oi oj = true /\ ord oi = true /\ ord oj = true /\ ordTo ord ops j = true) \/ waits ops 8 j i = true := by
   intro j oj hj
   have hlt : j < ops.size := (Array.getElem?_eq_some_iff.1 hj).1
   have := hlex' j (List.mem_range.2 hlt)
   rw [hj] at this
   simp only [Bool.and_eq_true, Array.all_eq_true_iff_forall_mem, List.all_eq_true] at this
   refine ⟨fun e he hb => ?_, fun i oi hij hi => ?_⟩
   ·have := this.1 e he
    simpa [hb] using this
   ·have := this.2 i (List.mem_range.2 hij)
    rw [hi] at this
    simp only [Bool.or_eq_true, Bool.and_eq_true] at this
    rcases this with h | ⟨⟨⟨q1, q2⟩, q3⟩, q4⟩
    ·exact .inr h
    ·exact .inl ⟨q1, q2, q3, q4⟩
  have hready : k ∈ Region.ready .any ops listed := mem_ready.2 ⟨by rw [hlist k hk]; simp, o, h0, fun e he hb => by
   have hlt := (hat k o h0).1 e he hb
   rw [hlf e.on (by omega)]
   simpa using hlt⟩
  have hclosed : Closed ops listed := by
   intro j oj hj hjl e he hb
   have hlt : j < ops.size := (Array.getElem?_eq_some_iff.1 hj).1
   rw [hlf j hlt] at hjl
   have := (hat j oj hj).1 e he hb
   rw [hlf e.on (by omega)]
   simp at hjl ⊢
   omega
  have hlater : ∀ j, j ∈ Region.ready .any ops listed -> j ≠ k -> ∃ oj, ops[j]? = some oj /\ k < j := by
   intro j hj hjk
   obtain ⟨hun, oj, hoj, _⟩ := mem_ready.1 hj
   have hlt : j < ops.size := (Array.getElem?_eq_some_iff.1 hoj).1
   rw [hlist j hlt] at hun
   simp at hun
   exact ⟨oj, hoj, by omega⟩
  have hgo : anyG step ops G l.length (listed.setIfInBounds k true) s1 := by
   refine anyG_lex hd hi' hlex hG l (k + 1) _ s1 (fun j => by have := hl (j + 1); simpa [Nat.add_assoc, Nat.add_comm 1 j] using this) (by simpa using hsz) ?_ (by simp at hlen; omega) (fun hnt => ?_) h2
   ·intro j hj
    by_cases hjk : k = j
    ·subst hjk
     have : k < listed.size := by omega
     simp [this]
    ·rw [getD_set_ne true hjk, hlist j hj]
     simp
     omega
   ·unfold ordTo at hnt
    rw [List.all_eq_true] at hnt
    have hk1 := hnt k (List.mem_range.2 (Nat.lt_succ_self k))
    rw [h0] at hk1
    have hk0 : ordTo ord ops k = true := by
     unfold ordTo
     rw [List.all_eq_true]
     intro j hj
     exact hnt j (List.mem_range.2 (Nat.lt_succ_of_lt (List.mem_range.1 hj)))
    exact hi' o st s1 hk1 (hn hk0) h1
  by_cases hall : ∀ j ∈ Region.ready .any ops listed, j = k
  ·exact anyG_only h0 hready hall h1 hgo
  ·have hnd : inv st := by
    obtain ⟨j, hj⟩ := Classical.not_forall.1 hall
    obtain ⟨hj, hjk⟩ := Classical.not_imp.1 hj
    obtain ⟨oj, hoj, hlt⟩ := hlater j hj hjk
    refine hn ?_
    rcases (hat j oj hoj).2 k o hlt h0 with h | h
    ·have h4 := h.2.2.2
     unfold ordTo at h4 ⊢
     rw [List.all_eq_true] at h4 ⊢
     intro q hq
     exact h4 q (List.mem_range.2 (Nat.lt_trans (List.mem_range.1 hq) hlt))
    ·rw [no_wait_ready hclosed (mem_ready.1 hready).1 hj] at h
     cases h
   refine anyG_first hd hi' h0 l.length listed st s1 hnd hclosed hready ?_ h1 hgo
   intro j oj hj hjk hun
   have hlt : j < ops.size := (Array.getElem?_eq_some_iff.1 hj).1
   rw [hlist j hlt] at hun
   simp at hun
   rcases (hat j oj hj).2 k o (by omega) h0 with h | h
   ·exact .inl ⟨h.1, h.2.1, h.2.2.1⟩
   ·exact .inr h
end

/-! ### The wide fence, in a round or not -/
def wr (rd : Option Nat) : Fence := { Fence.wide with round := rd }
theorem wr_none : wr none = Fence.wide := rfl
theorem wr_some (l : Nat) : wr (some l) = Fence.wide.inRound l := rfl
theorem callsIn_wr {rd : Option Nat} {n : Nat} {P : Program} {f : FuncId} {args : Array Value} {w : World} {R : Ending -> World -> Prop} : CallsIn (wr rd) n P f args w R ↔ Calls P f args w R :=
 (show CallsIn Fence.wide n P f args w R ↔ _ from callsIn_wide)
theorem rowsIn_wr {rd : Option Nat} {n : Nat} {P : Program} {row : String} {args : Array Value} {w : World} {R : Value -> World -> Prop} (h : Rows P row args w R) : RowsIn (wr rd) n P row args w R :=
 (show RowsIn Fence.wide n P row args w R from fun c cs _ => let ⟨v, w', r, s⟩ := h c cs; ⟨v, w', r, stepsIn_wide.2 s⟩)

/-- What an operation that is no defer statement comes to within the fence, in a round or not. -/
theorem wpIn_of_wp {rd : Option Nat} {n : Nat} {P : Program} {o : Oper} {a : Act} {w : World} {K : Act -> World -> Prop} {Q : Exit -> Act -> World -> Prop} (hnd : ∀ c, o.op ≠ .defer c) (h : o.wp P a w K Q) : o.wpIn (wr rd) n P a w K Q := by
 refine ⟨fun _ _ => trivial, ?_⟩
 have e : o.semAt (wr rd).round a.eval = execOp a.eval o := by
  cases rd with
  | none => rfl
  | some l => exact Oper.semAt_some l _ _ hnd
 rw [e]
 unfold Oper.wp at h
 generalize (execOp a.eval o).run P w = r at h ⊢
 cases r with
 | ok x w' =>
  cases x <;> simp only [Oper.upon, Oper.uponIn] at h ⊢ <;>
   first
   | exact h
   | exact ⟨fun hd => (by cases hd), callsIn_wr.2 h⟩
   | exact ⟨fun hd => (by cases hd), rowsIn_wr h⟩
 | halt x w' => cases x <;> simp only [Oper.upon, Oper.uponIn] at h ⊢ <;> exact h
end
section
section
variable {P : Program} {w w' : World} {ok ok' : Nat -> Prop} {β β' : Nat -> Nat × Nat} {bx bx' : Nat -> Option Ent} {ops : Array Oper}
variable {F : Fr P} {st st' : St} {a a' : Act} {env : Env} {o : Oper}

/-- The blocks of boxes and rows. -/
def OwnB (st : St) (β : Nat -> Nat × Nat) (b : Nat) : Prop := ∃ i e, st.bx i = some e /\ e.live = true /\ (β i).1 = b

theorem HeapOK.still (H : HeapOK P w ok β bx) (hsz : w.heap.size <= w'.heap.size) (hown : ∀ i e, bx i = some e -> e.live = true -> w'.heap[(β i).1]? = w.heap[(β i).1]?) (hsame : ∀ b, ok b -> w'.heap[b]? = w.heap[b]?) : HeapOK P w' ok β bx := by
 refine ⟨fun i e hi hl => Nat.lt_of_lt_of_le (H.siz i e hi hl) hsz, H.sep, H.inj, fun i e hi h0 hc => ?_, fun i e v hi h0 hc => ?_, fun i e hi h0 => ?_, H.nb, H.rc⟩
 ·obtain ⟨cs, h1, n, h2⟩ := H.box i e hi h0 hc
  exact ⟨cs, by rw [hown i e hi (live_box h0)]; exact h1, n, h2.move hsame (fun _ h => h)⟩
 ·obtain ⟨h1, val, h2, h3, h4⟩ := H.con i e v hi h0 hc
  exact ⟨h1, val, by rw [hown i e hi (live_box h0)]; exact h2, h3, h4.move hsame (fun _ h => h)⟩
 ·exact (H.row i e hi h0).move (fun hl => hown i e hi hl) hsame (fun _ h => h)

/-- What neither data nor a box or row stands in may turn. -/
theorem RelX.frame (R : RelX P F st ok β a w) {Z : Nat -> Prop} (h : BelowX Z w.heap.size w w') (hk : ∀ b, Z b -> ¬ ok b) (ho : ∀ b, Z b -> ¬ OwnB st β b) (hf : ∀ b, Z b -> F.base <= b \/ F.X b) : RelX P F st ok β a w' := by
 have hsame : ∀ b, ok b -> w'.heap[b]? = w.heap[b]? := fun b hb => h.block b (R.okb b hb).1 (fun hz => hk b hz hb)
 have hown : ∀ i e, st.bx i = some e -> e.live = true -> w'.heap[(β i).1]? = w.heap[(β i).1]? := fun i e hi hl => h.block _ (R.hp.siz i e hi hl) (fun hz => ho _ hz ⟨i, e, hi, hl, rfl⟩)
 refine ⟨R.len, R.df, R.hp.still h.size hown hsame, R.bel.trans ⟨h.os, h.tape, h.output, h.size, fun k hkb hx => h.block k (Nat.lt_of_lt_of_le hkb R.bas) (fun hz => ?_)⟩, Nat.le_trans R.bas h.size, fun b hb => ⟨Nat.lt_of_lt_of_le (R.okb b hb).1 h.size, (R.okb b hb).2⟩, R.own, R.hdr, fun i => (R.slot i).move hsame (fun _ h => h), R.nd⟩
 rcases hf k hz with h1 | h1
 ·exact absurd hkb (Nat.not_lt.2 h1)
 ·exact hx h1

/-- The frame at this moment. -/
def Fr.now (R : RelX P F st ok β a w) : Fr P := ⟨w.heap.size, w, ok, OwnB st β, F.pv, F.pt, R.tabs (fun _ ⟨i, e, hi, hl, hb⟩ => hb ▸ R.own i e hi hl), F.df⟩
theorem RelX.rebase (R : RelX P F st ok β a w) : RelX P (Fr.now R) st ok β a w :=
 ⟨R.len, R.df, R.hp, BelowX.refl _ _ _, Nat.le_refl _, fun b hb => ⟨(R.okb b hb).1, .inl hb⟩, fun i e hi hl => .inr ⟨i, e, hi, hl, rfl⟩, R.hdr, R.slot, R.nd⟩
theorem RelX.unbase (R : RelX P F st ok β a w) (R' : RelX P (Fr.now R) st' ok' β' a' w') : RelX P F st' ok' β' a' w' := by
 have hX : ∀ b, OwnB st β b -> F.base <= b \/ F.X b := fun _ ⟨i, e, hi, hl, hb⟩ => hb ▸ R.own i e hi hl
 refine ⟨R'.len, R'.df, R'.hp, R.bel.trans ⟨R'.bel.os, R'.bel.tape, R'.bel.output, R'.bel.size, fun k hk hx => R'.bel.block k (Nat.lt_of_lt_of_le hk R.bas) (fun hz => ?_)⟩, Nat.le_trans R.bas R'.bas, fun b hb => ⟨(R'.okb b hb).1, ?_⟩, fun i e hi hl => ?_, R'.hdr, R'.slot, R'.nd⟩
 ·rcases hX k hz with h1 | h1
  ·exact absurd hk (Nat.not_lt.2 h1)
  ·exact hx h1
 ·rcases (R'.okb b hb).2 with h1 | h1 | h1
  ·exact (R.okb b h1).2
  ·exact .inr (.inl (Nat.le_trans R.bas h1))
  ·exact .inr (hX b h1)
 ·rcases R'.own i e hi hl with h1 | h1
  ·exact .inl (Nat.le_trans R.bas h1)
  ·exact hX _ h1
/-- What turned between two moments. -/
theorem RelX.turned (R : RelX P F st ok β a w) (R' : RelX P (Fr.now R) st' ok' β' a' w') : BelowX (OwnB st β) w.heap.size w w' /\ (∀ b, ok' b -> ok b \/ w.heap.size <= b \/ OwnB st β b) /\ (∀ b, OwnB st' β' b -> w.heap.size <= b \/ OwnB st β b) :=
 ⟨R'.bel, fun b hb => (R'.okb b hb).2, fun b ⟨i, e, hi, hl, hb⟩ => hb ▸ R'.own i e hi hl⟩

/-- Something foreign: of what state it is in, in what world, which blocks are its own (O), which it only reads (K); it lasts where those stay, and only blocks of Z turn. -/
structure JJ (σ : Type) where
 J : σ -> World -> (Nat -> Prop) -> (Nat -> Prop) -> Prop
 Z : Nat -> Prop
 U : Nat -> Prop
 fr : ∀ x w w' O K, J x w O K -> BelowX (fun b => Z b /\ ¬ O b /\ ¬ K b) w.heap.size w w' -> J x w' O K

def markOf (d : Nat) : Deferred := { target := .collected d, args := #[] }
def Fr.with (F : Fr P) (ms : List Nat) : Fr P := { F with df := ms.map markOf }
theorem RelX.withM (R : RelX P F st ok β a w) (ms : List Nat) (h : a'.defers = ms.map markOf) (ht : a'.tmps = a.tmps) : RelX P (F.with ms) st ok β a' w :=
 ⟨by rw [ht]; exact R.len, h, R.hp, R.bel, R.bas, R.okb, R.own, R.hdr, fun i => by rw [ht]; exact R.slot i, R.nd⟩

/-- From where: which blocks may be seen (V), what the others held then (W0), what was foreign then (O0). -/
structure Cx where
 V : Nat -> Prop
 W0 : World
 O0 : Nat -> Prop

/-- A state, the machine's, and something foreign. -/
structure RelJX {σ : Type} (P : Program) (F : Fr P) (J : JJ σ) (C : Cx) (st : St) (x : σ) (O K : Nat -> Prop) (ok : Nat -> Prop) (β : Nat -> Nat × Nat) (ms : List Nat) (a : Act) (w : World) : Prop where
 j : J.J x w O K
 r : RelX P (F.with ms) st ok β a w
 lt : ∀ b, O b \/ K b -> b < w.heap.size
 ko : ∀ b, ok b -> ¬ O b
 wo : ∀ b, OwnB st β b -> ¬ O b /\ ¬ K b /\ J.Z b
 of : ∀ b, O b -> F.base <= b \/ F.X b
 mks : ∀ d ∈ ms, w.heap[d]? = some (.deferred (some [])) /\ ¬ ok d /\ ¬ OwnB st β d /\ ¬ O d /\ ¬ K d /\ F.base <= d /\ J.Z d /\ C.V d
 nd : ms.Nodup
 zz : ∀ b, w.heap.size <= b -> J.Z b
 vv : ∀ b, ok b \/ OwnB st β b \/ O b \/ K b -> C.V b
 vn : ∀ b, C.W0.heap.size <= b -> C.V b
 vs : C.W0.heap.size <= w.heap.size
 nv : ∀ b, ¬ C.V b -> w.heap[b]? = C.W0.heap[b]?
 om : ∀ b, C.O0 b -> O b
 vu : (∀ b, ok b \/ OwnB st β b -> J.U b) /\ ∀ b, C.W0.heap.size <= b -> J.U b
def RelJ {σ : Type} (P : Program) (F : Fr P) (J : JJ σ) (C : Cx) (ms : List Nat) (st : St) (x : σ) (a : Act) (w : World) : Prop := ∃ O K ok β, RelJX P F J C st x O K ok β ms a w

variable {σ : Type} {J : JJ σ} {C : Cx} {x x' : σ} {O K : Nat -> Prop} {ms : List Nat}

/-- One step that is the evaluator's own. -/
theorem RelJX.own (R : RelJX P F J C st x O K ok β ms a w) (R' : RelX P (Fr.now R.r) st' ok' β' a' w') : RelJX P F J C st' x O K ok' β' ms a' w' := by
 obtain ⟨h1, h2, h3⟩ := R.r.turned R'
 have hlt : ∀ b, O b \/ K b -> b < w.heap.size := R.lt
 refine ⟨J.fr x w w' O K R.j ⟨h1.os, h1.tape, h1.output, h1.size, fun k hk hz => h1.block k hk (fun ho => hz ?_)⟩, R.r.unbase R', fun b hb => Nat.lt_of_lt_of_le (R.lt b hb) h1.size, fun b hb hO => ?_, fun b hb => ?_, R.of, fun d hd => ?_, R.nd, fun b hb => R.zz b (Nat.le_trans h1.size hb), fun b hb => ?_, R.vn, Nat.le_trans R.vs h1.size, fun b hb => ?_, R.om, fun b hb => ?_, R.vu.2⟩
 ·obtain ⟨g1, g2, g3⟩ := R.wo k ho
  exact ⟨g3, g1, g2⟩
 ·rcases h2 b hb with h | h | h
  ·exact R.ko b h hO
  ·have := hlt b (.inl hO); omega
  ·exact (R.wo b h).1 hO
 ·rcases h3 b hb with h | h
  ·exact ⟨fun hO => (by have := hlt b (.inl hO); omega), fun hK => (by have := hlt b (.inr hK); omega), R.zz b h⟩
  ·exact R.wo b h
 ·obtain ⟨g1, g2, g3, g4, g5, g6, g7⟩ := R.mks d hd
  have hdlt : d < w.heap.size := (Array.getElem?_eq_some_iff.1 g1).1
  refine ⟨by rw [h1.block d hdlt g3]; exact g1, fun hb => ?_, fun hb => ?_, g4, g5, g6, g7⟩
  ·rcases h2 d hb with h | h | h
   ·exact g2 h
   ·omega
   ·exact g3 h
  ·rcases h3 d hb with h | h
   ·omega
   ·exact g3 h
 ·rcases hb with hb | hb | hb | hb
  ·rcases h2 b hb with h | h | h
   ·exact R.vv b (.inl h)
   ·exact R.vn b (Nat.le_trans R.vs h)
   ·exact R.vv b (.inr (.inl h))
  ·rcases h3 b hb with h | h
   ·exact R.vn b (Nat.le_trans R.vs h)
   ·exact R.vv b (.inr (.inl h))
  ·exact R.vv b (.inr (.inr (.inl hb)))
  ·exact R.vv b (.inr (.inr (.inr hb)))
 ·have hlt : b < w.heap.size := Nat.lt_of_not_le (fun hh => hb (R.vn b (Nat.le_trans R.vs hh)))
  rw [h1.block b hlt (fun hz => hb (R.vv b (.inr (.inl hz))))]
  exact R.nv b hb
 ·rcases hb with hb | hb
  ·rcases h2 b hb with h | h | h
   ·exact R.vu.1 b (.inl h)
   ·exact R.vu.2 b (Nat.le_trans R.vs h)
   ·exact R.vu.1 b (.inr h)
  ·rcases h3 b hb with h | h
   ·exact R.vu.2 b (Nat.le_trans R.vs h)
   ·exact R.vu.1 b (.inr h)

/-- The same state behind a turn of blocks that are nobody's. -/
theorem RelJX.frame (R : RelJX P F J C st x O K ok β ms a w) {Z : Nat -> Prop} (h : BelowX Z w.heap.size w w') (hk : ∀ b, Z b -> ¬ ok b /\ ¬ OwnB st β b /\ ¬ O b /\ ¬ K b /\ J.Z b /\ (F.base <= b \/ F.X b) /\ b ∉ ms /\ C.V b) : RelJX P F J C st x O K ok β ms a w' := by
 refine ⟨J.fr x w w' O K R.j ⟨h.os, h.tape, h.output, h.size, fun k hkb hz => h.block k hkb (fun ho => hz ⟨(hk k ho).2.2.2.2.1, (hk k ho).2.2.1, (hk k ho).2.2.2.1⟩)⟩, R.r.frame h (fun b hb => (hk b hb).1) (fun b hb => (hk b hb).2.1) (fun b hb => (hk b hb).2.2.2.2.2.1), fun b hb => Nat.lt_of_lt_of_le (R.lt b hb) h.size, R.ko, R.wo, R.of, fun d hd => ?_, R.nd, fun b hb => R.zz b (Nat.le_trans h.size hb), R.vv, R.vn, Nat.le_trans R.vs h.size, fun b hb => ?_, R.om, R.vu⟩
 rotate_left
 ·have hlt : b < w.heap.size := Nat.lt_of_not_le (fun hh => hb (R.vn b (Nat.le_trans R.vs hh)))
  rw [h.block b hlt (fun hz => hb (hk b hz).2.2.2.2.2.2.2)]
  exact R.nv b hb
 obtain ⟨g1, g2, g3, g4, g5, g6, g7⟩ := R.mks d hd
 exact ⟨by rw [h.block d (Array.getElem?_eq_some_iff.1 g1).1 (fun hz => (hk d hz).2.2.2.2.2.2.1 hd)]; exact g1, g2, g3, g4, g5, g6, g7⟩

/-- .. and from there on. -/
theorem RelJX.frame2 (R : RelJX P F J C st x O K ok β ms a w) {Z : Nat -> Prop} (h : BelowX Z w.heap.size w w') (hk : ∀ b, Z b -> ¬ ok b /\ ¬ OwnB st β b /\ ¬ O b /\ ¬ K b /\ J.Z b /\ (F.base <= b \/ F.X b) /\ b ∉ ms) : RelJX P F J ⟨C.V, w', C.O0⟩ st x O K ok β ms a w' := by
 refine ⟨J.fr x w w' O K R.j ⟨h.os, h.tape, h.output, h.size, fun k hkb hz => h.block k hkb (fun ho => hz ⟨(hk k ho).2.2.2.2.1, (hk k ho).2.2.1, (hk k ho).2.2.2.1⟩)⟩, R.r.frame h (fun b hb => (hk b hb).1) (fun b hb => (hk b hb).2.1) (fun b hb => (hk b hb).2.2.2.2.2.1), fun b hb => Nat.lt_of_lt_of_le (R.lt b hb) h.size, R.ko, R.wo, R.of, fun d hd => ?_, R.nd, fun b hb => R.zz b (Nat.le_trans h.size hb), R.vv, fun b hb => R.vn b (Nat.le_trans R.vs (Nat.le_trans h.size hb)), Nat.le_refl _, fun _ _ => rfl, R.om, R.vu.1, fun b hb => R.vu.2 b (Nat.le_trans R.vs (Nat.le_trans h.size hb))⟩
 obtain ⟨g1, g2, g3, g4, g5, g6, g7⟩ := R.mks d hd
 exact ⟨by rw [h.block d (Array.getElem?_eq_some_iff.1 g1).1 (fun hz => (hk d hz).2.2.2.2.2.2 hd)]; exact g1, g2, g3, g4, g5, g6, g7⟩

/-- More blocks that data stands in. -/
theorem HeapOK.more (H : HeapOK P w ok β bx) (hk : ∀ b, ok b -> ok' b) (hs : ∀ b i e, ok' b -> bx i = some e -> e.live = true -> (β i).1 ≠ b) : HeapOK P w ok' β bx := by
 refine ⟨H.siz, hs, H.inj, fun i e hi h0 hc => ?_, fun i e v hi h0 hc => ?_, fun i e hi h0 => (H.row i e hi h0).move (fun _ => rfl) (fun _ _ => rfl) hk, H.nb, H.rc⟩
 ·obtain ⟨cs, h1, n, h2⟩ := H.box i e hi h0 hc
  exact ⟨cs, h1, n, h2.move (fun _ _ => rfl) hk⟩
 ·obtain ⟨h1, val, h2, h3, h4⟩ := H.con i e v hi h0 hc
  exact ⟨h1, val, h2, h3, h4.move (fun _ _ => rfl) hk⟩
theorem RelX.more (R : RelX P F st ok β a w) (hk : ∀ b, ok b -> ok' b) (hb : ∀ b, ok' b -> b < w.heap.size /\ (F.okA b \/ F.base <= b \/ F.X b)) (hs : ∀ b, ok' b -> ¬ OwnB st β b) : RelX P F st ok' β a w :=
 ⟨R.len, R.df, R.hp.more hk (fun b i e h1 h2 h3 h4 => hs b h1 ⟨i, e, h2, h3, h4⟩), R.bel, R.bas, hb, R.own, R.hdr, fun i => (R.slot i).move (fun _ _ => rfl) hk, R.nd⟩

open Classical in
/-- A world with some blocks as in another one. -/
noncomputable def mixW (S : Nat -> Prop) (w w' : World) : World := { w with heap := Array.ofFn fun i : Fin w.heap.size => if S i.1 then (w'.heap[i.1]?).getD w.heap[i] else w.heap[i] }
theorem mix_size (S : Nat -> Prop) (w w' : World) : (mixW S w w').heap.size = w.heap.size := by simp [mixW]
theorem mix_in {S : Nat -> Prop} {w w' : World} (hs : w.heap.size <= w'.heap.size) {k : Nat} (hk : k < w.heap.size) (h : S k) : (mixW S w w').heap[k]? = w'.heap[k]? := by
 have h2 : k < w'.heap.size := Nat.lt_of_lt_of_le hk hs
 simp [mixW, hk, h, h2]
theorem mix_out {S : Nat -> Prop} {w w' : World} {k : Nat} (hk : k < w.heap.size) (h : ¬ S k) : (mixW S w w').heap[k]? = w.heap[k]? := by
 simp [mixW, hk, h]

/-- A step of the evaluator, beside something foreign. -/
theorem opStepJ_sound {rd : Option Nat} {n : Nat} {Q : Exit -> Act -> World -> Prop} (henv : EnvOK P env) (hnd : ∀ c, o.op ≠ .defer c) (R : RelJ P F J C ms st x a w) {i : Nat} (hi : ops[i]? = some o) (h : opStep P env ops o st = some st') :
  wpOpIn (wr rd) n P ops Q i (RelJ P F J C ms st' x) a w := by
 obtain ⟨O, K, ok, β, R⟩ := R
 unfold wpOpIn
 rw [hi]
 simp only
 rcases step_cases h with ⟨ha, rfl⟩ | ⟨ha, hc, he⟩
 ·rw [asked_wanted R.r ha]
  simp only [Bool.false_eq_true, if_false]
  refine ⟨fun _ _ => trivial, O, K, ok, β, R.own (st' := st.put o.dst undA) ?_⟩
  exact R.r.rebase.put repAV_undA (live_of_refs rfl) o.dst
 ·rw [asked_wanted R.r ha]
  simp only [if_true]
  refine wpIn_of_wp hnd (Oper.wp_mono ?_ (evOp_sound henv R.r.rebase hc he))
  rintro a' w' ⟨ok', β', R'⟩
  exact ⟨O, K, ok', β', R.own R'⟩
end
end
section
/-- A store of what an append gives: a row's handle, into a variable that holds one. -/
def isHS (ops : Array Oper) (o : Oper) : Bool := match o.op with
 | .store _ (.tmp _) (.tmp y) => ops.any fun p => p.dst == some y && (match p.op with | .call c => (appOf c).isSome || (appNil c).isSome | _ => false)
 | _ => false
def hsOK (P : Program) (o : Oper) (st : St) : Bool := match o.op with
 | .store t x y => o.guard.isNone && (opd P st t y).tag == 2 && (match st.bx (opd0 P st o x).id with | some e => e.c.isSome | none => false)
 | _ => false
/-- Two that may be taken either way round: what is known of them so, or a look at a row, or a store into one, and such a store behind it. -/
def zp (ops : Array Oper) (x y : Oper) : Bool := x.apart ops y && x.guard.isNone && y.guard.isNone && isHS ops y && !isHS ops x && match x.op, y.op with
 | .indexAddr _ _ _, _ => true
 | .store t _ _, .store t' _ _ => t != t'
 | _, _ => false
def cmY (ops : Array Oper) (x y : Oper) : Bool := comm ops x y || zp ops x y
section
variable {P : Program} {ops : Array Oper} {st st' s1 s12 : St} {env : Env} {o oi oj : Oper}

/-- A store, where no struct is held field by field: which entry it writes; and that it does so wherever that entry is as it is. -/
theorem store_run (hp : env.hp = false) (hv : env.lv = false) {t : TypeId} {x y : Operand} (hop : o.op = .store t x y) (h : evOp P env o st = some s1) :
  ∃ i e, s1 = st.upd i e /\ (e.c = none \/ e.ty = t) /\ o.dst = none /\ ∀ bx', bx' i = st.bx i -> evOp P env o ⟨st.sl, bx'⟩ = some (St.upd ⟨st.sl, bx'⟩ i e) := by
 have hev : ∀ bx', evOp P env o ⟨st.sl, bx'⟩ = if o.dst.isNone then (if (opd P st t y).tag == 1 && (opd P st t y).ty == t then stA P ⟨st.sl, bx'⟩ t (opd0 P st o x) (opd P st t y).d else stC P ⟨st.sl, bx'⟩ t (opd0 P st o x) (opd P st t y)) else none := by
  intro bx'
  have e1 : opd P ⟨st.sl, bx'⟩ t y = opd P st t y := by cases y <;> rfl
  have e2 : opd0 P ⟨st.sl, bx'⟩ o x = opd0 P st o x := by cases x <;> rfl
  unfold evOp
  simp only [hop, hp, hv, Bool.or_false, Bool.false_eq_true, if_false, e1, e2]
 have h0 := hev st.bx
 rw [show (⟨st.sl, st.bx⟩ : St) = st from rfl, h] at h0
 cases hd : o.dst with
 | some d => rw [hd] at h0; simp at h0
 | none =>
  rw [hd] at h0 hev
  simp only [Option.isNone_none, if_true] at h0 hev
  cases hc : ((opd P st t y).tag == 1 && (opd P st t y).ty == t) with
  | true =>
   rw [hc] at h0 hev
   simp only [if_true] at h0 hev
   unfold stA at h0 hev
   split at h0
   rotate_left
   ·cases h0
   rename_i ht
   simp only [ht, if_true] at hev
   split at h0
   rotate_left
   ·cases h0
   rename_i e he
   split at h0
   ·rename_i c1
    split at h0
    ·rename_i c2
     split at h0
     ·rename_i c3
      split at h0
      ·rename_i c4
       cases h0
       exact ⟨_, _, rfl, .inl rfl, rfl, fun bx' hb => by rw [hev]; simp only [hb, he, c1, c2, c3, c4, if_true] <;> rfl⟩
      ·cases h0
     ·rename_i k c3
      split at h0
      ·cases h0
      ·rename_i c4
       split at h0
       ·rename_i f hf
        split at h0
        ·rename_i c5
         cases h0
         exact ⟨_, _, rfl, .inl rfl, rfl, fun bx' hb => by rw [hev]; simp only [hb, he, c1, c2, c3, c4, hf, c5, if_true] <;> rfl⟩
        ·cases h0
       ·cases h0
    ·rename_i c2
     split at h0
     ·rename_i c3
      cases h0
      exact ⟨_, _, rfl, .inl rfl, rfl, fun bx' hb => by rw [hev]; simp only [hb, he, c1, c2, c3, if_true] <;> rfl⟩
     ·cases h0
   ·rename_i c1
    split at h0
    ·rename_i c2
     obtain ⟨e', he', heq⟩ := Option.map_eq_some_iff.1 h0.symm
     subst heq
     refine ⟨_, e', rfl, .inl ?_, rfl, fun bx' hb => by rw [hev]; simp only [hb, he, c1, c2, if_true, he', Option.map_some] <;> rfl⟩
     unfold stE at he'
     repeat' split at he'
     all_goals first | (cases he'; done) | (cases he'; rfl)
    ·cases h0
  | false =>
   rw [hc] at h0 hev
   simp only [Bool.false_eq_true, if_false] at h0 hev
   unfold stC at h0 hev
   split at h0
   rotate_left
   ·cases h0
   rename_i c1
   simp only [c1, if_true] at hev
   split at h0
   rotate_left
   ·cases h0
   rename_i e he
   split at h0
   ·rename_i c2
    cases h0
    exact ⟨_, _, rfl, .inr rfl, rfl, fun bx' hb => by rw [hev]; simp only [hb, he, c2, if_true] <;> rfl⟩
   ·cases h0

theorem isHS_op (h : isHS ops o = true) : ∃ t a y, o.op = .store t (.tmp a) (.tmp y) := by
 unfold isHS at h
 split at h
 ·rename_i t a y hop; exact ⟨t, a, y, hop⟩
 ·cases h

/-- Such a store writes a variable. -/
theorem store_hs (hp : env.hp = false) (hv : env.lv = false) {t : TypeId} {a y : Nat} (hop : o.op = .store t (.tmp a) (.tmp y)) (hk : hsOK P o st = true) (h : evOp P env o st = some s1) :
  ∃ i e0, i = (opd0 P st o (.tmp a)).id /\ st.bx i = some e0 /\ e0.row = 0 /\ e0.ty = t /\ e0.c.isSome = true /\ s1 = st.upd i ⟨t, .nil, 0, some (opd P st t (.tmp y))⟩ /\ ∀ bx', bx' i = st.bx i -> evOp P env o ⟨st.sl, bx'⟩ = some (St.upd ⟨st.sl, bx'⟩ i ⟨t, .nil, 0, some (opd P st t (.tmp y))⟩) := by
 unfold hsOK at hk
 rw [hop] at hk
 simp only [Bool.and_eq_true, beq_iff_eq] at hk
 obtain ⟨⟨_, hy⟩, hc⟩ := hk
 have hev : ∀ bx', evOp P env o ⟨st.sl, bx'⟩ = if o.dst.isNone then stC P ⟨st.sl, bx'⟩ t (opd0 P st o (.tmp a)) (opd P st t (.tmp y)) else none := by
  intro bx'
  have e1 : opd P ⟨st.sl, bx'⟩ t (.tmp y) = opd P st t (.tmp y) := rfl
  have e2 : opd0 P ⟨st.sl, bx'⟩ o (.tmp a) = opd0 P st o (.tmp a) := rfl
  unfold evOp
  simp only [hop, hp, hv, Bool.or_false, Bool.false_eq_true, if_false, e1, e2, hy]
  rfl
 have h0 := hev st.bx
 rw [show (⟨st.sl, st.bx⟩ : St) = st from rfl, h] at h0
 cases hd : o.dst with
 | some d => rw [hd] at h0; simp at h0
 | none =>
  rw [hd] at h0 hev
  simp only [Option.isNone_none, if_true] at h0 hev
  unfold stC at h0 hev
  split at h0
  rotate_left
  ·cases h0
  rename_i c1
  simp only [c1, if_true] at hev
  split at h0
  rotate_left
  ·cases h0
  rename_i e he
  split at h0
  ·rename_i c2
   have hcond := c2
   simp only [Bool.and_eq_true, beq_iff_eq] at hcond
   cases h0
   rw [he] at hc
   exact ⟨_, e, rfl, he, hcond.1.1.1.2, hcond.1.1.2, hc, rfl, fun bx' hb => by rw [hev]; simp only [hb, he, c2, if_true]⟩
  ·cases h0

theorem hsOK_same (h : Same o s1 st) (hb : s1.bx = st.bx) : hsOK P o s1 = hsOK P o st := by
 unfold hsOK
 cases hop : o.op with
 | store t x y =>
  have hx : opd0 P s1 o x = opd0 P st o x := opd_same h (by rw [hop]; simp [Op.operands]) _
  have hy : opd P s1 t y = opd P st t y := opd_same h (by rw [hop]; simp [Op.operands]) _
  simp only [hx, hy, hb]
 | _ => rfl

theorem opStep_free (hg : o.guard = none) : opStep P env ops o st = if chkOp P env st o then evOp P env o st else none := by
 unfold opStep asked
 rw [hg]

theorem rowX_upd0 {i : Nat} {e0 e : Ent} {x : Operand} {t : TypeId} (hi : st.bx i = some e0) (h0 : e0.row = 0) (h1 : e.row = 0) : rowX (st.upd i e) x t = rowX st x t := by
 unfold rowX
 cases x with
 | tmp s =>
  simp only
  unfold rowOf
  simp only [upd_get, upd_bx]
  by_cases hs : (st.get s).id = i
  ·rw [hs, if_pos rfl, hi]
   simp [h0, h1]
  ·rw [if_neg hs]; rfl
 | _ => rfl
theorem isBoxB_upd0 {i j : Nat} {e0 e : Ent} (hi : st.bx i = some e0) (h0 : e0.row = 0) (h1 : e.row = 0) : isBoxB (st.upd i e) j = isBoxB st j := by
 unfold isBoxB
 simp only [upd_bx]
 by_cases hs : j = i
 ·subst hs; rw [if_pos rfl, hi]; simp [h0, h1]
 ·rw [if_neg hs]

theorem index_upd (hpl : PlainE env) {t : TypeId} {x k : Operand} (hop : oi.op = .indexAddr t x k) {i : Nat} {e0 e : Ent} (hi : st.bx i = some e0) (h0 : e0.row = 0) (h1 : e.row = 0) :
  chkOp P env (st.upd i e) oi = chkOp P env st oi /\ evOp P env oi (st.upd i e) = (evOp P env oi st).map fun s => s.upd i e := by
 have hr := rowX_upd0 (x := x) (t := t) hi h0 h1
 have ho : ∀ u z, opd P (st.upd i e) u z = opd P st u z := fun u z => opd_upd u z
 have ho0 : ∀ z, opd0 P (st.upd i e) oi z = opd0 P st oi z := fun z => opd_upd _ z
 have hb := fun j => isBoxB_upd0 (j := j) hi h0 h1
 have hv : evVal P env oi (st.upd i e) = evVal P env oi st := by
  unfold evVal
  simp only [hop, ho, ho0]
 have hp : ∀ v, (st.upd i e).put oi.dst v = (st.put oi.dst v).upd i e := fun v => (upd_put).symm
 refine ⟨?_, ?_⟩
 ·unfold chkOp
  simp only [hop, hr, ho]
 ·unfold evOp
  simp only [hop, hr, ho, ho0, hb, hv, hp]
  split
  ·split
   ·split <;> rfl
   ·rfl
  ·split
   ·split
    ·rfl
    ·cases evVal P env oi st <;> rfl
   ·cases evVal P env oi st <;> rfl

/-- A look at a row, or a store into one, and behind it a store of a handle. -/
theorem diamondZ (hpl : PlainE env) (hv : env.lv = false) (hz : zp ops oi oj = true) (hs : hsOK P oj s1 = true) (h1 : opStep P env ops oi st = some s1) (h2 : opStep P env ops oj s1 = some s12) :
  ∃ s2, opStep P env ops oj st = some s2 /\ opStep P env ops oi s2 = some s12 /\ hsOK P oj st = true := by
 unfold zp at hz
 simp only [Bool.and_eq_true, Option.isNone_iff_eq_none] at hz
 obtain ⟨⟨⟨⟨⟨hap, gi⟩, gj⟩, hhs⟩, _⟩, hcase⟩ := hz
 obtain ⟨a1, a2, a3⟩ := Oper.apart_spec hap
 obtain ⟨t', a, y, hoj⟩ := isHS_op hhs
 have hcj : ∀ s, chkOp P env s oj = true := fun s => by unfold chkOp; rw [hoj]
 have hej : ∀ s, opStep P env ops oj s = evOp P env oj s := fun s => by rw [opStep_free gj, hcj]; rfl
 have hp : env.hp = false := hpl.1
 cases hoi : oi.op with
 | indexAddr t x k =>
  have li : memCls oi.op <= 1 := by rw [hoi]; exact Nat.le_refl 1
  have h1' := h1
  rw [opStep_free gi] at h1
  split at h1
  rotate_left
  ·cases h1
  rename_i hci
  obtain ⟨v, rfl⟩ := evOp_shape hpl li h1
  have lj : memCls oj.op <= 3 := by rw [hoj]; exact Nat.le_refl _
  have a4 : ∀ d, oj.dst = some d -> oi.dst ≠ some d := fun d hd hd' => a2 d hd' hd
  have hs0 : hsOK P oj st = true := by rw [<- hsOK_same (same_put a1) put_bx]; exact hs
  rw [opStep_put hpl lj a1 a2] at h2
  obtain ⟨s2, hs2, rfl⟩ := Option.map_eq_some_iff.1 h2
  refine ⟨s2, hs2, ?_, hs0⟩
  rw [hej] at hs2
  obtain ⟨i, e0, _, hi, h0, _, _, rfl, _⟩ := store_hs hp hv hoj hs0 hs2
  obtain ⟨g1, g2⟩ := index_upd (P := P) (e := ⟨t', .nil, 0, some (opd P st t' (.tmp y))⟩) hpl hoi hi h0 rfl
  rw [opStep_free gi, g1, hci, g2, h1]
  simp only [if_true, Option.map_some, upd_put]
 | store t x z =>
  rw [hoi, hoj] at hcase
  have hne : t ≠ t' := by simpa using hcase
  have hci : ∀ s, chkOp P env s oi = true := fun s => by unfold chkOp; rw [hoi]
  have hei : ∀ s, opStep P env ops oi s = evOp P env oi s := fun s => by rw [opStep_free gi, hci]; rfl
  rw [hei] at h1
  rw [hej] at h2
  obtain ⟨i6, e6, rfl, k6, d6, r6⟩ := store_run hp hv hoi h1
  obtain ⟨i7, e0, hid, b7, w7, y7, c7, hs12, r7⟩ := store_hs hp hv hoj hs h2
  have hii : i7 ≠ i6 := by
   intro hh
   subst hh
   rw [upd_bx, if_pos rfl] at b7
   cases b7
   rcases k6 with k6 | k6
   ·rw [k6] at c7; cases c7
   ·exact hne (k6.symm.trans y7)
  have hb7 : st.bx i7 = some e0 := by rw [upd_bx, if_neg hii] at b7; exact b7
  have g7 := r7 st.bx (by rw [upd_bx, if_neg hii])
  have g7' : evOp P env oj st = some (st.upd i7 ⟨t', .nil, 0, some (opd P st t' (.tmp y))⟩) := g7
  refine ⟨_, (hej st).trans g7', ?_, ?_⟩
  ·have g6 := r6 (st.upd i7 ⟨t', .nil, 0, some (opd P st t' (.tmp y))⟩).bx (by rw [upd_bx, if_neg (Ne.symm hii)])
   rw [hei, hs12]
   refine g6.trans ?_
   exact congrArg some (upd_comm (Ne.symm hii))
  ·unfold hsOK at hs ⊢
   rw [hoj] at hs ⊢
   simp only [Bool.and_eq_true] at hs ⊢
   refine ⟨hs.1, ?_⟩
   have e1 : (opd0 P st oj (.tmp a)).id = i7 := hid.symm
   rw [e1, hb7]
   exact c7
 | _ => simp [hoi] at hcase

theorem step_put0 (hpl : PlainE env) (hm : memCls o.op = 0) (h : opStep P env ops o st = some s1) : ∃ u, s1 = st.put o.dst u := by
 rcases step_cases h with ⟨_, rfl⟩ | ⟨_, _, he⟩
 ·exact ⟨_, rfl⟩
 ·exact evOp_shape hpl (by omega) he
theorem isHS_cls (h : isHS ops o = true) : memCls o.op = 3 := by
 obtain ⟨t, a, y, hop⟩ := isHS_op h
 rw [hop]
 rfl
/-- Steps in which a store of a handle is looked at first. -/
def chkHS (P : Program) (ops : Array Oper) (o : Oper) (st : St) : Bool := !isHS ops o || hsOK P o st
theorem diamond_cm (hi : nt oi = true) (hj : nt oj = true) (hc : cmY ops oi oj = true) (hn : ND st) (ki : chkHS P ops oi st = true) (h1 : opStep P env.half ops oi st = some s1) (kj : chkHS P ops oj s1 = true) (h2 : opStep P env.half ops oj s1 = some s12) :
  ∃ s2, chkHS P ops oj st = true /\ opStep P env.half ops oj st = some s2 /\ chkHS P ops oi s2 = true /\ opStep P env.half ops oi s2 = some s12 := by
 unfold cmY at hc
 rw [Bool.or_eq_true] at hc
 rcases hc with hc | hc
 ·obtain ⟨s2, g1, g2⟩ := diamond_half hi hj hc hn h1 h2
  have hc' := hc
  unfold comm at hc'
  simp only [Bool.and_eq_true, Bool.not_eq_true', Bool.and_eq_false_iff, beq_eq_false_iff_ne, decide_eq_false_iff_not] at hc'
  obtain ⟨⟨⟨⟨hap, li⟩, lj⟩, hc1⟩, hc2⟩ := hc'
  obtain ⟨a1, a2, a3⟩ := Oper.apart_spec hap
  refine ⟨s2, ?_, g1, ?_, g2⟩
  ·unfold chkHS at kj ⊢
   cases hh : isHS ops oj with
   | false => rfl
   | true =>
    rw [hh] at kj
    have h3 := isHS_cls hh
    have h0 : memCls oi.op = 0 := by omega
    rw [opStep_half hi] at h1
    obtain ⟨u, rfl⟩ := step_put0 (plainE env) h0 h1
    rw [<- hsOK_same (same_put a1) put_bx]
    exact kj
  ·unfold chkHS at ki ⊢
   cases hh : isHS ops oi with
   | false => rfl
   | true =>
    rw [hh] at ki
    have h3 := isHS_cls hh
    have h0 : memCls oj.op = 0 := by omega
    rw [opStep_half hj] at g1
    obtain ⟨u, rfl⟩ := step_put0 (plainE env) h0 g1
    rw [hsOK_same (same_put a3) put_bx]
    exact ki
 ·have hz := hc
  unfold zp at hz
  simp only [Bool.and_eq_true] at hz
  have hhj : isHS ops oj = true := hz.1.1.2
  have hhi : isHS ops oi = false := by simpa using hz.1.2
  unfold chkHS at kj
  rw [hhj] at kj
  rw [opStep_half hi] at h1
  rw [opStep_half hj] at h2
  obtain ⟨s2, g1, g2, g3⟩ := diamondZ (plainE env) rfl hc kj h1 h2
  refine ⟨s2, by unfold chkHS; rw [g3]; simp, by rw [opStep_half hj]; exact g1, by unfold chkHS; rw [hhi]; rfl, by rw [opStep_half hi]; exact g2⟩
end
end
end Go.Ev
