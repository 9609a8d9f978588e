/- Regions, code, functions: what the evaluator tells is what the machine does. Nothing here is trusted. -/
import Derived.Test.YtbabfocagkkboaaDoorEv8
namespace Go.Ev
open Go.RowKit
set_option linter.unusedVariables false
set_option linter.unusedSimpArgs false

section
variable {P : Program} {w w' : World} {ok ok' : Nat → Prop} {β : Nat → Nat × Nat} {ops : Array Oper}
variable {F : Fr P} {st st' s s' s1 s2 s12 : St} {a : Act} {env : Env} {o oi oj : Oper} {av : AV} {Q : Exit → Act → World → Prop}

/-- A state and the machine's, for some addresses. -/
def Rel (P : Program) (F : Fr P) (st : St) (a : Act) (w : World) : Prop := ∃ ok β, RelX P F st ok β a w

theorem asked_wanted (R : RelX P F st ok β a w) {b : Bool} (h : asked P ops o st = some b) : Region.wanted o (yielded ops a.tmps) = b := by
  unfold asked at h
  unfold Region.wanted
  cases hg : o.guard with
  | none => rw [hg] at h; simpa using h
  | some g =>
    obtain ⟨j, want⟩ := g
    rw [hg] at h
    simp only at h ⊢
    unfold guardOf at h
    unfold yielded
    cases hd : (ops[j]?).bind (·.dst) with
    | none => rw [hd] at h; cases h
    | some d =>
      rw [hd] at h
      simp only [Option.bind_some] at h ⊢
      split at h
      · rename_i h9
        have hv := (R.slot d).d9 h9
        have : ∀ c, a.tmps[d]? ≠ some (.bool c) := by
          intro c hc
          rw [Array.getD_eq_getD_getElem?, hc] at hv
          simp [undef] at hv
        cases h
        cases hx : a.tmps[d]? with
        | none => simp
        | some v =>
          cases v <;> simp
          exact absurd hx (this _)
      · cases hb : boolOf P (st.get d) with
        | none => rw [hb] at h; cases h
        | some c =>
          rw [hb] at h
          simp only [Option.map_some, Option.some.injEq] at h
          obtain ⟨t1, u1, d1⟩ := boolOf_spec hb
          obtain ⟨c', e1, e2⟩ := ((R.slot d).d1 t1).bool u1
          have hcc : c' = c := by rw [d1] at e1; simpa using e1.symm
          subst hcc
          have hx : a.tmps[d]? = some (.bool c') := by
            rw [Array.getD_eq_getD_getElem?] at e2
            cases hx : a.tmps[d]? with
            | none => rw [hx] at e2; simp [undef] at e2
            | some v => rw [hx] at e2; simpa using e2
          rw [hx]
          simp only
          rw [← h]
          cases c' <;> cases want <;> rfl

theorem opStep_sound (henv : EnvOK P env) (R : Rel P F st a w) {i : Nat} (hi : ops[i]? = some o) (h : opStep P env ops o st = some st') :
    wpOp P ops Q i (Rel P F st') a w := by
  obtain ⟨ok, β, R⟩ := R
  unfold wpOp
  rw [hi]
  simp only
  rcases step_cases h with ⟨ha, rfl⟩ | ⟨ha, hc, he⟩
  · rw [asked_wanted R ha]
    simp only [Bool.false_eq_true, if_false]
    exact ⟨ok, β, R.put repAV_undA (live_of_refs rfl) o.dst⟩
  · rw [asked_wanted R ha]
    simp only [if_true]
    exact .inl (evOp_sound henv R hc he)

theorem runOps_sound (henv : EnvOK P env) (hQ : ∀ a w, Rel P F st' a w → Q .normal a w) :
    ∀ (l : List Oper) (k : Nat) (st : St) (a : Act) (w : World), (∀ j, l[j]? = ops[k + j]?) → runOps P env ops l st = some st' → Rel P F st a w → wpOps P ops Q (List.range' k l.length) a w
  | [], k, st, a, w, hl, h, R => by
    simp only [runOps, Option.some.injEq] at h
    subst h
    exact hQ a w R
  | o :: l, k, st, a, w, hl, h, R => by
    simp only [runOps] at h
    obtain ⟨s1, h1, h2⟩ := Option.bind_eq_some_iff.1 h
    have h0 : ops[k]? = some o := by simpa using (hl 0).symm
    simp only [List.length_cons, List.range'_succ]
    rw [wpOps_cons]
    exact wpOp_mono (fun a' w' R' => runOps_sound henv hQ l (k + 1) s1 a' w' (fun j => by have := hl (j + 1); simpa [Nat.add_assoc, Nat.add_comm 1 j] using this) h2 R') (opStep_sound henv R h0 h1)

theorem region_sound (henv : EnvOK P env) {id : Nat} (h : runOps P env ops ops.toList st = some st') (R : Rel P F st a w) (hQ : ∀ a w, Rel P F st' a w → Q .normal a w) :
    (Code.region id ops false).wp P Q a w := by
  refine wp_region ?_
  have := runOps_sound (Q := Q) henv hQ ops.toList 0 st a w (by simp) h R
  rw [List.range_eq_range']
  simpa using this

/-! ### All orders -/
def anyA (P : Program) (env : Env) (ops : Array Oper) (G : St → Prop) : Nat → Array Bool → St → Prop
  | 0, listed, st => Region.ready .any ops listed = [] ∧ G st
  | n + 1, listed, st => (Region.ready .any ops listed = [] → G st) ∧
    ∀ i ∈ Region.ready .any ops listed, ∃ o s, ops[i]? = some o ∧ opStep P env ops o st = some s ∧ anyA P env ops G n (listed.setIfInBounds i true) s

theorem anyA_sound (henv : EnvOK P env) {G : St → Prop} (hQ : ∀ s a w, G s → Rel P F s a w → Q .normal a w) :
    ∀ (n : Nat) (listed : Array Bool) (st : St) (a : Act) (w : World), anyA P env ops G n listed st → Rel P F st a w → wpAny P .any ops Q n listed a w
  | 0, listed, st, a, w, h, R => ⟨h.1, hQ st a w h.2 R⟩
  | n + 1, listed, st, a, w, h, R => ⟨fun h0 => hQ st a w (h.1 h0) R, fun i hi => by
      obtain ⟨o, s, ho, hs, hr⟩ := h.2 i hi
      exact wpOp_mono (fun a' w' R' => anyA_sound henv hQ n _ s a' w' hr R') (opStep_sound henv R ho hs)⟩

/-- What has come up: with each, what it waits for. -/
def Closed (ops : Array Oper) (listed : Array Bool) : Prop := ∀ (j : Nat) (o : Oper), ops[j]? = some o → listed.getD j false = true → ∀ e ∈ o.after, Region.binds .any e = true → listed.getD e.on false = true

theorem no_wait_listed {listed : Array Bool} (hc : Closed ops listed) {i : Nat} (hi : listed.getD i true = false) : ∀ (n j : Nat), listed.getD j false = true → waits ops n j i = false
  | 0, _, _ => rfl
  | n + 1, j, hj => by
    unfold waits
    cases ho : ops[j]? with
    | none => rfl
    | some o =>
      simp only [Option.map_some, Option.getD_some]
      rw [Array.any_eq_false']
      intro e he hh
      simp only [Bool.and_eq_true, Bool.or_eq_true, beq_iff_eq] at hh
      obtain ⟨hb, hh⟩ := hh
      have hl := hc j o ho hj e he hb
      rcases hh with hh | hh
      · subst hh
        simp only [Array.getD_eq_getD_getElem?] at hl hi
        cases hx : listed[e.on]? with
        | none => rw [hx] at hl; simp at hl
        | some b => rw [hx] at hl hi; simp at hl hi; rw [hl] at hi; cases hi
      · rw [no_wait_listed hc hi n e.on hl] at hh
        cases hh

theorem no_wait_ready {listed : Array Bool} (hc : Closed ops listed) {i j n : Nat} (hi : listed.getD i true = false) (hj : j ∈ Region.ready .any ops listed) : waits ops n j i = false := by
  cases n with
  | zero => rfl
  | succ n =>
    obtain ⟨_, o, ho, hall⟩ := mem_ready.1 hj
    unfold waits
    rw [ho]
    simp only [Option.map_some, Option.getD_some]
    rw [Array.any_eq_false']
    intro e he hh
    simp only [Bool.and_eq_true, Bool.or_eq_true, beq_iff_eq] at hh
    obtain ⟨hb, hh⟩ := hh
    have hl := hall e he hb
    rcases hh with hh | hh
    · subst hh
      simp only [Array.getD_eq_getD_getElem?] at hl hi
      cases hx : listed[e.on]? with
      | none => rw [hx] at hl; simp at hl
      | some b => rw [hx] at hl hi; simp at hl hi; rw [hl] at hi; cases hi
    · rw [no_wait_listed hc hi n e.on hl] at hh
      cases hh

theorem closed_set {listed : Array Bool} (hc : Closed ops listed) {j : Nat} (hj : j ∈ Region.ready .any ops listed) : Closed ops (listed.setIfInBounds j true) := by
  obtain ⟨_, o, ho, hall⟩ := mem_ready.1 hj
  intro k ok hk hl e he hb
  by_cases hkj : j = k
  · subst hkj
    rw [ho] at hk
    cases hk
    exact getD_set_true (hall e he hb)
  · rw [getD_set_ne false hkj] at hl
    exact getD_set_true (hc k ok hk hl e he hb)

theorem anyA_first (hpl : PlainE env) {G : St → Prop} {i : Nat} (hi : ops[i]? = some oi) :
    ∀ (n : Nat) (listed : Array Bool) (st s1 : St), ND2 st → Closed ops listed → i ∈ Region.ready .any ops listed →
      (∀ (j : Nat) (oj : Oper), ops[j]? = some oj → j ≠ i → listed.getD j true = false → comm ops oi oj = true ∨ waits ops 8 j i = true) →
      opStep P env ops oi st = some s1 → anyA P env ops G n (listed.setIfInBounds i true) s1 → anyA P env ops G (n + 1) listed st := by
  intro n
  induction n with
  | zero =>
    intro listed st s1 hn hc hr hfree h1 H
    refine ⟨fun h => (by rw [h] at hr; cases hr), fun j hj => ?_⟩
    by_cases hji : j = i
    · subst hji; exact ⟨oi, s1, hi, h1, H⟩
    · have := ready_mono hj hji
      rw [H.1] at this
      cases this
  | succ n ih =>
    intro listed st s1 hn hc hr hfree h1 H
    refine ⟨fun h => (by rw [h] at hr; cases hr), fun j hj => ?_⟩
    by_cases hji : j = i
    · subst hji; exact ⟨oi, s1, hi, h1, H⟩
    · obtain ⟨oj, s12, hoj, h2, hrest⟩ := H.2 j (ready_mono hj hji)
      have hiun := (mem_ready.1 hr).1
      have hjun := (mem_ready.1 hj).1
      have hcomm : comm ops oi oj = true := by
        rcases hfree j oj hoj hji hjun with h | h
        · exact h
        · rw [no_wait_ready hc hiun hj] at h; cases h
      obtain ⟨s2, g1, g2⟩ := diamond hpl hcomm hn.1 h1 h2
      refine ⟨oj, s2, hoj, g1, ?_⟩
      refine ih (listed.setIfInBounds j true) s2 s12 (opStep_nd hpl hn g1) (closed_set hc hj) (ready_mono hr (Ne.symm hji)) ?_ g2 ?_
      · intro k ok hk hki hun
        refine hfree k ok hk hki ?_
        by_cases hjk : j = k
        · subst hjk; exact hjun
        · rw [getD_set_ne true hjk] at hun; exact hun
      · rw [Array.setIfInBounds_comm _ _ hji]
        exact hrest

theorem anyA_lex (hpl : PlainE env) (hlex : lexOK ops = true) {G : St → Prop} (hG : G st') :
    ∀ (l : List Oper) (k : Nat) (listed : Array Bool) (st : St), (∀ j, l[j]? = ops[k + j]?) → listed.size = ops.size → (∀ j, j < ops.size → listed.getD j true = decide (j < k)) → k + l.length = ops.size →
      ND2 st → runOps P env ops l st = some st' → anyA P env ops G l.length listed st
  | [], k, listed, st, hl, hsz, hlist, hlen, hn, h => by
    simp only [runOps, Option.some.injEq] at h
    subst h
    refine ⟨?_, hG⟩
    rw [List.eq_nil_iff_forall_not_mem]
    intro j hj
    obtain ⟨h1, o, ho, _⟩ := mem_ready.1 hj
    have hlt : j < ops.size := (Array.getElem?_eq_some_iff.1 ho).1
    rw [hlist j hlt] at h1
    simp at hlen h1
    omega
  | o :: l, k, listed, st, hl, hsz, hlist, hlen, hn, h => by
    simp only [runOps] at h
    obtain ⟨s1, h1, h2⟩ := Option.bind_eq_some_iff.1 h
    have h0 : ops[k]? = some o := by simpa using (hl 0).symm
    have hk : k < ops.size := (Array.getElem?_eq_some_iff.1 h0).1
    have hlf : ∀ j, j < ops.size → listed.getD j false = decide (j < k) := fun j hj => by
      have := hlist j hj
      have hj' : j < listed.size := by omega
      simpa [hj'] using this
    unfold lexOK at hlex
    have hlex' := hlex
    rw [List.all_eq_true] at hlex'
    have hat : ∀ (j : Nat) (oj : Oper), ops[j]? = some oj → (∀ e ∈ oj.after, Region.binds .any e = true → e.on < j) ∧ ∀ (i : Nat) (oi : Oper), i < j → ops[i]? = some oi → comm ops oi oj = true ∨ waits ops 8 j i = true := by
      intro j oj hj
      have hlt : j < ops.size := (Array.getElem?_eq_some_iff.1 hj).1
      have := hlex' j (List.mem_range.2 hlt)
      rw [hj] at this
      simp only [Bool.and_eq_true, Array.all_eq_true_iff_forall_mem, List.all_eq_true] at this
      refine ⟨fun e he hb => ?_, fun i oi hij hi => ?_⟩
      · have := this.1 e he
        simpa [hb] using this
      · have := this.2 i (List.mem_range.2 hij)
        rw [hi] at this
        simpa using this
    have hready : k ∈ Region.ready .any ops listed := mem_ready.2 ⟨by rw [hlist k hk]; simp, o, h0, fun e he hb => by
      have hlt := (hat k o h0).1 e he hb
      rw [hlf e.on (by omega)]
      simpa using hlt⟩
    have hclosed : Closed ops listed := by
      intro j oj hj hjl e he hb
      have hlt : j < ops.size := (Array.getElem?_eq_some_iff.1 hj).1
      rw [hlf j hlt] at hjl
      have := (hat j oj hj).1 e he hb
      rw [hlf e.on (by omega)]
      simp at hjl ⊢
      omega
    refine anyA_first hpl h0 l.length listed st s1 hn hclosed hready ?_ h1 ?_
    · intro j oj hj hjk hun
      have hlt : j < ops.size := (Array.getElem?_eq_some_iff.1 hj).1
      rw [hlist j hlt] at hun
      simp at hun
      exact (hat j oj hj).2 k o (by omega) h0
    · refine anyA_lex hpl hlex hG l (k + 1) _ s1 (fun j => by have := hl (j + 1); simpa [Nat.add_assoc, Nat.add_comm 1 j] using this) (by simpa using hsz) ?_ (by simp at hlen; omega) (opStep_nd hpl hn h1) h2
      intro j hj
      by_cases hjk : k = j
      · subst hjk
        have : k < listed.size := by omega
        simp [this]
      · rw [getD_set_ne true hjk, hlist j hj]
        simp
        omega

theorem region_draw_sound (hpl : PlainE env) (hm : P.follows .mixedOrders = true) (henv : EnvOK P env) (hlex : lexOK ops = true) {id : Nat} (h : runOps P env ops ops.toList st = some st') (R : Rel P F st a w)
    (hQ : ∀ a w, Rel P F st' a w → Q .normal a w) : (Code.region id ops true).wp P Q a w := by
  obtain ⟨ok, β, R⟩ := R
  refine wp_region_any hm ?_
  refine anyA_sound (G := fun s => s = st') henv (fun s a w hs R' => hQ a w (hs ▸ R')) _ _ st a _ ?_ ⟨ok, β, R.drawn⟩
  have := anyA_lex (G := fun s => s = st') hpl hlex rfl ops.toList 0 (Array.replicate ops.size false) st (by simp) (by simp) (fun j hj => by simp [hj]) (by simp) ⟨R.nd, R.hp.nb⟩ h
  simpa using this

end
end Go.Ev
