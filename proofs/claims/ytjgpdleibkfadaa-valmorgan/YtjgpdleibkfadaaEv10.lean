/- Code and functions. Nothing here is trusted. -/
import Derived.Test.YtjgpdleibkfadaaEv9
namespace Go.Ev
open Go.RowKit
set_option linter.unusedVariables false
set_option linter.unusedSimpArgs false

section
variable {P : Program} {w w' : World} {ok ok' : Nat → Prop} {β : Nat → Nat × Nat} {ops : Array Oper}
variable {base : Nat} {w0 : World} {okA : Nat → Prop} {st st' s s' s1 s2 s12 : St} {a : Act} {env : Env} {o oi oj : Oper} {av r : AV} {Q : Exit → Act → World → Prop}

theorem know_self {c : Nat} {b : Bool} (h : boolOf P (st.get c) = some b) : st.know c b = st := by
  obtain ⟨_, _, hd⟩ := boolOf_spec h
  unfold St.know
  have : ({ st.get c with d := .lit (.bool b) } : AV) = st.get c := by rw [← hd]
  rw [this]
  unfold St.put St.get
  simp only
  by_cases hc : c < st.sl.length
  · simp [List.getD, hc]
  · have e : st.sl.set c (st.sl.getD c dead) = st.sl := List.set_eq_of_length_le (by omega)
    rw [e]

theorem evOne_run {K : St → Option AV} (h : evOne P env o st K = some r) : ∃ s', chkOp P env st o = true ∧ evOp P env o st = some s' ∧ K s' = some r := by
  unfold evOne at h
  split at h
  · rename_i c x y hop
    cases hb : boolOf P (st.get c) with
    | none => rw [hb] at h; cases h
    | some t =>
      rw [hb] at h
      simp only at h
      have hchk : chkOp P env st o = true := by unfold chkOp; rw [hop]
      cases t with
      | true =>
        rw [cond_true, know_self hb] at h
        refine ⟨_, hchk, ?_, h⟩
        have hb' : boolOf P (opd0 P st o (.tmp c)) = some true := hb
        unfold evOp
        simp only [hop, evVal, hb', Option.map_some, if_true]
      | false =>
        rw [cond_false, know_self hb] at h
        refine ⟨_, hchk, ?_, h⟩
        have hb' : boolOf P (opd0 P st o (.tmp c)) = some false := hb
        unfold evOp
        simp only [hop, evVal, hb', Option.map_some, Bool.false_eq_true, if_false]
  · cases hc : chkOp P env st o with
    | true => rw [hc, cond_true] at h; obtain ⟨s', h1, h2⟩ := Option.bind_eq_some_iff.1 h; exact ⟨s', rfl, h1, h2⟩
    | false => rw [hc, cond_false] at h; cases h
  · cases hc : chkOp P env st o with
    | true => rw [hc, cond_true] at h; obtain ⟨s', h1, h2⟩ := Option.bind_eq_some_iff.1 h; exact ⟨s', rfl, h1, h2⟩
    | false => rw [hc, cond_false] at h; cases h
  · cases hc : chkOp P env st o with
    | true => rw [hc, cond_true] at h; obtain ⟨s', h1, h2⟩ := Option.bind_eq_some_iff.1 h; exact ⟨s', rfl, h1, h2⟩
    | false => rw [hc, cond_false] at h; cases h
  · cases hc : chkOp P env st o with
    | true => rw [hc, cond_true] at h; obtain ⟨s', h1, h2⟩ := Option.bind_eq_some_iff.1 h; exact ⟨s', rfl, h1, h2⟩
    | false => rw [hc, cond_false] at h; cases h
  · rename_i n1 n2 n3 n4 n5
    obtain ⟨s', h1, h2⟩ := Option.bind_eq_some_iff.1 h
    refine ⟨s', ?_, h1, h2⟩
    unfold chkOp
    split
    · rename_i hop; exact (n2 _ _ _ _ hop).elim
    · rename_i hop; exact (n3 _ _ _ _ hop).elim
    · rename_i hop; exact (n4 _ _ _ hop).elim
    · rename_i hop; exact (n5 _ hop).elim
    · rfl

theorem evOps_run : ∀ (l : List Oper) (st : St) (K : St → Option AV), evOps P env ops l st K = some r → ∃ s', runOps P env ops l st = some s' ∧ K s' = some r
  | [], st, K, h => ⟨st, rfl, h⟩
  | o :: l, st, K, h => by
    unfold evOps at h
    cases hg : o.guard with
    | none =>
      rw [hg] at h
      simp only at h
      obtain ⟨s1, hc, he, hk⟩ := evOne_run h
      obtain ⟨s', h1, h2⟩ := evOps_run l s1 K hk
      refine ⟨s', ?_, h2⟩
      simp only [runOps, opStep_mk (ops := ops) (by unfold asked; rw [hg]) hc he, Option.bind_some, h1]
    | some g =>
      obtain ⟨j, want⟩ := g
      rw [hg] at h
      simp only at h
      cases hd : (ops[j]?).bind (·.dst) with
      | none => rw [hd] at h; cases h
      | some g =>
        rw [hd] at h
        simp only at h
        split at h
        · rename_i h9
          obtain ⟨s', h1, h2⟩ := evOps_run l _ K h
          refine ⟨s', ?_, h2⟩
          have ha : asked P ops o st = some false := by unfold asked guardOf; rw [hg]; simp only [hd, h9, if_true]
          simp only [runOps, opStep_skip ha, Option.bind_some, h1]
        · rename_i h9
          cases hb : boolOf P (st.get g) with
          | none => rw [hb] at h; cases h
          | some b =>
            rw [hb] at h
            simp only at h
            have ha : asked P ops o st = some (b == want) := by unfold asked guardOf; rw [hg]; simp only [hd, h9, if_false, hb, Option.map_some]
            cases hbw : (b == want) with
            | true =>
              rw [hbw, cond_true] at h
              have e : b = want := by simpa using hbw
              subst e
              rw [know_self hb] at h
              obtain ⟨s1, hc, he, hk⟩ := evOne_run h
              obtain ⟨s', h1, h2⟩ := evOps_run l s1 K hk
              refine ⟨s', ?_, h2⟩
              rw [hbw] at ha
              simp only [runOps, opStep_mk ha hc he, Option.bind_some, h1]
            | false =>
              rw [hbw, cond_false] at h
              have e : b = !want := by cases b <;> cases want <;> simp at hbw ⊢
              rw [← e, know_self hb] at h
              obtain ⟨s', h1, h2⟩ := evOps_run l _ K h
              refine ⟨s', ?_, h2⟩
              rw [hbw] at ha
              simp only [runOps, opStep_skip ha, Option.bind_some, h1]

/-! ### Weakenings -/
theorem Rel.forget (R : Rel P base w0 okA st a w) (i : Nat) : Rel P base w0 okA (st.put (some i) dead) a w := by
  obtain ⟨ok, β, R⟩ := R
  refine ⟨ok, β, by rw [put_len]; exact R.len, R.df, R.bel, R.bas, R.okb, by rw [put_bx]; exact R.sep, by rw [put_bx]; exact R.inj, by rw [put_bx]; exact R.own, by rw [put_bx]; exact R.box, by rw [put_bx]; exact R.row, fun j => ?_, put_nd R.nd (live_of_ne (by simp [dead]))⟩
  rw [get_put, put_bx]
  split
  · exact repAV_dead _
  · exact R.slot j

theorem Rel.drop (R : Rel P base w0 okA st a w) (l : List Nat) : Rel P base w0 okA (st.drop l) a w := by
  unfold St.drop
  induction l generalizing st with
  | nil => exact R
  | cons i l ih => exact ih (R.forget i)

theorem kill_get (i j : Nat) : (st.kill i).get j = killA i (st.get j) := by
  show (st.sl.map (killA i)).getD j dead = killA i (st.sl.getD j dead)
  rw [List.getD_eq_getElem?_getD, List.getD_eq_getElem?_getD, List.getElem?_map]
  cases st.sl[j]? with
  | none => rfl
  | some v => rfl

theorem Rel.kill (R : Rel P base w0 okA st a w) (i : Nat) : Rel P base w0 okA (st.kill i) a w := by
  obtain ⟨ok, β, R⟩ := R
  have hbx : ∀ j e, (st.kill i).bx j = some e → j ≠ i ∧ st.bx j = some e := by
    intro j e h
    simp only [St.kill] at h
    split at h
    · cases h
    · rename_i hne; exact ⟨hne, h⟩
  refine ⟨ok, β, by simp only [St.kill, List.length_map]; exact R.len, R.df, R.bel, R.bas, R.okb, fun b j e hb h => R.sep b j e hb (hbx j e h).2, fun j k e f h1 h2 => R.inj j k e f (hbx j e h1).2 (hbx k f h2).2,
    fun j e h => R.own j e (hbx j e h).2, fun j e h => R.box j e (hbx j e h).2, fun j e h => R.row j e (hbx j e h).2, fun j => ?_, fun j ht => ?_⟩
  · rw [kill_get]
    unfold killA
    split
    · exact repAV_dead _
    · have := R.slot j
      exact ⟨this.d1, fun ht e he => this.d2 ht e (hbx _ e he).2, fun ht e he => this.d5 ht e (hbx _ e he).2, this.d3, this.d6, this.d9⟩
  · rw [kill_get] at ht ⊢
    unfold killA at ht ⊢
    split at ht
    · simp [dead] at ht
    · rename_i hne
      rw [if_neg hne]
      have hid : (st.get j).id ≠ i := by
        intro hh
        apply hne
        simp [ht, hh]
      simp only [St.kill, hid, if_false]
      exact R.nd j ht

theorem Rel.stillSlot (R : Rel P base w0 okA st a w) (i : Nat) : Rel P base w0 okA (st.stillSlot i) a w := by
  unfold St.stillSlot
  split
  · obtain ⟨ok, β, R⟩ := R
    obtain ⟨ok', R'⟩ := R.still (st.get i).id
    exact ⟨ok', β, R'⟩
  · exact R
theorem Rel.stills (R : Rel P base w0 okA st a w) (l : List Nat) : Rel P base w0 okA (l.foldl St.stillSlot st) a w := by
  induction l generalizing st with
  | nil => exact R
  | cons i l ih => exact ih (R.stillSlot i)

theorem Rel.kills (R : Rel P base w0 okA st a w) (ids : List Nat) : Rel P base w0 okA (ids.foldl St.kill st) a w := by
  induction ids generalizing st with
  | nil => exact R
  | cons i ids ih => exact ih (R.kill i)

theorem Rel.prep (R : Rel P base w0 okA st a w) (l : List Oper) : Rel P base w0 okA (prep l st) a w := (R.stills (sinks l)).kills (newIds l)

theorem drop_bx (l : List Nat) : (st.drop l).bx = st.bx := by
  unfold St.drop
  induction l generalizing st with
  | nil => rfl
  | cons i l ih => rw [List.foldl_cons, ih, put_bx]

theorem lookB_map (ids : List Nat) (f : Nat → Option Ent) (j : Nat) : lookB (ids.map fun i => (i, f i)) j = if j ∈ ids then f j else none := by
  unfold lookB
  induction ids with
  | nil => rfl
  | cons i ids ih =>
    simp only [List.map_cons, List.find?_cons]
    by_cases h : i = j
    · subst h; simp
    · have h' : (i == j) = false := by simpa using h
      rw [h']
      simp only
      rw [ih]
      simp only [List.mem_cons]
      by_cases hj : j ∈ ids
      · simp [hj]
      · have : ¬ j = i := fun hh => h hh.symm
        simp [hj, this]

theorem keep_get (ds ids : List Nat) (j : Nat) : (st.canon ds ids).get j = keepA ids ((st.drop ds).get j) := by
  show ((st.drop ds).sl.map (keepA ids)).getD j dead = keepA ids ((st.drop ds).sl.getD j dead)
  rw [List.getD_eq_getElem?_getD, List.getD_eq_getElem?_getD, List.getElem?_map]
  cases (st.drop ds).sl[j]? with
  | none => rfl
  | some v => rfl

theorem canon_bx (ds ids : List Nat) (j : Nat) : (st.canon ds ids).bx j = if j ∈ ids then st.bx j else none := lookB_map ids st.bx j

theorem Rel.canon (R : Rel P base w0 okA st a w) (ds ids : List Nat) : Rel P base w0 okA (st.canon ds ids) a w := by
  have R0 := R.drop ds
  obtain ⟨ok, β, R⟩ := R0
  have hbx : ∀ j e, (st.canon ds ids).bx j = some e → j ∈ ids ∧ (st.drop ds).bx j = some e := by
    intro j e h
    rw [canon_bx] at h
    split at h
    · rename_i hj; exact ⟨hj, by rw [drop_bx]; exact h⟩
    · cases h
  refine ⟨ok, β, by simp only [St.canon, List.length_map]; exact R.len, R.df, R.bel, R.bas, R.okb, fun b j e hb h => R.sep b j e hb (hbx j e h).2, fun j k e f h1 h2 => R.inj j k e f (hbx j e h1).2 (hbx k f h2).2,
    fun j e h => R.own j e (hbx j e h).2, fun j e h => R.box j e (hbx j e h).2, fun j e h => R.row j e (hbx j e h).2, fun j => ?_, fun j ht => ?_⟩
  · rw [keep_get]
    unfold keepA
    split
    · exact repAV_dead _
    · have := R.slot j
      exact ⟨this.d1, fun ht e he => this.d2 ht e (hbx _ e he).2, fun ht e he => this.d5 ht e (hbx _ e he).2, this.d3, this.d6, this.d9⟩
  · rw [keep_get] at ht ⊢
    unfold keepA at ht ⊢
    split at ht
    · simp [dead] at ht
    · rename_i hne
      rw [if_neg hne]
      have hid : ((st.drop ds).get j).id ∈ ids := by
        have : ¬ (ids.contains ((st.drop ds).get j).id = false) := by
          intro hh
          apply hne
          simp [ht] at hh ⊢
          exact hh
        simpa using this
      rw [canon_bx, if_pos hid, ← drop_bx (st := st) ds]
      exact R.nd j ht

theorem Rel.preL (R : Rel P base w0 okA st a w) (h : Hints) (b : Code) : Rel P base w0 okA (preL h b st) a w := by
  unfold Ev.preL
  split
  · exact R.canon _ _
  · exact R

/-! ### Code -/
def Post (P : Program) (base : Nat) (w0 : World) (okA : Nat → Prop) (K : Exit → St → Option AV) (r : AV) (e : Exit) (a : Act) (w : World) : Prop := ∃ s, Rel P base w0 okA s a w ∧ K e s = some r

theorem rounds_sound {c : Code} {body : St → (Exit → St → Option AV) → Option AV}
    (hbody : ∀ (st : St) (K : Exit → St → Option AV), body st K = some r → ∀ a w, Rel P base w0 okA st a w → c.wp P (Post P base w0 okA K r) a w) (pre : St → St) (hpre : ∀ (st : St) (a : Act) (w : World), Rel P base w0 okA st a w → Rel P base w0 okA (pre st) a w) (K : Exit → St → Option AV) :
    ∀ (n : Nat) (st : St) (a : Act) (w : World), evLoop pre body n st K = some r → Rel P base w0 okA st a w → Code.rounds P c (Post P base w0 okA K r) n a w
  | 0, _, _, _, h, _ => by simp [evLoop] at h
  | n + 1, st, a, w, h, R => by
    unfold evLoop at h
    rw [rounds_succ]
    refine wp_mono (hbody st _ h a w R) ?_
    rintro e a' w' ⟨s', R', hk⟩
    cases e with
    | normal => exact rounds_sound hbody pre hpre K n _ a' w' hk (hpre _ _ _ R')
    | exit i => exact ⟨s', R', hk⟩
    | ret => exact ⟨s', R', hk⟩
    | goto l => cases hk
    | panic c => cases hk
    | outgrown => cases hk

theorem evCode_sound (hm : P.follows .mixedOrders = true) (henv : EnvOK P env) (hh : Hints) (fuel : Nat) : ∀ (c : Code) (st : St) (K : Exit → St → Option AV), evCode P env hh fuel c st K = some r →
    ∀ a w, Rel P base w0 okA st a w → c.wp P (Post P base w0 okA K r) a w := by
  intro c
  induction c with
  | skip => intro st K h a w R; exact wp_skip ⟨st, R, h⟩
  | region id ops draw =>
    intro st K h a w R
    unfold evCode at h
    split at h
    · rename_i hc
      obtain ⟨s', h1, h2⟩ := evOps_run _ _ _ h
      have R' := R.prep ops.toList
      cases draw with
      | false => exact region_sound henv h1 R' (fun a w R'' => ⟨s', R'', h2⟩)
      | true => exact region_draw_sound hm henv (by simpa using hc) h1 R' (fun a w R'' => ⟨s', R'', h2⟩)
    · cases h
  | seq x y ihx ihy =>
    intro st K h a w R
    unfold evCode at h
    refine wp_seq (wp_mono (ihx st _ h a w R) ?_)
    rintro e a' w' ⟨s', R', hk⟩
    cases e with
    | normal => exact ihy s' K hk a' w' R'
    | exit i => exact ⟨s', R', hk⟩
    | ret => exact ⟨s', R', hk⟩
    | goto l => cases hk
    | panic c => cases hk
    | outgrown => cases hk
  | cond c x y ihx ihy =>
    intro st K h a w R
    cases c with
    | tmp c =>
      unfold evCode at h
      cases hb : boolOf P (st.get c) with
      | none => rw [hb] at h; cases h
      | some b =>
        rw [hb] at h
        simp only at h
        obtain ⟨ok, β, R0⟩ := R
        obtain ⟨t1, u1, d1⟩ := boolOf_spec hb
        obtain ⟨b', e1, e2⟩ := ((R0.slot c).d1 t1).bool u1
        have hbb : b' = b := by rw [d1] at e1; simpa using e1.symm
        subst hbb
        cases b' with
        | true =>
          rw [cond_true, know_self hb] at h
          exact wp_cond_true e2 (ihx st K h a w ⟨ok, β, R0⟩)
        | false =>
          rw [cond_false, know_self hb] at h
          exact wp_cond_false e2 (ihy st K h a w ⟨ok, β, R0⟩)
    | const v => simp [evCode] at h
    | global g => simp [evCode] at h
    | func f => simp [evCode] at h
  | block id b ih =>
    intro st K h a w R
    unfold evCode at h
    refine wp_block (wp_mono (ih st _ h a w R) ?_)
    rintro e a' w' ⟨s', R', hk⟩
    cases e with
    | normal => exact ⟨s', R', hk⟩
    | exit i =>
      unfold blockK at hk
      simp only at hk
      unfold Exit.inBlock
      simp only
      split at hk
      · rename_i hi; rw [if_pos hi]; exact ⟨s', R', hk⟩
      · rename_i hi; rw [if_neg hi]; exact ⟨s', R', hk⟩
    | ret => exact ⟨s', R', hk⟩
    | goto l => cases hk
    | panic c => cases hk
    | outgrown => cases hk
  | loop b ih =>
    intro st K h a w R
    unfold evCode at h
    exact wp_loop_rounds fuel (rounds_sound ih (preL hh b) (fun _ _ _ R' => R'.preL hh b) K fuel _ a w h (R.preL hh b))
  | exit id => intro st K h a w R; exact wp_exit ⟨st, R, h⟩
  | label l => intro st K h a w R; exact wp_label ⟨st, R, h⟩
  | ret => intro st K h a w R; exact wp_ret ⟨st, R, h⟩
  | rangeFunc f ps x y _ _ => intro st K h a w R; simp [evCode] at h
  | scope b _ => intro st K h a w R; simp [evCode] at h
  | goto l => intro st K h a w R; simp [evCode] at h
  | refuse s => intro st K h a w R; simp [evCode] at h

/-! ### Functions -/
def resV (tmps : Array Value) : ResultVar → Sem Value
  | .tmp t => pure (tmps.getD t undef)
  | .cell c t => do loadVar t (← asAddr (tmps.getD c undef))

theorem results_eq (fn : Func) (tmps : Array Value) : results fn tmps = (do
    let vs ← fn.results.mapM (resV tmps)
    pure (if h : vs.size = 1 then vs[0] else .tuple vs)) := by
  have : (fun x : ResultVar => (match x with | .tmp t => (pure (tmps.getD t undef) : Sem Value) | .cell a t => do loadVar t (← asAddr (tmps.getD a undef)))) = resV tmps := by
    funext x; cases x <;> rfl
  rw [← this]
  rfl

theorem resOne_sound (R : RelX P base w0 okA st ok β a w) {rv : ResultVar} {x : AV} (h : resOne P st rv = some x) :
    ∃ v, (resV a.tmps rv).run P w = .ok v w ∧ x.tag = 1 ∧ RepV P w ok x.ty v x.d := by
  cases rv with
  | tmp t =>
    simp only [resOne] at h
    split at h
    · rename_i ht
      cases h
      have ht' : (st.get t).tag = 1 := by simpa using ht
      exact ⟨_, rfl, ht', (R.slot t).d1 ht'⟩
    · cases h
  | cell c t =>
    simp only [resOne] at h
    obtain ⟨d, hd, rfl⟩ := Option.map_eq_some_iff.1 h
    obtain ⟨y, u, hv, hl, hr⟩ := ldA_sound R (R.slot c) hd
    refine ⟨u, ?_, rfl, hr⟩
    simp only [resV, hv, asAddr, Sem.run_bind, Sem.run_pure, Result.andThen_ok, hl]

theorem resAll_sound (R : RelX P base w0 okA st ok β a w) : ∀ (l : List ResultVar) (xs : List AV), resAll P st l = some xs →
    ∃ vs : List Value, (l.mapM (resV a.tmps)).run P w = .ok vs w ∧ ArgsRep P w ok xs vs
  | [], xs, h => by
    simp only [resAll, Option.some.injEq] at h
    subst h
    exact ⟨[], by simp, trivial⟩
  | rv :: l, xs, h => by
    simp only [resAll] at h
    split at h
    · rename_i x xs' h1 h2
      cases h
      obtain ⟨v, g1, g2, g3⟩ := resOne_sound R h1
      obtain ⟨vs, g4, g5⟩ := resAll_sound R l xs' h2
      exact ⟨v :: vs, by rw [List.mapM_cons]; simp only [Sem.run_bind, g1, g4, Result.andThen_ok, Sem.run_pure], ⟨⟨g2, g3⟩, g5⟩⟩
    · cases h

theorem argsRep_len : ∀ {xs : List AV} {vs : List Value}, ArgsRep P w ok xs vs → xs.length = vs.length
  | [], [], _ => rfl
  | x :: xs, v :: vs, h => by simp [argsRep_len h.2]
  | [], _ :: _, h => h.elim
  | _ :: _, [], h => h.elim

theorem argsRep_get : ∀ {xs : List AV} {vs : List Value}, ArgsRep P w ok xs vs → ∀ (k : Nat) (x : AV), xs[k]? = some x → x.tag = 1 ∧ RepV P w ok x.ty (vs.getD k undef) x.d
  | [], [], _, k, x, h => by simp at h
  | y :: xs, v :: vs, h, 0, x, hk => by simp at hk; subst hk; exact h.1
  | y :: xs, v :: vs, h, k + 1, x, hk => by simp at hk; have := argsRep_get h.2 k x hk; simpa using this
  | [], _ :: _, h, _, _, _ => h.elim
  | _ :: _, [], h, _, _, _ => h.elim

theorem resA_sound (R : RelX P base w0 okA st ok β a w) {fn : Func} (h : resA P fn st = some r) :
    (r.tag = 1 ∨ r.tag = 6) ∧ ∃ v, (results fn a.tmps).run P w = .ok v w ∧ RepAV P w ok (fun _ => (0, 0)) (fun _ => none) r v := by
  unfold resA at h
  have hres : ∀ (xs : List AV), resAll P st fn.results.toList = some xs → ∃ vs : List Value, ArgsRep P w ok xs vs ∧ (results fn a.tmps).run P w = .ok (if h : vs.length = 1 then vs[0] else .tuple vs.toArray) w := by
    intro xs hx
    obtain ⟨vs, h1, h2⟩ := resAll_sound R _ _ hx
    refine ⟨vs, h2, ?_⟩
    rw [results_eq, Array.mapM_eq_mapM_toList]
    simp only [Sem.run_bind, Sem.run_map]
    rw [h1]
    simp only [Result.andThen_ok, Sem.run_pure, List.size_toArray]
    congr 1
  split at h
  · rename_i x hx
    cases h
    obtain ⟨vs, h1, h2⟩ := hres _ hx
    have hl := argsRep_len h1
    match vs, h1, hl with
    | [v], h1, _ =>
      refine ⟨.inl h1.1.1, v, by simpa using h2, ⟨fun _ => h1.1.2, fun ht => ?_, fun ht => ?_, fun ht => ?_, fun ht => ?_, fun ht => ?_⟩⟩ <;> (have := h1.1.1; omega)
  · rename_i x xs hne hx
    cases h
    obtain ⟨vs, h1, h2⟩ := hres _ hx
    have hl := argsRep_len h1
    have hlen : vs.length ≠ 1 := by
      intro h1'
      rw [h1'] at hl
      simp at hl
      subst hl
      exact hne rfl
    refine ⟨.inr rfl, .tuple vs.toArray, by rw [h2]; simp [hlen], ⟨by simp [tupA], by simp [tupA], by simp [tupA], by simp [tupA], fun _ => ⟨vs.toArray, rfl, by simp [tupA] at hl ⊢; omega, fun k t hk => ?_⟩, by simp [tupA]⟩⟩
    simp only [tupA, List.getElem?_map, Option.map_eq_some_iff] at hk
    obtain ⟨y, hy, rfl⟩ := hk
    have := (argsRep_get h1 k y hy).2
    have e1 : fieldD (tupA ((x :: xs).map (·.ty)) (.agg ((x :: xs).map (·.d)))).d k = y.d := by
      simp only [tupA, fieldD, partsD, List.getD, List.getElem?_map, hy]
      rfl
    rw [e1]
    simpa using this
  · cases h

theorem argsRep_tags : ∀ {xs : List AV} {vs : List Value}, ArgsRep P w ok xs vs → ∀ x ∈ xs, x.tag = 1
  | [], [], _, _, h => by cases h
  | y :: xs, v :: vs, h, x, hx => by
    rcases List.mem_cons.1 hx with rfl | hx
    · exact h.1.1
    · exact argsRep_tags h.2 x hx
  | [], _ :: _, h, _, _ => h.elim
  | _ :: _, [], h, _, _ => h.elim

/-- WHAT THE EVALUATOR TELLS OF A FUNCTION IS A CONTRACT OF IT. -/
theorem evFn_sound (hm : P.follows .mixedOrders = true) (henv : EnvOK P env) {hh : Hints} {fuel : Nat} {f : FuncId} {fn : Func} {args : List AV} (hf : P.funcs[f]? = some fn)
    (hname : (fn.name == "runtime.NumGoroutine") = false) (h : evFn P env hh fuel fn args = some r) (htag : r.tag = 1 ∨ r.tag = 6) : CallOK P f args r := by
  unfold evFn at h
  cases hb : fn.body with
  | none => rw [hb] at h; cases h
  | some c =>
    rw [hb] at h
    simp only at h
    split at h
    · rename_i hall
      refine ⟨⟨fn, c, hf, hb, hname⟩, htag, fun w okA vs hok hargs => ?_⟩
      have hl := argsRep_len hargs
      have R : Rel P w.heap.size w okA (begin_ fn args) { tmps := vs.toArray ++ Array.replicate (fn.ntmps - vs.toArray.size) undef, defers := [] } w := by
        refine ⟨okA, fun _ => (0, 0), ?_, rfl, Below.refl _ _, Nat.le_refl _, fun b hb => ⟨hok b hb, .inl hb⟩, fun b i e _ hi => by simp [begin_] at hi, fun i j e f hi => by simp [begin_] at hi, fun i e hi => by simp [begin_] at hi,
          fun i e hi => by simp [begin_] at hi, fun i e hi => by simp [begin_] at hi, fun i => ?_, fun i ht => ?_⟩
        · simp [begin_, hl]
        · by_cases hi : i < args.length
          · have e1 : (begin_ fn args).get i = args[i] := by simp [begin_, St.get, List.getD, List.getElem?_append_left hi, hi]
            have hx := argsRep_get hargs i (args[i]) (by simp [hi])
            have e2 : (vs.toArray ++ Array.replicate (fn.ntmps - vs.toArray.size) undef).getD i undef = vs.getD i undef := by
              have hi' : i < vs.length := by omega
              simp [Array.getD_eq_getD_getElem?, Array.getElem?_append, hi', List.getD]
            rw [e1, e2]
            refine ⟨fun _ => hx.2, fun ht => ?_, fun ht => ?_, fun ht => ?_, fun ht => ?_, fun ht => ?_⟩ <;> (have := hx.1; omega)
          · have e1 : (begin_ fn args).get i = dead := by
              simp only [begin_, St.get, List.getD]
              rw [List.getElem?_append_right (by omega)]
              by_cases hh : i - args.length < fn.ntmps - args.length
              · simp [hh]
              · simp [hh]
            rw [e1]
            exact repAV_dead _
        · exfalso
          by_cases hi : i < args.length
          · have e1 : (begin_ fn args).get i = args[i] := by simp [begin_, St.get, List.getD, List.getElem?_append_left hi, hi]
            rw [e1] at ht
            have := argsRep_tags hargs (args[i]) (by simp)
            omega
          · have e1 : (begin_ fn args).get i = dead := by
              simp only [begin_, St.get, List.getD]
              rw [List.getElem?_append_right (by omega)]
              by_cases hh : i - args.length < fn.ntmps - args.length
              · simp [hh]
              · simp [hh]
            rw [e1] at ht
            simp [dead] at ht
      refine calls_of_wp hf hb (wp_mono (evCode_sound hm henv hh fuel c _ _ h _ _ R) ?_)
      rintro e a' w' ⟨s', R0, hk⟩
      obtain ⟨ok', β', R'⟩ := R0.stills (resTmps fn.results.toList)
      have fin : resA P fn ((resTmps fn.results.toList).foldl St.stillSlot s') = some r → a'.defers = [] ∧ ∃ v, (results fn a'.tmps).run P w' = .ok v w' ∧ ∃ v' ok'', Ending.returned v = .returned v' ∧ Below w.heap.size w w' ∧
          (∀ b, ok'' b → b < w'.heap.size ∧ (okA b ∨ w.heap.size ≤ b)) ∧ RepAV P w' ok'' (fun _ => (0, 0)) (fun _ => none) r v' := by
        intro hr
        obtain ⟨_, v, h1, h2⟩ := resA_sound R' hr
        exact ⟨R'.df, v, h1, v, ok', rfl, R'.bel, R'.okb, h2⟩
      cases e with
      | normal => exact fin hk
      | ret => exact fin hk
      | exit i => cases hk
      | goto l => cases hk
      | panic c => cases hk
      | outgrown => cases hk
    · cases h

end
end Go.Ev
