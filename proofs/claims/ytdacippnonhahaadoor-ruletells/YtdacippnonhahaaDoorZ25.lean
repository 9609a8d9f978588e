/- Trees of functions, and lemmas. Nothing here is trusted. -/
import Derived.Test.YtdacippnonhahaaDoorZ24
namespace Go.Ev
open Go.RowKit
set_option linter.unusedVariables false
set_option linter.unusedSimpArgs false
section
/-- What is foreign: which operations are (isF), what they do; what an iterator over a box of type 'bt' hands on, of type 'ei'. -/
structure YEnv (σ : Type) where
 isF : Oper -> Bool
 fop : Oper -> St -> σ -> Option (St × σ)
 it : FuncId -> D -> Option (List D)
 bt : TypeId
 ei : TypeId

section
variable {σ : Type}
def stepY (P : Program) (env : Env) (Y : YEnv σ) (ops : Array Oper) (o : Oper) (s : St × σ) : Option (St × σ) :=
 if !chkHS P ops o s.1 then none else match (if Y.isF o && (asked P ops o s.1).getD false then Y.fop o s.1 s.2 else none) with
 | some r => some r
 | none => (opStep P env ops o s.1).map fun t => (t, s.2)
def ordY (Y : YEnv σ) (o : Oper) : Bool := nt o && !Y.isF o
def regY (P : Program) (env : Env) (Y : YEnv σ) (ops : Array Oper) (draw : Bool) (s : St × σ) : Option (St × σ) :=
 if draw then
  (if ops.all (fun o => !Y.isF o) && ops.any (bornB env) && lexOK6 env ops then (runOps P env.part ops ops.toList (prep env.part ops.toList s.1)).map fun t => (t, s.2)
  else if lexG (cmY ops) (ordY Y) ops then runG (stepY P env.half Y ops) ops.toList (prep env.half ops.toList s.1, s.2)
  else if ops.all (fun o => !Y.isF o) && lexPr env.plain ops [] (appOrd env.plain ops) then (runOps P env.plain ops (pickOps ops (appOrd env.plain ops)) (prep env.plain ops.toList s.1)).map fun t => (t, s.2)
  else none)
 else runG (stepY P env Y ops) ops.toList (prep env ops.toList s.1, s.2)

/-- The same, going on with what follows: what is asked is written out. -/
def cpsG {ρ : Type} (P : Program) (env : Env) (Y : YEnv σ) (ops : Array Oper) : List Oper -> St × σ -> (St × σ -> Option ρ) -> Option ρ
 | [], s, K => K s
 | o :: rest, s, K => if !chkHS P ops o s.1 then none else if Y.isF o then (stepY P env Y ops o s).bind (fun s => cpsG P env Y ops rest s K) else evOps P env ops [o] s.1 (fun t => cpsG P env Y ops rest (t, s.2) K)
def regYK {ρ : Type} (P : Program) (env : Env) (Y : YEnv σ) (ops : Array Oper) (draw : Bool) (s : St × σ) (K : St × σ -> Option ρ) : Option ρ :=
 if draw then
  (if ops.all (fun o => !Y.isF o) && ops.any (bornB env) && lexOK6 env ops then evOps P env.part ops ops.toList (prep env.part ops.toList s.1) (fun t => K (t, s.2))
  else if lexG (cmY ops) (ordY Y) ops then cpsG P env.half Y ops ops.toList (prep env.half ops.toList s.1, s.2) K
  else if ops.all (fun o => !Y.isF o) && lexPr env.plain ops [] (appOrd env.plain ops) then evOps P env.plain ops (pickOps ops (appOrd env.plain ops)) (prep env.plain ops.toList s.1) (fun t => K (t, s.2))
  else none)
 else cpsG P env Y ops ops.toList (prep env ops.toList s.1, s.2) K
theorem cpsG_run {ρ : Type} {rr : ρ} {P : Program} {env : Env} {Y : YEnv σ} {ops : Array Oper} : ∀ (l : List Oper) (s : St × σ) (K : St × σ -> Option ρ), cpsG P env Y ops l s K = some rr -> ∃ s', runG (stepY P env Y ops) l s = some s' /\ K s' = some rr
 | [], s, K, h => ⟨s, rfl, h⟩
 | o :: rest, s, K, h => by
  unfold cpsG at h
  split at h
  ·cases h
  rename_i hc
  split at h
  ·obtain ⟨s1, h1, h2⟩ := Option.bind_eq_some_iff.1 h
   obtain ⟨s', h3, h4⟩ := cpsG_run rest s1 K h2
   exact ⟨s', by simp only [runG, h1, Option.bind_some]; exact h3, h4⟩
  ·rename_i hF
   obtain ⟨t, h1, h2⟩ := evOps_run _ _ _ h
   obtain ⟨s', h3, h4⟩ := cpsG_run rest (t, s.2) K h2
   have h1 : opStep P env ops o s.1 = some t := by
    unfold runOps at h1
    obtain ⟨u, hu, hu2⟩ := Option.bind_eq_some_iff.1 h1
    cases hu2
    exact hu
   have hs : stepY P env Y ops o s = some (t, s.2) := by
    unfold stepY
    rw [if_neg hc]
    have : Y.isF o = false := by simpa using hF
    rw [this]
    simp [h1]
   exact ⟨s', by simp only [runG, hs, Option.bind_some]; exact h3, h4⟩
theorem regYK_run {ρ : Type} {rr : ρ} {P : Program} {env : Env} {Y : YEnv σ} {ops : Array Oper} {draw : Bool} {s : St × σ} {K : St × σ -> Option ρ} (h : regYK P env Y ops draw s K = some rr) : ∃ s', regY P env Y ops draw s = some s' /\ K s' = some rr := by
 unfold regYK at h
 unfold regY
 cases draw with
 | false =>
  simp only [Bool.false_eq_true, if_false] at h ⊢
  exact cpsG_run _ _ _ h
 | true =>
  simp only [if_true] at h ⊢
  split at h
  ·rename_i h1
   rw [if_pos h1]
   obtain ⟨t, h2, h3⟩ := evOps_run _ _ _ h
   exact ⟨(t, s.2), by rw [h2]; rfl, h3⟩
  ·rename_i h1
   rw [if_neg h1]
   split at h
   ·rename_i h4
    rw [if_pos h4]
    exact cpsG_run _ _ _ h
   ·rename_i h4
    rw [if_neg h4]
    split at h
    ·rename_i h5
     rw [if_pos h5]
     obtain ⟨t, h2, h3⟩ := evOps_run _ _ _ h
     exact ⟨(t, s.2), by rw [h2]; rfl, h3⟩
    ·cases h

def seqY {ρ : Type} (next : St × σ -> Option ρ) (K : Exit -> St × σ -> Option ρ) (e : Exit) (s : St × σ) : Option ρ :=
 match e with
 | .normal => next s
 | .exit i => K (.exit i) s
 | .ret => K .ret s
 | _ => none
def blockY {ρ : Type} (id : Nat) (K : Exit -> St × σ -> Option ρ) (e : Exit) (s : St × σ) : Option ρ :=
 match e with
 | .normal => K .normal s
 | .exit i => if i = id then K .normal s else K (.exit i) s
 | .ret => K .ret s
 | _ => none
def loopY {ρ : Type} (pre : St -> St) (body : St × σ -> (Exit -> St × σ -> Option ρ) -> Option ρ) : Nat -> St × σ -> (Exit -> St × σ -> Option ρ) -> Option ρ
 | 0, _, _ => none
 | n + 1, s, K => body s (seqY (fun s => loopY pre body n (pre s.1, s.2) K) K)

/-- What the iterator in a slot hands on, and the box that it holds. -/
def itOf (Y : YEnv σ) (st : St) (g : Nat) : Option (Nat × List D) :=
 if (st.get g).tag == 4 then (match (st.get g).tys with
  | [b] => (match st.bx b with
   | some e => if e.row == 0 && e.c.isNone && e.ty == Y.bt then (Y.it (st.get g).id e.d).map fun ys => (b, ys) else none
   | none => none)
  | _ => none) else none
abbrev RoundR (σ : Type) := List (Option Ent) × σ
def finR (m : Nat) (s : St × σ) : Option (RoundR σ) :=
 if (outH m s.1).all (fun o => match o with | some e => inOut m (refsE e) | none => true) then some (outH m s.1, s.2) else none
def roundSt (Y : YEnv σ) (st : St) (ids : List Nat) (p : Nat) (y : D) : St :=
 { sl := (st.sl.map (renA (fwd ids))).set p (dat Y.ei y), bx := bxOf (ids.map (entOf st ids)) }
def roundY (Y : YEnv σ) (asg bdy : St × σ -> (Exit -> St × σ -> Option (RoundR σ)) -> Option (RoundR σ)) (p : Nat) (s : St × σ) (y : D) : Option (St × σ) :=
 if closedB s.1 s.1.sl (idsOf s.1 s.1.sl) then
  (asg (roundSt Y s.1 (idsOf s.1 s.1.sl) p y, s.2) (fun e s1 => match e with
   | .normal => bdy s1 (fun e s2 => match e with | .normal => finR (idsOf s.1 s.1.sl).length s2 | _ => none)
   | _ => none)).map fun r => (s.1.after (idsOf s.1 s.1.sl) r.1, r.2)
 else none
/-- .. and the state behind it made plain. -/
def roundC (Y : YEnv σ) (asg bdy : St × σ -> (Exit -> St × σ -> Option (RoundR σ)) -> Option (RoundR σ)) (p : Nat) (pre : St -> St) (s : St × σ) (y : D) : Option (St × σ) := (roundY Y asg bdy p s y).map fun r => (pre r.1, r.2)
def foldY (f : St × σ -> D -> Option (St × σ)) : List D -> St × σ -> Option (St × σ)
 | [], s => some s
 | y :: ys, s => (f s y).bind (foldY f ys)

def evCodeY (P : Program) (env : Env) (Y : YEnv σ) (h : Hints) (fuel : Nat) : Code -> Bool -> (ρ : Type) -> St × σ -> (Exit -> St × σ -> Option ρ) -> Option ρ
 | .skip, _, _, s, K => K .normal s
 | .region _ ops draw, _, _, s, K => regYK P env Y ops draw s (K .normal)
 | .seq a b, top, ρ, s, K => evCodeY P env Y h fuel a top ρ s (seqY (fun s => evCodeY P env Y h fuel b top ρ s K) K)
 | .cond (.const (.bool b)) x y, top, ρ, s, K => bif b then evCodeY P env Y h fuel x top ρ s K else evCodeY P env Y h fuel y top ρ s K
 | .cond (.tmp c) x y, top, ρ, s, K => (match boolOf P (s.1.get c) with
  | some b => bif b then evCodeY P env Y h fuel x top ρ (s.1.know c true, s.2) K else evCodeY P env Y h fuel y top ρ (s.1.know c false, s.2) K
  | none => none)
 | .block id b, top, ρ, s, K => evCodeY P env Y h fuel b top ρ s (blockY id K)
 | .loop b, top, ρ, s, K => loopY (preL h b) (evCodeY P env Y h fuel b top ρ) fuel (preL h b s.1, s.2) K
 | .exit id, _, _, s, K => K (.exit id) s
 | .label _, _, _, s, K => K .normal s
 | .ret, _, _, s, K => K .ret s
 | .rangeFunc (.tmp g) ps asg bdy, top, ρ, s, K => (match ps.toList, itOf Y s.1 g with
  | [p], some (b, ys) => if top then (foldY (roundC Y (evCodeY P env Y h fuel asg false (RoundR σ)) (evCodeY P env Y h fuel bdy false (RoundR σ)) p (preL h asg)) ys (preL h asg (s.1.kill b), s.2)).bind (K .normal) else none
  | _, _ => none)
 | _, _, _, _, _ => none
end

section
variable {σ : Type} {P : Program} {w w' : World} {ok ok' : Nat -> Prop} {β β' : Nat -> Nat × Nat} {ops : Array Oper}
variable {Ok : σ -> Prop} {F : Fr P} {st st' : St} {a a' : Act} {env : Env} {o : Oper} {J : JJ σ} {C : Cx} {x x' : σ} {O K : Nat -> Prop} {ms : List Nat} {Y : YEnv σ} {s s' : St × σ} {Q : Exit -> Act -> World -> Prop} {rd : Option Nat} {n : Nat}

/-- The foreign operations are the machine's. -/
def FopOK (P : Program) (J : JJ σ) (Ok : σ -> Prop) (Y : YEnv σ) : Prop := (∀ o st x st' x', Y.fop o st x = some (st', x') -> Ok x' -> Ok x) /\ ∀ (F : Fr P) (C : Cx) (ms : List Nat) (st st' : St) (x x' : σ) (a : Act) (w : World) (o : Oper) (rd : Option Nat) (n : Nat) (Q : Exit -> Act -> World -> Prop),
 Y.isF o = true -> Y.fop o st x = some (st', x') -> Ok x' -> RelJ P F J C ms st x a w -> o.wpIn (wr rd) n P a w (RelJ P F J C ms st' x') Q

theorem evOp_nodefer (h : evOp P env o st = some st') : ∀ c, o.op ≠ .defer c := by
 intro c hc
 unfold evOp at h
 simp [hc, evVal] at h

theorem opStepJ {i : Nat} (henv : EnvOK P env) (R : RelJ P F J C ms st x a w) (hi : ops[i]? = some o) (h : opStep P env ops o st = some st') :
  wpOpIn (wr rd) n P ops Q i (RelJ P F J C ms st' x) a w := by
 rcases step_cases h with ⟨ha, rfl⟩ | ⟨ha, hc, he⟩
 ·obtain ⟨O, K, ok, β, R⟩ := R
  unfold wpOpIn
  rw [hi]
  simp only
  rw [asked_wanted R.r ha]
  simp only [Bool.false_eq_true, if_false]
  refine ⟨fun _ _ => trivial, O, K, ok, β, R.own (st' := st.put o.dst undA) ?_⟩
  exact R.r.rebase.put repAV_undA (live_of_refs rfl) o.dst
 ·exact opStepJ_sound henv (evOp_nodefer he) R hi h

theorem stepY_mono (hF : FopOK P J Ok Y) (h : stepY P env Y ops o s = some s') (hk : Ok s'.2) : Ok s.2 := by
 unfold stepY at h
 split at h
 ·cases h
 split at h
 ·rename_i r hr
  cases h
  split at hr
  ·exact hF.1 _ _ _ _ _ hr hk
  ·cases hr
 ·obtain ⟨t, ht, rfl⟩ := Option.map_eq_some_iff.1 h
  exact hk
theorem runG_mono {S : Type} {step : Oper -> S -> Option S} {G : S -> Prop} (hs : ∀ o s s', step o s = some s' -> G s' -> G s) : ∀ (l : List Oper) (s s' : S), runG step l s = some s' -> G s' -> G s
 | [], s, s', h, hk => by simp only [runG, Option.some.injEq] at h; subst h; exact hk
 | o :: l, s, s', h, hk => by
  simp only [runG] at h
  obtain ⟨s1, h1, h2⟩ := Option.bind_eq_some_iff.1 h
  exact hs o s s1 h1 (runG_mono hs l s1 s' h2 hk)
theorem anyG_mono {S : Type} {step : Oper -> S -> Option S} {G H : S -> Prop} (hs : ∀ o s s', step o s = some s' -> H s' -> H s) (hG : ∀ s, G s -> H s) : ∀ (m : Nat) (listed : Array Bool) (s : S), anyG step ops G m listed s -> H s
 | 0, listed, s, h => hG s h.2
 | m + 1, listed, s, h => by
  by_cases hr : Region.ready .any ops listed = []
  ·exact hG s (h.1 hr)
  ·obtain ⟨i, hi⟩ := List.exists_mem_of_ne_nil _ hr
   obtain ⟨o, s1, ho, h1, h2⟩ := h.2 i hi
   exact hs o s s1 h1 (anyG_mono hs hG m _ s1 h2)

theorem stepY_sound {i : Nat} (henv : EnvOK P env) (hF : FopOK P J Ok Y) (R : RelJ P F J C ms s.1 s.2 a w) (hi : ops[i]? = some o) (h : stepY P env Y ops o s = some s') (hk : Ok s'.2) :
  wpOpIn (wr rd) n P ops Q i (RelJ P F J C ms s'.1 s'.2) a w := by
 unfold stepY at h
 split at h
 ·cases h
 split at h
 ·rename_i r hr
  cases h
  split at hr
  ·rename_i hc
   rw [Bool.and_eq_true] at hc
   have ha : asked P ops o s.1 = some true := by
    cases hq : asked P ops o s.1 with
    | none => rw [hq] at hc; simp at hc
    | some b => rw [hq] at hc; simp at hc; rw [hc.2]
   have R0 := R
   obtain ⟨O, K, ok, β, R0⟩ := R0
   unfold wpOpIn
   rw [hi]
   simp only
   rw [asked_wanted R0.r ha]
   simp only [if_true]
   exact hF.2 F C ms s.1 s'.1 s.2 s'.2 a w o rd n Q hc.1 hr hk R
  ·cases hr
 ·obtain ⟨t, ht, rfl⟩ := Option.map_eq_some_iff.1 h
  exact opStepJ henv R hi ht

theorem runY_sound (henv : EnvOK P env) (hF : FopOK P J Ok Y) (hk : Ok s'.2) (hQ : ∀ a w, RelJ P F J C ms s'.1 s'.2 a w -> Q .normal a w) :
  ∀ (l : List Oper) (k : Nat) (s : St × σ) (a : Act) (w : World), (∀ j, l[j]? = ops[k + j]?) -> runG (stepY P env Y ops) l s = some s' -> RelJ P F J C ms s.1 s.2 a w -> wpOpsIn (wr rd) n P ops Q (List.range' k l.length) a w
 | [], k, s, a, w, hl, h, R => by
  simp only [runG, Option.some.injEq] at h
  subst h
  exact hQ a w R
 | o :: l, k, s, a, w, hl, h, R => by
  simp only [runG] at h
  obtain ⟨s1, h1, h2⟩ := Option.bind_eq_some_iff.1 h
  have h0 : ops[k]? = some o := by simpa using (hl 0).symm
  simp only [List.length_cons, List.range'_succ]
  rw [wpOpsIn_cons]
  exact wpOpIn_mono (fun a' w' R' => runY_sound henv hF hk hQ l (k + 1) s1 a' w' (fun j => by have := hl (j + 1); simpa [Nat.add_assoc, Nat.add_comm 1 j] using this) h2 R') (stepY_sound henv hF R h0 h1 (runG_mono (G := fun s : St × σ => Ok s.2) (fun o s s' h hk => stepY_mono hF h hk) l s1 s' h2 hk))

theorem anyG_sound {step : Oper -> St × σ -> Option (St × σ)} (hstep : ∀ (s s' : St × σ) (a : Act) (w : World) (i : Nat) (o : Oper) (Q : Exit -> Act -> World -> Prop), RelJ P F J C ms s.1 s.2 a w -> ops[i]? = some o -> step o s = some s' -> Ok s'.2 -> wpOpIn (wr rd) n P ops Q i (RelJ P F J C ms s'.1 s'.2) a w)
  (hmono : ∀ o s s', step o s = some s' -> Ok s'.2 -> Ok s.2)
  {G : St × σ -> Prop} (hG : ∀ s, G s -> Ok s.2) (hQ : ∀ s a w, G s -> RelJ P F J C ms s.1 s.2 a w -> Q .normal a w) :
  ∀ (m : Nat) (listed : Array Bool) (s : St × σ) (a : Act) (w : World), anyG step ops G m listed s -> RelJ P F J C ms s.1 s.2 a w -> wpAnyIn (wr rd) n P .any ops Q m listed a w
 | 0, listed, s, a, w, h, R => ⟨h.1, hQ s a w h.2 R⟩
 | m + 1, listed, s, a, w, h, R => ⟨fun h0 => hQ s a w (h.1 h0) R, fun i hi => by
   obtain ⟨o, s1, ho, hs, hr⟩ := h.2 i hi
   exact wpOpIn_mono (fun a' w' R' => anyG_sound hstep hmono hG hQ m _ s1 a' w' hr R') (hstep s s1 a w i o Q R ho hs (anyG_mono (H := fun s : St × σ => Ok s.2) hmono hG m _ s1 hr))⟩

theorem anyG_of_anyA {G : St -> Prop} (x : σ) : ∀ (m : Nat) (listed : Array Bool) (st : St), anyA P env ops G m listed st -> anyG (fun o (s : St × σ) => (opStep P env ops o s.1).map fun t => (t, s.2)) ops (fun s => G s.1 /\ s.2 = x) m listed (st, x)
 | 0, listed, st, h => ⟨h.1, h.2, rfl⟩
 | m + 1, listed, st, h => ⟨fun h0 => ⟨h.1 h0, rfl⟩, fun i hi => by
   obtain ⟨o, s1, ho, hs, hr⟩ := h.2 i hi
   exact ⟨o, (s1, x), ho, by simp [hs], anyG_of_anyA x m _ s1 hr⟩⟩

theorem RelJ.drawn (R : RelJ P F J C ms st x a w) : RelJ P F J C ms st x a { w with drawn := w.drawn + 1 } := by
 obtain ⟨O, K, ok, β, R⟩ := R
 exact ⟨O, K, ok, β, R.frame (Z := fun _ => False) ⟨rfl, rfl, rfl, Nat.le_refl _, fun _ _ _ => rfl⟩ (fun _ h => h.elim)⟩


/-- A change of the state alone. -/
theorem RelJ.same (R : RelJ P F J C ms st x a w) (hh : ∀ (F' : Fr P), Rel P F' st a w -> Rel P F' st' a w) : RelJ P F J C ms st' x a w := by
 obtain ⟨O, K, ok, β, R⟩ := R
 obtain ⟨ok', β', R'⟩ := hh (Fr.now R.r) ⟨ok, β, R.r.rebase⟩
 exact ⟨O, K, ok', β', R.own R'⟩

theorem RelJ.prep (R : RelJ P F J C ms st x a w) (env : Env) (l : List Oper) : RelJ P F J C ms (Go.Ev.prep env l st) x a w := R.same fun _ R' => R'.prep env l

theorem regY_mono (hF : FopOK P J Ok Y) {draw : Bool} (h : regY P env Y ops draw s = some s') (hk : Ok s'.2) : Ok s.2 := by
 unfold regY at h
 cases draw with
 | false =>
  simp only [Bool.false_eq_true, if_false] at h
  have := runG_mono (step := stepY P env Y ops) (G := fun s : St × σ => Ok s.2) (fun o s s' h hk => stepY_mono hF h hk) _ _ _ h hk
  exact this
 | true =>
  simp only [if_true] at h
  split at h
  ·obtain ⟨t, _, rfl⟩ := Option.map_eq_some_iff.1 h
   exact hk
  ·split at h
   ·have := runG_mono (step := stepY P env.half Y ops) (G := fun s : St × σ => Ok s.2) (fun o s s' h hk => stepY_mono hF h hk) _ _ _ h hk
    exact this
   ·split at h
    ·obtain ⟨t, _, rfl⟩ := Option.map_eq_some_iff.1 h
     exact hk
    ·cases h

theorem regY_sound (hm : P.follows .mixedOrders = true) (henv : EnvOK P env) (hF : FopOK P J Ok Y) {id : Nat} {draw : Bool} (h : regY P env Y ops draw s = some s') (hk : Ok s'.2) (R : RelJ P F J C ms s.1 s.2 a w)
  (hQ : ∀ a w, RelJ P F J C ms s'.1 s'.2 a w -> Q .normal a w) : (Code.region id ops draw).wpIn (wr rd) n P Q a w := by
 unfold regY at h
 cases draw with
 | false =>
  simp only [Bool.false_eq_true, if_false] at h
  refine wpIn_region ?_
  have := runY_sound (rd := rd) (n := n) (Q := Q) henv hF hk hQ ops.toList 0 _ a w (by simp) h (R.prep env ops.toList)
  rw [List.range_eq_range']
  simpa using this
 | true =>
  simp only [if_true] at h
  split at h
  ·rename_i hc
   rw [Bool.and_eq_true] at hc
   have hlex := hc.2
   obtain ⟨t, ht, rfl⟩ := Option.map_eq_some_iff.1 h
   have hgd : ∀ (j : Nat) (oj : Oper), ops[j]? = some oj -> bornB env oj = true -> oj.guard = none := by
    intro j oj hj hb
    have hlex := hlex
    unfold lexOK6 at hlex
    rw [List.all_eq_true] at hlex
    have := hlex j (List.mem_range.2 (Array.getElem?_eq_some_iff.1 hj).1)
    rw [hj] at this
    simp only [Bool.and_eq_true, hb, Bool.not_true, Bool.false_or, Option.isNone_iff_eq_none] at this
    exact this.1.1
   refine wpIn_region_any hm ?_
   have R1 := (R.prep env.part ops.toList)
   obtain ⟨O, K, ok, β, R2⟩ := R1
   have hA := anyA_lex6 (G := fun s => s = t) hgd hlex rfl ops.toList 0 (Array.replicate ops.size false) _ (by simp) (by simp) (fun j hj => by simp [hj]) (by simp) ⟨R2.r.nd, R2.r.hp.nb⟩ ht
   have hG := anyG_of_anyA s.2 _ _ _ hA
   refine anyG_sound (step := fun o (s : St × σ) => (opStep P env.part ops o s.1).map fun t => (t, s.2)) (Ok := Ok) (F := F) (J := J) (C := C) (ms := ms) (fun s1 s2 a w i o Q R hi hs _ => ?_) (fun o s s' h hk => by obtain ⟨t, _, rfl⟩ := Option.map_eq_some_iff.1 h; exact hk) (G := fun s1 => s1.1 = t /\ s1.2 = s.2) (fun s1 hs => by rw [hs.2]; exact hk) (fun s1 a w hs R' => hQ a w (by obtain ⟨h1, h2⟩ := hs; show RelJ P F J C ms t s.2 a w; rw [<- h1, <- h2]; exact R')) _ _ (Go.Ev.prep env.part ops.toList s.1, s.2) a _ (by simpa using hG) (RelJ.drawn ⟨O, K, ok, β, R2⟩)
   obtain ⟨t2, ht2, rfl⟩ := Option.map_eq_some_iff.1 hs
   exact opStepJ henv.part R hi ht2
  ·split at h
   ·rename_i hlex
    refine wpIn_region_any hm ?_
    have R1 := (R.prep env.half ops.toList)
    have hG : anyG (stepY P env.half Y ops) ops (fun s1 => s1 = s') ops.toList.length (Array.replicate ops.size false) (Go.Ev.prep env.half ops.toList s.1, s.2) := by
     refine anyG_lex (G := fun s1 => s1 = s') (ord := ordY Y) (inv := fun s : St × σ => ND2 s.1) ?_ ?_ hlex rfl ops.toList 0 (Array.replicate ops.size false) _ (by simp) (by simp) (fun j hj => by simp [hj]) (by simp) (fun _ => ?_) h
     ·intro oi oj s s1 s12 hi hj hcm _ hn h1 h2
      unfold ordY at hi hj
      rw [Bool.and_eq_true, Bool.not_eq_true'] at hi hj
      have e : ∀ (o : Oper) (q : St × σ), Y.isF o = false -> stepY P env.half Y ops o q = if !chkHS P ops o q.1 then none else (opStep P env.half ops o q.1).map fun t => (t, q.2) := by
       intro o q ho
       unfold stepY
       rw [ho]
       simp
      rw [e _ _ hi.2] at h1
      rw [e _ _ hj.2] at h2
      split at h1
      ·cases h1
      rename_i ki
      split at h2
      ·cases h2
      rename_i kj
      obtain ⟨t1, g1, rfl⟩ := Option.map_eq_some_iff.1 h1
      obtain ⟨t2, g2, rfl⟩ := Option.map_eq_some_iff.1 h2
      obtain ⟨t3, q1, g3, q2, g4⟩ := diamond_cm hi.1 hj.1 hcm hn.1 (by simpa using ki) g1 (by simpa using kj) g2
      exact ⟨(t3, s.2), by rw [e _ _ hj.2, q1, g3]; rfl, by rw [e _ _ hi.2, q2]; simp [g4]⟩
     ·intro o s s1 ho hn h1
      unfold ordY at ho
      rw [Bool.and_eq_true, Bool.not_eq_true'] at ho
      unfold stepY at h1
      rw [ho.2] at h1
      simp only [Bool.false_and, Bool.false_eq_true, if_false] at h1
      split at h1
      ·cases h1
      obtain ⟨t1, g1, rfl⟩ := Option.map_eq_some_iff.1 h1
      exact opStep_nd (plainE env) hn (by rw [opStep_half ho.1] at g1; exact g1)
     ·obtain ⟨O, K, ok, β, R2⟩ := R1
      exact ⟨R2.r.nd, R2.r.hp.nb⟩
    refine anyG_sound (Ok := Ok) (F := F) (J := J) (C := C) (ms := ms) (fun s1 s2 a w i o Q R hi hs hk => stepY_sound henv.half hF R hi hs hk) (fun o s s' h hk => stepY_mono hF h hk) (G := fun s1 => s1 = s') (fun s1 hs => by rw [hs]; exact hk) (fun s1 a w hs R' => hQ a w (by subst hs; exact R')) _ _ _ a _ (by simpa using hG) R1.drawn
   ·split at h
    ·rename_i hc
     rw [Bool.and_eq_true] at hc
     obtain ⟨t, ht, rfl⟩ := Option.map_eq_some_iff.1 h
     refine wpIn_region_any hm ?_
     have R1 := (R.prep env.plain ops.toList)
     obtain ⟨O, K, ok, β, R2⟩ := R1
     have hA := anyA_perm (G := fun s => s = t) (plainE env) rfl rfl (appOrd env.plain ops) [] (Array.replicate ops.size false) _ hc.2 (by simp) (fun j => rep_false _ j) (by intro j oj hj hjl; rw [rep_false] at hjl; cases hjl) (fun j hj => lexPr_cov hj _ [] hc.2) ⟨R2.r.nd, R2.r.hp.nb⟩ ht
     have hG := anyG_of_anyA s.2 _ _ _ hA
     rw [appOrd_len] at hG
     refine anyG_sound (step := fun o (s : St × σ) => (opStep P env.plain ops o s.1).map fun t => (t, s.2)) (Ok := Ok) (F := F) (J := J) (C := C) (ms := ms) (fun s1 s2 a w i o Q R hi hs _ => ?_) (fun o s s' h hk => by obtain ⟨t, _, rfl⟩ := Option.map_eq_some_iff.1 h; exact hk) (G := fun s1 => s1.1 = t /\ s1.2 = s.2) (fun s1 hs => by rw [hs.2]; exact hk) (fun s1 a w hs R' => hQ a w (by obtain ⟨h1, h2⟩ := hs; show RelJ P F J C ms t s.2 a w; rw [<- h1, <- h2]; exact R')) _ _ (Go.Ev.prep env.plain ops.toList s.1, s.2) a _ (by simpa using hG) (RelJ.drawn ⟨O, K, ok, β, R2⟩)
     obtain ⟨t2, ht2, rfl⟩ := Option.map_eq_some_iff.1 hs
     exact opStepJ henv.plain R hi ht2
    ·cases h
end
end
section
set_option maxHeartbeats 1000000
section
variable {σ : Type} {P : Program} {w w' W : World} {ok ok' okx : Nat -> Prop} {β β' : Nat -> Nat × Nat} {ops : Array Oper}
variable {Ok : σ -> Prop} {F : Fr P} {st st' : St} {a a' : Act} {env : Env} {o : Oper} {J : JJ σ} {C : Cx} {x x' : σ} {O K : Nat -> Prop} {ms : List Nat} {Y : YEnv σ} {s s' s1 : St × σ} {Q : Exit -> Act -> World -> Prop} {rd : Option Nat} {n : Nat}

def PostY {ρ : Type} (P : Program) (F : Fr P) (J : JJ σ) (C : Cx) (K : Exit -> St × σ -> Option ρ) (rr : ρ) (e : Exit) (a : Act) (w : World) : Prop := ∃ ms s', RelJ P F J C ms s'.1 s'.2 a w /\ K e s' = some rr

/-- A piece of code is what an evaluator says of it. -/
def CodeOK (P : Program) (J : JJ σ) (Ok : σ -> Prop) (c : Code) (ρ : Type) (E : St × σ -> (Exit -> St × σ -> Option ρ) -> Option ρ) : Prop :=
 (∀ (s : St × σ) (K : Exit -> St × σ -> Option ρ) (rr : ρ), E s K = some rr -> (∀ e s, K e s = some rr -> Ok s.2) -> Ok s.2) /\
 ∀ (l n : Nat) (F : Fr P) (C : Cx) (ms : List Nat) (s : St × σ) (K : Exit -> St × σ -> Option ρ) (rr : ρ), E s K = some rr -> (∀ e s, K e s = some rr -> Ok s.2) -> ∀ a w, RelJ P F J C ms s.1 s.2 a w -> c.wpIn (wr (some l)) n P (PostY P F J C K rr) a w

theorem xof_own {ids : List Nat} {as : List AV} (hc : closedB st as ids = true) {b : Nat} (h : XOf (fun k => β (bwd ids k)) (bxOf (ids.map (entOf st ids))) b) : ∃ i e, i ∈ ids /\ st.bx i = some e /\ e.live = true /\ (β i).1 = b := by
 obtain ⟨k, e', hk, hlv, rfl⟩ := h
 obtain ⟨_, _, e, he, rfl, hm, _⟩ := bxOf_get hc hk
 exact ⟨bwd ids k, e, hm, he, by rw [<- live_ren (fwd ids)]; exact hlv, rfl⟩

theorem below_put {l : Nat} {o : Obj} (W : World) : BelowX (fun b => b = l) W.heap.size W (W.putObj l o) :=
 ⟨rfl, rfl, rfl, by simp, fun k _ hk => World.putObj_heap_other hk⟩

/-- What a round leaves. -/
structure RoundPost (P : Program) (F : Fr P) (J : JJ σ) (C : Cx) (s s1 : St × σ) (O K ok okx : Nat -> Prop) (β : Nat -> Nat × Nat) (ms : List Nat) (a : Act) (l : Nat) (r : Loop) (W w' : World) : Prop where
 ex : ∃ O' K' ok' β', RelJX P F J C s1.1 s1.2 O' K' ok' β' ms a w' /\ ¬ ok' l /\ ¬ OwnB s1.1 β' l /\ ¬ O' l /\ ¬ K' l /\ (∀ b, O b -> O' b) /\ (∀ b, O' b -> OwnB s.1 β b \/ O b \/ W.heap.size <= b) /\
  (∀ b, OwnB s1.1 β' b -> OwnB s.1 β b \/ W.heap.size <= b) /\ (∀ b, ok' b \/ K' b -> ok b \/ okx b \/ OwnB s.1 β b \/ O b \/ K b \/ W.heap.size <= b)
 lrec : w'.heap[l]? = some (.loop r)
 bel : BelowX (fun b => OwnB s.1 β b \/ O b \/ b = l) W.heap.size W w'

theorem finR_ok {m : Nat} {s : St × σ} {r : RoundR σ} (h : finR m s = some r) : s.2 = r.2 := by
 unfold finR at h
 split at h
 ·cases h; rfl
 ·cases h
theorem round_mono {asg bdy : Code} {asgE bdyE : St × σ -> (Exit -> St × σ -> Option (RoundR σ)) -> Option (RoundR σ)} (hasg : CodeOK P J Ok asg (RoundR σ) asgE) (hbdy : CodeOK P J Ok bdy (RoundR σ) bdyE) {p : Nat} {yd : D}
  (h : roundY Y asgE bdyE p s yd = some s1) (hk : Ok s1.2) : Ok s.2 := by
 unfold roundY at h
 split at h
 ·obtain ⟨r, hr, rfl⟩ := Option.map_eq_some_iff.1 h
  have hk : Ok r.2 := hk
  have hf : ∀ (m : Nat) (e : Exit) (q : St × σ), (match e with | .normal => finR m q | _ => none) = some r -> Ok q.2 := by
   intro m e q hq
   cases e <;> first | (cases hq; done) | (rw [finR_ok hq]; exact hk)
  refine (show Ok ((roundSt Y s.1 (idsOf s.1 s.1.sl) p yd, s.2) : St × σ).2 from hasg.1 _ _ _ hr (fun e q hq => ?_))
  cases e with
  | normal => exact hbdy.1 _ _ _ hq (fun e q hq => hf _ e q hq)
  | _ => cases hq
 ·cases h

theorem round_sound {asg bdy : Code} {asgE bdyE : St × σ -> (Exit -> St × σ -> Option (RoundR σ)) -> Option (RoundR σ)} (hasg : CodeOK P J Ok asg (RoundR σ) asgE) (hbdy : CodeOK P J Ok bdy (RoundR σ) bdyE)
  (R : RelJX P F J C s.1 s.2 O K ok β ms a W) {fn dl l p : Nat} {rec : LoopState -> Option Code -> Loop} (hrec : rec = fun st pe => { state := st, pending := pe, fn, tmps := a.tmps, params := #[p], assign := asg, body := bdy, defers := dl })
  (hl : W.heap[l]? = some (.loop (rec .ready none))) (hnl : ¬ ok l /\ ¬ OwnB s.1 β l /\ ¬ O l /\ ¬ K l /\ l ∉ ms /\ J.Z l /\ F.base <= l /\ C.V l) {yd : D}
  (h : roundY Y asgE bdyE p s yd = some s1) (hk : Ok s1.2) (hx : ∀ b, okx b -> b < W.heap.size /\ ¬ O b /\ ¬ OwnB s.1 β b /\ b ≠ l /\ b ∉ ms /\ (F.okA b \/ F.base <= b \/ F.X b) /\ C.V b /\ J.U b) {v : Value} (hv : RepV P W okx Y.ei v yd) :
  YieldAt Fence.wide n P l #[v] W fun e w' => e = .returned (.bool true) /\ RoundPost P F J C s s1 O K ok okx β ms a l (rec .ready none) W w' := by
 unfold roundY at h
 obtain ⟨ids, hids⟩ : ∃ ids, idsOf s.1 s.1.sl = ids := ⟨_, rfl⟩
 rw [hids] at h
 split at h
 rotate_left
 ·cases h
 rename_i hc
 obtain ⟨r, hr, rfl⟩ := Option.map_eq_some_iff.1 h
 obtain ⟨hn, hargs, hidm⟩ := closedB_spec hc
 have hkr : Ok r.2 := hk
 have hkf : ∀ (e : Exit) (q : St × σ), (match e with | .normal => finR ids.length q | _ => none) = some r -> Ok q.2 := by
  intro e q hq
  cases e <;> first | (cases hq; done) | (rw [finR_ok hq]; exact hkr)
 obtain ⟨X0, hX0⟩ : ∃ X0 : Nat -> Prop, X0 = XOf (fun k => β (bwd ids k)) (bxOf (ids.map (entOf s.1 ids))) := ⟨_, rfl⟩
 have hX : ∀ b, X0 b -> ∃ i e, i ∈ ids /\ s.1.bx i = some e /\ e.live = true /\ (β i).1 = b := fun b hb => xof_own hc (hX0 ▸ hb)
 have hXo : ∀ b, X0 b -> OwnB s.1 β b := fun b hb => by obtain ⟨i, e, _, h1, h2, h3⟩ := hX b hb; exact ⟨i, e, h1, h2, h3⟩
 have hXlt : ∀ b, OwnB s.1 β b -> b < W.heap.size := fun b ⟨i, e, h1, h2, h3⟩ => h3 ▸ R.r.hp.siz i e h1 h2
 have hllt : l < W.heap.size := (Array.getElem?_eq_some_iff.1 hl).1
 obtain ⟨ok1, hok1⟩ : ∃ ok1 : Nat -> Prop, ok1 = fun b => ok b \/ okx b := ⟨_, rfl⟩
 have hk01 : ∀ b, ok b -> ok1 b := fun b h => by rw [hok1]; exact .inl h
 have hkx1 : ∀ b, okx b -> ok1 b := fun b h => by rw [hok1]; exact .inr h
 have hok1c : ∀ b, ok1 b -> ok b \/ okx b := fun b h => by rw [hok1] at h; exact h
 have hok1lt : ∀ b, ok1 b -> b < W.heap.size := fun b hb => (hok1c b hb).elim (fun h => (R.r.okb b h).1) (fun h => (hx b h).1)
 have hok1O : ∀ b, ok1 b -> ¬ O b := fun b hb => (hok1c b hb).elim (fun h => R.ko b h) (fun h => (hx b h).2.1)
 have hok1own : ∀ b, ok1 b -> ¬ OwnB s.1 β b := fun b hb => (hok1c b hb).elim (fun h ⟨i, e, h1, h2, h3⟩ => R.r.hp.sep b i e h h1 h2 h3) (fun h => (hx b h).2.2.1)
 have hok1l : ¬ ok1 l := fun hb => (hok1c l hb).elim hnl.1 (fun h => (hx l h).2.2.2.1 rfl)
 have hok1ms : ∀ d ∈ ms, ¬ ok1 d := fun d hd hb => (hok1c d hb).elim (R.mks d hd).2.1 (fun h => (hx d h).2.2.2.2.1 hd)
 have hok1f : ∀ b, ok1 b -> F.okA b \/ F.base <= b \/ F.X b := fun b hb => (hok1c b hb).elim (fun h => (R.r.okb b h).2) (fun h => (hx b h).2.2.2.2.2.1)
 have R1 : RelX P (F.with ms) s.1 ok1 β a W := R.r.more hk01 (fun b hb => ⟨hok1lt b hb, hok1f b hb⟩) hok1own
 obtain ⟨V, hV⟩ : ∃ V : Nat -> Prop, V = fun b => ok1 b \/ X0 b \/ O b \/ K b \/ W.heap.size <= b := ⟨_, rfl⟩
 have hVi : ∀ b, (ok1 b \/ X0 b \/ O b \/ K b \/ W.heap.size <= b) -> V b := fun b h => by rw [hV]; exact h
 have hVc : ∀ b, V b -> ok1 b \/ X0 b \/ O b \/ K b \/ W.heap.size <= b := fun b h => by rw [hV] at h; exact h
 have hVl : ¬ V l := fun h => by
  rcases hVc l h with h | h | h | h | h
  ·exact hok1l h
  ·exact hnl.2.1 (hXo l h)
  ·exact hnl.2.2.1 h
  ·exact hnl.2.2.2.1 h
  ·omega
 have hVC : ∀ b, V b -> C.V b := fun b h => by
  rcases hVc b h with h | h | h | h | h
  ·exact (hok1c b h).elim (fun h => R.vv b (.inl h)) (fun h => (hx b h).2.2.2.2.2.2.1)
  ·exact R.vv b (.inr (.inl (hXo b h)))
  ·exact R.vv b (.inr (.inr (.inl h)))
  ·exact R.vv b (.inr (.inr (.inr h)))
  ·exact R.vn b (Nat.le_trans R.vs h)
 have hVms : ∀ d ∈ ms, ¬ V d := fun d hd h => by
  obtain ⟨g1, g2, g3, g4, g5, g6, g7⟩ := R.mks d hd
  rcases hVc d h with h | h | h | h | h
  ·exact hok1ms d hd h
  ·exact g3 (hXo d h)
  ·exact g4 h
  ·exact g5 h
  ·have := (Array.getElem?_eq_some_iff.1 g1).1; omega
 have hFX : ∀ b, (X0 b \/ O b \/ b = l) -> F.base <= b \/ F.X b := fun b h => by
  rcases h with h | h | rfl
  ·obtain ⟨i, e, _, h1, h2, h3⟩ := hX b h
   exact h3 ▸ R.r.own i e h1 h2
  ·exact R.of b h
  ·exact .inl hnl.2.2.2.2.2.2.1
 have htb : TabOn P (fun b => X0 b \/ O b \/ b = l) W := R.r.tabs hFX
 obtain ⟨G, hG⟩ : ∃ G : Fr P, G = ⟨W.heap.size, W, ok1, fun b => X0 b \/ O b \/ b = l, fun i => match bxOf (ids.map (entOf s.1 ids)) i with | some e => hval (β (bwd ids i)) e | none => undef, fun i => match bxOf (ids.map (entOf s.1 ids)) i with | some e => e.ty | none => 0, htb, []⟩ := ⟨_, rfl⟩
 have gbase : G.base = W.heap.size := by rw [hG]
 have gw0 : G.w0 = W := by rw [hG]
 have gok : ∀ b, G.okA b -> ok1 b := by rw [hG]; exact fun _ h => h
 have gX : ∀ b, G.X b -> X0 b \/ O b \/ b = l := by rw [hG]; exact fun _ h => h
 have gXi : ∀ b, (X0 b \/ O b \/ b = l) -> G.X b := by rw [hG]; exact fun _ h => h
 have gpv : ∀ i e, bxOf (ids.map (entOf s.1 ids)) i = some e -> G.pv i = hval (β (bwd ids i)) e /\ G.pt i = e.ty := by
  intro i e hi
  rw [hG]
  simp only [hi]
  exact ⟨trivial, trivial⟩
 have gwith : G.with [] = G := by rw [hG]; rfl
 have Rm : RelX P G ⟨s.1.sl.map (renA (fwd ids)), bxOf (ids.map (entOf s.1 ids))⟩ ok1 (fun k => β (bwd ids k)) { tmps := a.tmps, defers := [] } W := by
  have hrd : renA (fwd ids) dead = dead := rfl
  have hin : ∀ i, ∀ j ∈ refs (s.1.get i), j ∈ ids := by
   intro i j hj
   unfold St.get at hj
   by_cases hi : i < s.1.sl.length
   ·have e : s.1.sl.getD i dead = s.1.sl[i] := by simp [List.getD, hi]
    rw [e] at hj
    exact hargs _ (List.getElem_mem hi) j hj
   ·rw [List.getD, List.getElem?_eq_none (by omega)] at hj
    rw [Option.getD_none, refs_dead] at hj
    cases hj
  have hget : ∀ i, (St.mk (s.1.sl.map (renA (fwd ids))) (bxOf (ids.map (entOf s.1 ids)))).get i = renA (fwd ids) (s.1.get i) := fun i => map_get (st := s.1) _ hrd i
  refine ⟨by simp only [List.length_map]; exact R1.len, by rw [hG], heap_handed R1.hp hc, ?_, by rw [gbase]; exact Nat.le_refl _, fun b hb => ⟨hok1lt b hb, .inl (by rw [hG]; exact hb)⟩, fun i e hi hlv => .inr (gXi _ (.inl (by rw [hX0]; exact ⟨i, e, hi, hlv, rfl⟩))), fun i e hi _ => ?_, fun i => ?_, fun i => ?_⟩
  ·rw [gbase, gw0]; exact BelowX.refl _ _ _
  ·have := gpv i e hi
   exact ⟨this.1.symm, this.2.symm⟩
  ·rw [hget]
   exact rep_handed hc (hin i) (R1.slot i)
  ·rw [hget]
   exact live_handed hc (hin i)
 have hrep : RepAV P W ok1 (fun k => β (bwd ids k)) (bxOf (ids.map (entOf s.1 ids))) (dat Y.ei yd) v := repAV_dat (hv.move (fun _ _ => rfl) hkx1)
 have Rr := Rm.put hrep (live_of_ne (by simp [dat]) (by simp [dat]) (by simp [dat])) (some p)
 have hOX : ∀ b, OwnB (roundSt Y s.1 ids p yd) (fun k => β (bwd ids k)) b -> X0 b := fun b ⟨k, e', hk, hlv, hb⟩ => by rw [hX0]; exact ⟨k, e', hk, hlv, hb⟩
 have RJ : RelJX P G J ⟨V, W, O⟩ (roundSt Y s.1 ids p yd) s.2 O K ok1 (fun k => β (bwd ids k)) [] { tmps := a.tmps.setIfInBounds p v, defers := [] } W := by
  refine ⟨R.j, by rw [gwith]; exact Rr, R.lt, hok1O, fun b hb => R.wo b (hXo b (hOX b hb)), fun b hb => .inr (gXi b (.inr (.inl hb))), by simp, List.nodup_nil, R.zz, fun b hb => hVi b ?_, fun b hb => hVi b (.inr (.inr (.inr (.inr hb)))), Nat.le_refl _, fun _ _ => rfl, fun _ h => h, fun b hb => ?_, fun b hb => R.vu.2 b (Nat.le_trans R.vs hb)⟩
  rotate_left
  ·rcases hb with hb | hb
   ·exact (hok1c b hb).elim (fun h => R.vu.1 b (.inl h)) (fun h => (hx b h).2.2.2.2.2.2.2)
   ·exact R.vu.1 b (.inr (hXo b (hOX b hb)))
  rcases hb with h | h | h | h
  ·exact .inl h
  ·exact .inr (.inl (hOX b h))
  ·exact .inr (.inr (.inl h))
  ·exact .inr (.inr (.inr (.inl h)))
 have hy := run_yield (P := P) (args := #[v]) hl (by rw [hrec]; rfl)
 have hy2 : (Instr.yield l #[v]).run P W = .ok (.round l fn (a.tmps.setIfInBounds p v) asg bdy) W := by
  rw [hy, hrec]
  simp
 refine ⟨fn, _, asg, bdy, hy2, roundIn_of_wpIn trivial ?_⟩
 refine wpIn_mono (hasg.2 l n G ⟨V, W, O⟩ [] (roundSt Y s.1 ids p yd, s.2) _ r hr (fun e q hq => by
  cases e with
  | normal => exact hbdy.1 _ _ _ hq hkf
  | _ => cases hq) _ W ⟨O, K, ok1, _, RJ⟩) ?_
 rintro e a1 w1 ⟨ms1, q1, hq1, hk1⟩
 cases e with
 | exit i => cases hk1
 | ret => cases hk1
 | goto i => cases hk1
 | panic i => cases hk1
 | outgrown => cases hk1
 | normal =>
 obtain ⟨O1, K1, ok1', β1, Q1⟩ := hq1
 have hl1 : w1.heap[l]? = some (.loop (rec .ready none)) := (Q1.nv l hVl).trans hl
 obtain ⟨w2, hw2⟩ : ∃ w2, w1.putObj l (.loop { rec .ready none with state := .busy }) = w2 := ⟨_, rfl⟩
 have hl2 : w2.heap[l]? = some (.loop { rec .ready none with state := .busy }) := by rw [<- hw2]; exact World.putObj_heap_same (Array.getElem?_eq_some_iff.1 hl1).1
 refine ⟨w2, by rw [<- hw2]; exact run_beginRound hl1 (by rw [hrec]), ?_⟩
 have Q2 := Q1.frame2 (Z := fun b => b = l) (w' := w2) (by rw [<- hw2]; exact below_put w1) (by
  rintro b rfl
  refine ⟨fun h => hVl (Q1.vv b (.inl h)), fun h => hVl (Q1.vv b (.inr (.inl h))), fun h => hVl (Q1.vv b (.inr (.inr (.inl h)))), fun h => hVl (Q1.vv b (.inr (.inr (.inr h)))), hnl.2.2.2.2.2.1, .inr (gXi b (.inr (.inr rfl))), fun h => ?_⟩
  have := (Q1.mks b h).1
  rw [hl1] at this
  cases this)
 refine wpIn_mono (hbdy.2 l n G ⟨V, w2, O⟩ ms1 q1 _ r hk1 hkf a1 w2 ⟨O1, K1, ok1', β1, Q2⟩) ?_
 rintro e a3 w3 ⟨ms3, q3, hq3, hk3⟩
 cases e with
 | exit i => cases hk3
 | ret => cases hk3
 | goto i => cases hk3
 | panic i => cases hk3
 | outgrown => cases hk3
 | normal =>
 obtain ⟨O3, K3, ok3, β3, Q3⟩ := hq3
 have hl3 : w3.heap[l]? = some (.loop { rec .ready none with state := .busy }) := (Q3.nv l hVl).trans hl2
 have hend := run_endRound (P := P) none hl3
 obtain ⟨w4, hw4⟩ : ∃ w4, w3.putObj l (.loop (rec .ready none)) = w4 := ⟨_, rfl⟩
 have hend4 : (Instr.endRound l none).run P w3 = .ok (.bool true) w4 := by rw [hend, <- hw4, hrec]; rfl
 refine ⟨_, w4, hend4, rfl, ?_⟩
 have hl4 : w4.heap[l]? = some (.loop (rec .ready none)) := by rw [<- hw4]; exact World.putObj_heap_same (Array.getElem?_eq_some_iff.1 hl3).1
 have Q4 := Q3.frame2 (Z := fun b => b = l) (w' := w4) (by rw [<- hw4]; exact below_put w3) (by
  rintro b rfl
  refine ⟨fun h => hVl (Q3.vv b (.inl h)), fun h => hVl (Q3.vv b (.inr (.inl h))), fun h => hVl (Q3.vv b (.inr (.inr (.inl h)))), fun h => hVl (Q3.vv b (.inr (.inr (.inr h)))), hnl.2.2.2.2.2.1, .inr (gXi b (.inr (.inr rfl))), fun h => ?_⟩
  have := (Q3.mks b h).1
  rw [hl3] at this
  cases this)
 have hV4 : ∀ b, ok3 b \/ OwnB q3.1 β3 b \/ O3 b \/ K3 b -> V b := Q4.vv
 have hO4 : ∀ b, O b -> O3 b := Q4.om
 have hbel4 : BelowX (fun b => X0 b \/ O b \/ b = l) W.heap.size W w4 := by
  have := Q4.r.bel
  exact ⟨by rw [<- gw0]; exact this.os, by rw [<- gw0]; exact this.tape, by rw [<- gw0]; exact this.output, by rw [<- gw0]; exact this.size, fun k hk hz => by
   have h2 := this.block k (by show k < G.base; rw [gbase]; exact hk) (fun hh => hz (gX k hh))
   rw [show (G.with ms3).w0 = W from gw0] at h2
   exact h2⟩
 -- what the round hands back
 replace hk3 : finR ids.length q3 = some r := hk3
 unfold finR at hk3
 split at hk3
 rotate_left
 ·cases hk3
 rename_i hclosed
 simp only [Option.some.injEq] at hk3
 obtain ⟨rfl⟩ := hk3
 have hget := outH_get ids.length q3.1
 have hin : ∀ k e, bxOf' (outH ids.length q3.1) k = some e -> q3.1.bx k = some e /\ OID <= k /\ k - OID < ids.length := by
  intro k e hk
  rw [hget] at hk
  split at hk
  ·rename_i hcc; exact ⟨hk, hcc⟩
  ·cases hk
 have hcl : ∀ k e v, bxOf' (outH ids.length q3.1) k = some e -> e.c = some v -> ∀ j ∈ refs v, OID <= j /\ j - OID < ids.length := by
  intro k e v hk hcc j hj
  obtain ⟨hk1, hk2, hk3⟩ := hin k e hk
  rw [List.all_eq_true] at hclosed
  have := hclosed (some e) (by
   unfold outH
   rw [List.mem_map]
   exact ⟨k - OID, List.mem_range.2 hk3, by rw [show OID + (k - OID) = k by omega]; exact hk1⟩)
  simp only [inOut, List.all_eq_true, Bool.and_eq_true, decide_eq_true_eq] at this
  have := this j (by unfold refsE; rw [hcc]; exact hj)
  omega
 have hlv : ∀ k e v, bxOf' (outH ids.length q3.1) k = some e -> e.c = some v -> LiveB (bxOf' (outH ids.length q3.1)) v := by
  intro k e v hk hcc j hj
  rw [hget, if_pos (hcl k e v hk hcc j hj)]
  exact Q4.r.hp.nb k e v (hin k e hk).1 hcc j hj
 obtain ⟨Ws, hWs⟩ : ∃ Ws, mixW (fun b => O b \/ b = l) W w4 = Ws := ⟨_, rfl⟩
 have hWsz : Ws.heap.size = W.heap.size := by rw [<- hWs]; exact mix_size _ _ _
 have Rs : RelX P (F.with ms) s.1 ok1 β a Ws := by
  refine R1.frame (Z := fun b => O b \/ b = l) ?_ ?_ ?_ ?_
  ·refine ⟨by rw [<- hWs]; rfl, by rw [<- hWs]; rfl, by rw [<- hWs]; rfl, by rw [hWsz]; exact Nat.le_refl _, fun k hk hz => by rw [<- hWs]; exact mix_out hk hz⟩
  ·rintro b (hb | rfl) h
   ·exact hok1O b h hb
   ·exact hok1l h
  ·rintro b (hb | rfl) h
   ·exact (R.wo b h).1 hb
   ·exact hnl.2.1 h
  ·rintro b (hb | rfl)
   ·exact R.of b hb
   ·exact .inl hnl.2.2.2.2.2.2.1
 have hbx : ∀ b, X0 b -> XOf (fun k => β (bwd ids k)) (bxOf (ids.map (entOf s.1 ids))) b := fun b h => by rw [<- hX0]; exact h
 have hbelS : BelowX (XOf (fun k => β (bwd ids k)) (bxOf (ids.map (entOf s.1 ids)))) Ws.heap.size Ws w4 := by
  refine ⟨hbel4.os.trans (by rw [<- hWs]; rfl), hbel4.tape.trans (by rw [<- hWs]; rfl), hbel4.output.trans (by rw [<- hWs]; rfl), by rw [hWsz]; exact hbel4.size, fun k hk hz => ?_⟩
  rw [hWsz] at hk
  by_cases hO : O k \/ k = l
  ·rw [<- hWs, mix_in hbel4.size hk hO]
  ·rw [<- hWs, mix_out hk hO]
   refine hbel4.block k hk (fun h => ?_)
   rcases h with h | h
   ·exact hz (hbx k h)
   ·exact hO h
 have hok3 : ∀ b, ok3 b -> b < w4.heap.size /\ (ok1 b \/ Ws.heap.size <= b \/ XOf (fun k => β (bwd ids k)) (bxOf (ids.map (entOf s.1 ids))) b) := by
  intro b hb
  obtain ⟨h1, h2⟩ := Q4.r.okb b hb
  refine ⟨h1, ?_⟩
  rw [hWsz]
  rcases h2 with h2 | h2 | h2
  ·exact .inl (gok b h2)
  ·exact .inr (.inl (by rw [<- gbase]; exact h2))
  ·rcases gX b h2 with h2 | h2 | rfl
   ·exact .inr (.inr (hbx b h2))
   ·exact absurd (hO4 b h2) (Q4.ko b hb)
   ·exact absurd (hV4 b (.inl hb)) hVl
 have hown3 : ∀ b, OwnB q3.1 β3 b -> W.heap.size <= b \/ X0 b := by
  rintro b ⟨i, e, h1, h2, rfl⟩
  rcases Q4.r.own i e h1 h2 with h3 | h3
  ·exact .inl (by rw [<- gbase]; exact h3)
  ·rcases gX _ h3 with h3 | h3 | h3
   ·exact .inr h3
   ·exact absurd (hO4 _ h3) (Q4.wo _ ⟨i, e, h1, h2, rfl⟩).1
   ·exact absurd (h3 ▸ hV4 _ (.inr (.inl ⟨i, e, h1, h2, rfl⟩))) hVl
 have H4 := Q4.r.hp
 have H1 : HeapOK P w4 ok3 β3 (bxOf' (outH ids.length q3.1)) := by
  refine ⟨fun i e hi => H4.siz i e (hin i e hi).1, fun b i e hb hi => H4.sep b i e hb (hin i e hi).1, fun i j e f hi hj => H4.inj i j e f (hin i e hi).1 (hin j f hj).1, fun i e hi => H4.box i e (hin i e hi).1, fun i e v hi h0 hcc => ?_,
   fun i e hi => H4.row i e (hin i e hi).1, fun i e v hi hcc => hlv i e v hi hcc, fun i e hi => H4.rc i e (hin i e hi).1⟩
  obtain ⟨g1, val, g2, g3, g4⟩ := H4.con i e v (hin i e hi).1 h0 hcc
  exact ⟨g1, val, g2, g3, g4.tr (fun _ _ => rfl) (fun _ h => h) (fun j _ f hf => ⟨f, (hin j f hf).1, Alike.refl _ _⟩)⟩
 obtain ⟨β', R5, _, _, hown5⟩ := Rs.afterX hc (h := outH ids.length q3.1) (by simp [outH]) (r := dead) (v := undef) (ok1 := ok3) (β1 := β3) hbelS hok3 H1 (repAV_dead _) (live_of_refs refs_dead)
  (fun i e hi hlv2 => by
   rw [hWsz]
   rcases hown3 _ ⟨i, e, (hin i e hi).1, hlv2, rfl⟩ with h3 | h3
   ·exact .inl h3
   ·exact .inr (hbx _ h3))
  (fun i e' hi hrow => by
   obtain ⟨hi1, hi2, hi3⟩ := hin i e' hi
   have hcond : (OID <= i /\ e'.row = 0) \/ e'.row = 3 \/ e'.row = 4 := by
    rcases hrow with h0 | h0
    ·exact .inl ⟨hi2, h0⟩
    ·exact .inr h0
   have hh := Q4.r.hdr i e' hi1 hcond
   have hb : bxOf (ids.map (entOf s.1 ids)) i = (ids.map (entOf s.1 ids))[i - OID]? := by unfold bxOf; rw [if_neg (by omega)]
   obtain ⟨e, he⟩ : ∃ e, bxOf (ids.map (entOf s.1 ids)) i = some e := ⟨(ids.map (entOf s.1 ids))[i - OID]'(by simpa using hi3), by rw [hb]; simp [hi3]⟩
   obtain ⟨p1, p2⟩ := gpv i e he
   exact ⟨e, he, alike_of (hh.1.trans p1) (hh.2.trans p2)⟩)
 have hownA : ∀ b, OwnB (s.1.after ids (outH ids.length q3.1)) β' b -> OwnB q3.1 β3 b \/ (OwnB s.1 β b /\ ¬ X0 b) := by
  rintro b ⟨i, f, hf, hlf, rfl⟩
  rcases hown5 i f hf hlf with ⟨k, e', hk, hle, heq⟩ | ⟨hni, e, hie, hle, heq⟩
  ·exact .inl ⟨k, e', (hin k e' hk).1, hle, heq⟩
  ·refine .inr ⟨⟨i, e, hie, hle, heq⟩, fun hh => ?_⟩
   obtain ⟨j, e2, hj, hje, hl2, heq2⟩ := hX _ hh
   exact hni (R.r.hp.inj j i e2 e hje hie hl2 hle (by rw [heq2, heq]) ▸ hj)
 have hO3c : ∀ b, O3 b -> W.heap.size <= b \/ X0 b \/ O b := by
  intro b hb
  rcases Q4.of b hb with h3 | h3
  ·exact .inl (by rw [<- gbase]; exact h3)
  ·rcases gX b h3 with h3 | h3 | rfl
   ·exact .inr (.inl h3)
   ·exact .inr (.inr h3)
   ·exact absurd (hV4 b (.inr (.inr (.inl hb)))) hVl
 have hK3c : ∀ b, K3 b -> V b := fun b hb => hV4 b (.inr (.inr (.inr hb)))
 have hownV : ∀ b, OwnB s.1 β b -> ¬ X0 b -> ¬ V b := by
  intro b hb hnx hv
  rcases hVc b hv with h | h | h | h | h
  ·exact hok1own b h hb
  ·exact hnx h
  ·exact (R.wo b hb).1 h
  ·exact (R.wo b hb).2.1 h
  ·have := hXlt b hb; omega
 refine ⟨⟨O3, K3, fun b => ok1 b \/ ok3 b, β', ⟨Q4.j, R5, Q4.lt, ?_, ?_, ?_, ?_, R.nd, fun b hb => R.zz b (Nat.le_trans hbel4.size hb), ?_, R.vn, Nat.le_trans R.vs hbel4.size, ?_, fun b hb => hO4 b (R.om b hb), fun b hb => ?_, R.vu.2⟩, ?_, ?_, fun h => hVl (hV4 l (.inr (.inr (.inl h)))), fun h => hVl (hK3c l h), hO4, ?_, ?_, ?_⟩, hl4, ?_⟩
 ·-- ko
  rintro b (hb | hb) hO
  ·rcases hO3c b hO with h | h | h
   ·have := hok1lt b hb; omega
   ·exact hok1own b hb (hXo b h)
   ·exact hok1O b hb h
  ·exact Q4.ko b hb hO
 ·-- wo
  intro b hb
  rcases hownA b hb with h | ⟨h, hnx⟩
  ·exact Q4.wo b h
  ·have hnv := hownV b h hnx
   exact ⟨fun hO => hnv (hV4 b (.inr (.inr (.inl hO)))), fun hK => hnv (hK3c b hK), (R.wo b h).2.2⟩
 ·-- of
  intro b hb
  rcases hO3c b hb with h | h | h
  ·exact .inl (Nat.le_trans R.r.bas h)
  ·exact hFX b (.inl h)
  ·exact R.of b h
 ·-- marks
  intro d hd
  obtain ⟨g1, g2, g3, g4, g5, g6, g7⟩ := R.mks d hd
  have hnv := hVms d hd
  have hdl : d ≠ l := fun h => hnl.2.2.2.2.1 (h ▸ hd)
  refine ⟨?_, ?_, ?_, fun h => hnv (hV4 d (.inr (.inr (.inl h)))), fun h => hnv (hK3c d h), g6, g7⟩
  ·rw [hbel4.block d (Array.getElem?_eq_some_iff.1 g1).1 (fun h => ?_)]
   ·exact g1
   ·rcases h with h | h | h
    ·exact g3 (hXo d h)
    ·exact g4 h
    ·exact hdl h
  ·rintro (h | h)
   ·exact hok1ms d hd h
   ·exact hnv (hV4 d (.inl h))
  ·intro h
   rcases hownA d h with h | ⟨h, _⟩
   ·exact hnv (hV4 d (.inr (.inl h)))
   ·exact g3 h
 ·-- seen
  intro b hb
  rcases hb with (hb | hb) | hb | hb | hb
  ·exact hVC b (hVi b (.inl hb))
  ·exact hVC b (hV4 b (.inl hb))
  ·rcases hownA b hb with h | ⟨h, _⟩
   ·exact hVC b (hV4 b (.inr (.inl h)))
   ·exact R.vv b (.inr (.inl h))
  ·exact hVC b (hV4 b (.inr (.inr (.inl hb))))
  ·exact hVC b (hK3c b hb)
 ·-- others
  intro b hb
  have hlt : b < W.heap.size := Nat.lt_of_not_le (fun hh => hb (R.vn b (Nat.le_trans R.vs hh)))
  rw [hbel4.block b hlt (fun h => ?_)]
  ·exact R.nv b hb
  ·rcases h with h | h | h
   ·exact hb (R.vv b (.inr (.inl (hXo b h))))
   ·exact hb (R.vv b (.inr (.inr (.inl h))))
   ·exact hb (h ▸ hnl.2.2.2.2.2.2.2)
 ·rcases hb with (hb | hb) | hb
  ·exact (hok1c b hb).elim (fun h => R.vu.1 b (.inl h)) (fun h => (hx b h).2.2.2.2.2.2.2)
  ·exact Q4.vu.1 b (.inl hb)
  ·rcases hownA b hb with h | ⟨h, _⟩
   ·exact Q4.vu.1 b (.inr h)
   ·exact R.vu.1 b (.inr h)
 ·rintro (h | h)
  ·exact hok1l h
  ·exact hVl (hV4 l (.inl h))
 ·intro h
  rcases hownA l h with h | ⟨h, _⟩
  ·exact hVl (hV4 l (.inr (.inl h)))
  ·exact hnl.2.1 h
 ·intro b hb
  rcases hO3c b hb with h | h | h
  ·exact .inr (.inr h)
  ·exact .inl (hXo b h)
  ·exact .inr (.inl h)
 ·intro b hb
  rcases hownA b hb with h | ⟨h, _⟩
  ·rcases hown3 b h with h | h
   ·exact .inr h
   ·exact .inl (hXo b h)
  ·exact .inl h
 ·intro b hb
  have hv : V b -> ok b \/ okx b \/ OwnB s.1 β b \/ O b \/ K b \/ W.heap.size <= b := by
   intro h
   rcases hVc b h with h | h | h | h | h
   ·exact (hok1c b h).elim .inl (fun h => .inr (.inl h))
   ·exact .inr (.inr (.inl (hXo b h)))
   ·exact .inr (.inr (.inr (.inl h)))
   ·exact .inr (.inr (.inr (.inr (.inl h))))
   ·exact .inr (.inr (.inr (.inr (.inr h))))
  rcases hb with (hb | hb) | hb
  ·exact hv (hVi b (.inl hb))
  ·exact hv (hV4 b (.inl hb))
  ·exact hv (hK3c b hb)
 ·exact ⟨hbel4.os, hbel4.tape, hbel4.output, hbel4.size, fun k hk hz => hbel4.block k hk (fun h => hz (by
   rcases h with h | h | h
   ·exact .inl (hXo k h)
   ·exact .inr (.inl h)
   ·exact .inr (.inr h)))⟩

theorem roundC_mono {asg bdy : Code} {asgE bdyE : St × σ -> (Exit -> St × σ -> Option (RoundR σ)) -> Option (RoundR σ)} (hasg : CodeOK P J Ok asg (RoundR σ) asgE) (hbdy : CodeOK P J Ok bdy (RoundR σ) bdyE) {p : Nat} {pre : St -> St} {yd : D}
  (h : roundC Y asgE bdyE p pre s yd = some s1) (hk : Ok s1.2) : Ok s.2 := by
 unfold roundC at h
 obtain ⟨q, hq, rfl⟩ := Option.map_eq_some_iff.1 h
 exact round_mono hasg hbdy hq hk
theorem RoundPost.pre {ok okx : Nat -> Prop} {β : Nat -> Nat × Nat} {l : Nat} {r : Loop} {W w' : World} {pre : St -> St} (hpre : ∀ (F : Fr P) (st : St) (a : Act) (w : World), Rel P F st a w -> Rel P F (pre st) a w)
  (h : RoundPost P F J C s s1 O K ok okx β ms a l r W w') : RoundPost P F J C s (pre s1.1, s1.2) O K ok okx β ms a l r W w' := by
 obtain ⟨O', K', ok', β', R', n1, n2, n3, n4, p1, p2, p3, p4⟩ := h.ex
 obtain ⟨ok2, β2, R2⟩ := hpre (Fr.now R'.r) s1.1 a w' ⟨ok', β', R'.r.rebase⟩
 obtain ⟨_, t2, t3⟩ := R'.r.turned R2
 have u2 : ∀ b, ok2 b -> ok' b \/ OwnB s1.1 β' b := by
  intro b hb
  have hlt := (R2.okb b hb).1
  rcases t2 b hb with h | h | h
  ·exact .inl h
  ·omega
  ·exact .inr h
 have u3 : ∀ b, OwnB (pre s1.1) β2 b -> OwnB s1.1 β' b := by
  intro b hb
  have hlt : b < w'.heap.size := by
   obtain ⟨i, e, h1, h2, h3⟩ := hb
   exact h3 ▸ R2.hp.siz i e h1 h2
  rcases t3 b hb with h | h
  ·omega
  ·exact h
 refine ⟨⟨O', K', ok2, β2, R'.own R2, fun hh => ?_, fun hh => n2 (u3 l hh), n3, n4, p1, p2, fun b hb => p3 b (u3 b hb), fun b hb => ?_⟩, h.lrec, h.bel⟩
 ·rcases u2 l hh with h | h
  ·exact n1 h
  ·exact n2 h
 ·rcases hb with hb | hb
  ·rcases u2 b hb with h | h
   ·exact p4 b (.inl h)
   ·rcases p3 b h with h | h
    ·exact .inr (.inr (.inl h))
    ·exact .inr (.inr (.inr (.inr (.inr h))))
  ·exact p4 b (.inr hb)
end
end
end Go.Ev
