/- Trees of functions, and lemmas. Nothing here is trusted. -/
import Derived.Test.YtdacippnonhahaaDoorZ27
import Derived.Maps.OwnSet
import Derived.Carry
namespace Go.Ev
open Go.RowKit
set_option linter.unusedVariables false
set_option linter.unusedSimpArgs false
set_option maxHeartbeats 1000000
section
open Go.Maps (Keyed IsMap)
abbrev MX := List (List UInt8) × List Nat
/-- The types of such a set: its own, its keys', its elements'; the bool's. -/
structure MapTy (P : Program) (mt kt et bo : TypeId) : Prop where
 m : P.underlying mt = some (.map kt et)
 k : P.underlying kt = some .string
 e : P.underlying et = some (.struct #[])
 c : P.cellsOf et = 0
 z : ∀ w, (zeroValue et).run P w = .ok (.agg #[]) w
 b : P.underlying bo = some .bool
 d : P.cellsOf bo = 1

def mapH (P : Program) (mt : TypeId) (v : AV) : Option Nat := match v.d with
 | .held (.map (some b)) => if v.tag == 1 && v.ty == mt then some b else none
 | _ => none
def keyH (kt : TypeId) (v : AV) : Option (List UInt8) := match v.d with
 | .lit (.string s) => if v.tag == 1 && v.ty == kt then some s else none
 | _ => none
def putH (P : Program) (mt kt et : TypeId) (o : Oper) (t : TypeId) (m k u : Operand) (st : St) (x : MX) : Option (St × MX) :=
 match mapH P mt (opd P st mt m), keyH kt (opd P st kt k) with
 | some b, some s => if t == mt && o.dst.isNone && (opd P st et u).tag == 1 && (opd P st et u).ty == et then some (st, (s :: x.1, b :: x.2)) else none
 | _, _ => none
def mapOp (P : Program) (mt kt et bo : TypeId) (o : Oper) (st : St) (x : MX) : Option (St × MX) :=
 match o.op with
 | .lookup t m k true => (match mapH P mt (opd P st mt m), keyH kt (opd P st kt k) with
  | some b, some s => if t == mt then some (st.put o.dst (tupA [et, bo] (.agg [.agg [], .lit (.bool (x.1.contains s))])), (x.1, b :: x.2)) else none
  | _, _ => none)
 | .mapUpdate t m k u => putH P mt kt et o t m k u st x
 | .insert t m k u => putH P mt kt et o t m k u st x
 | _ => none
def mapF (o : Oper) : Bool := match o.op with | .lookup _ _ _ _ => true | .mapUpdate _ _ _ _ => true | .insert _ _ _ _ => true | _ => false
def mapEnv (P : Program) (mt kt et bo bt ei : TypeId) (it : FuncId -> D -> Option (List D)) : YEnv MX := ⟨mapF, mapOp P mt kt et bo, it, bt, ei⟩
def mapJ (P : Program) (kt : TypeId) (b : Nat) : JJ MX where
 J x w O K := (∀ c, O c ↔ c = b) /\ (∀ c, ¬ K c) /\ ∃ (n : Nat) (M : D), w.ownsMap P kt unitElem b n M /\ n <= x.1.length /\ ∀ s, Maps.has M (.string s) = x.1.contains s
 Z := fun _ => True
 U := fun _ => True
 fr := by
  rintro x w w' O K ⟨h1, h2, n, M, ⟨es, clock, hb, hr⟩, h4, h5⟩ hbel
  refine ⟨h1, h2, n, M, ⟨es, clock, ?_, hr⟩, h4, h5⟩
  rw [hbel.block b (Array.getElem?_eq_some_iff.1 hb).1 (fun hh => hh.2.1 ((h1 b).2 rfl))]
  exact hb

section
variable {P : Program} {w w' : World} {ok : Nat -> Prop} {st : St}
theorem RepV.map {t k e : TypeId} {v : Value} {d : D} (h : RepV P w ok t v d) (hu : P.underlying t = some (.map k e)) : d = .held v /\ ∃ b, v = .map b := by
 obtain ⟨⟨n, hn⟩, _, h2⟩ := h
 have h3 := h2 (by simp [isAggB, hu])
 cases n with
 | zero => exact hn.elim
 | succ n =>
  obtain ⟨_, _, g⟩ := hn
  rw [hu] at g
  split at g <;> (simp_all; done)
theorem RepV.unit {t : TypeId} {v : Value} {d : D} (h : RepV P w ok t v d) (hu : P.underlying t = some (.struct #[])) (hc : P.cellsOf t = 0) : v = .agg #[] := by
 obtain ⟨⟨n, hn⟩, h1, _⟩ := h
 obtain ⟨cs, rfl⟩ := h1 (by simp [isAggB, hu])
 have hl := hn.len
 rw [hc] at hl
 have : cs = #[] := by
  apply Array.eq_empty_of_size_eq_zero
  simpa [Value.cells] using hl
 rw [this]

theorem mapH_spec {F : Fr P} {ok : Nat -> Prop} {β : Nat -> Nat × Nat} {a : Act} (R : RelX P F st ok β a w) {mt k e : TypeId} {m : Operand} {b : Nat} (hu : P.underlying mt = some (.map k e)) (h : mapH P mt (opd P st mt m) = some b) : a.eval m = .map (some b) := by
 unfold mapH at h
 split at h
 ·rename_i b' hd
  split at h
  ·rename_i hc
   simp only [Bool.and_eq_true, beq_iff_eq] at hc
   cases h
   have hr := (opd_rep R mt m).d1 hc.1
   rw [hc.2] at hr
   obtain ⟨h1, b2, h2⟩ := hr.map hu
   rw [hd] at h1
   injection h1 with h1
   exact h1.symm
  ·cases h
 ·cases h
theorem keyH_spec {F : Fr P} {ok : Nat -> Prop} {β : Nat -> Nat × Nat} {a : Act} (R : RelX P F st ok β a w) {kt : TypeId} {k : Operand} {s : List UInt8} (hu : P.underlying kt = some .string) (h : keyH kt (opd P st kt k) = some s) : a.eval k = .string ⟨s.toArray⟩ /\ s.length <= maxLen := by
 unfold keyH at h
 split at h
 ·rename_i s' hd
  split at h
  ·rename_i hc
   simp only [Bool.and_eq_true, beq_iff_eq] at hc
   cases h
   have hr := (opd_rep R kt k).d1 hc.1
   rw [hc.2] at hr
   obtain ⟨s2, h1, h2⟩ := hr.string hu
   rw [hd] at h1
   cases h1
   exact ⟨h2, ((opd_rep R kt k).d1 hc.1).strLen (by rw [hc.2]; exact hu) hd⟩
  ·cases h
 ·cases h

theorem key_of {kt : TypeId} {s : List UInt8} (hu : P.underlying kt = some .string) (hl : s.length <= maxLen) : keyOf P kt (.string ⟨s.toArray⟩) = some (.string s) := by
 have h := Go.WideMaps.keyOf_string_mk (P := P) (k := kt) hu (s := ⟨s.toArray⟩) (by show s.toArray.size <= maxLen; simpa using hl)
 simpa using h
theorem map_fop {mt kt et bo bt ei : TypeId} {it : FuncId -> D -> Option (List D)} (T : MapTy P mt kt et bo) (b : Nat) : FopOK P (mapJ P kt b) (fun x => (∀ b' ∈ x.2, b' = b) /\ x.1.length < 100000) (mapEnv P mt kt et bo bt ei it) := by
 have put_ok : ∀ {o : Oper} {t : TypeId} {m k u : Operand} {st st' : St} {x x' : MX} (F : Fr P) (C : Cx) (ms : List Nat) (a : Act) (w : World) (rd : Option Nat) (n : Nat) (Q : Exit -> Act -> World -> Prop),
   putH P mt kt et o t m k u st x = some (st', x') -> ((∀ b' ∈ x'.2, b' = b) /\ x'.1.length < 100000) -> RelJ P F (mapJ P kt b) C ms st x a w -> execOp a.eval o = (do Instr.mapUpdate t (a.eval m) (a.eval k) (a.eval u); pure .skip) -> (∀ c, o.op ≠ .defer c) ->
   o.wpIn (wr rd) n P a w (RelJ P F (mapJ P kt b) C ms st' x') Q := by
  intro o t m k u st st' x x' F C ms a w rd n Q h hk R hx hnd
  unfold putH at h
  split at h
  rotate_left
  ·cases h
  rename_i b' s hm hs
  rw [Option.ite_none_right_eq_some] at h
  obtain ⟨hc, h⟩ := h
  simp only [Bool.and_eq_true, beq_iff_eq, decide_eq_true_eq, Option.isNone_iff_eq_none] at hc
  obtain ⟨⟨⟨c1, c2⟩, c3⟩, c4⟩ := hc
  simp only [Option.some.injEq, Prod.mk.injEq] at h
  obtain ⟨rfl, rfl⟩ := h
  have hbb : b' = b := hk.1 b' (by simp)
  subst hbb
  subst c1
  obtain ⟨O, K, ok, β, R⟩ := R
  have e1 := mapH_spec R.r T.m hm
  obtain ⟨e2, e2l⟩ := keyH_spec R.r T.k hs
  have hr := (opd_rep R.r et u).d1 c3
  rw [c4] at hr
  have e3 := hr.unit T.e T.c
  obtain ⟨j1, j2, q, M, j3, j4, j5⟩ := R.j
  have hkl : x.1.length + 1 < 100000 := hk.2
  obtain ⟨w', hrun, r1, r2⟩ := j3.update (Go.Maps.string_keyed T.k) T.m (by unfold maxLen; omega) (key := .string ⟨s.toArray⟩) (val := .agg #[]) (key_of T.k e2l) unitElem_mk
  have hsem : o.semAt (wr rd).round a.eval = execOp a.eval o := by
   cases rd with
   | none => rfl
   | some l => exact Oper.semAt_some l _ _ hnd
  refine ⟨fun _ _ => trivial, ?_⟩
  rw [hsem, hx, e1, e2, e3, Sem.run_bind, hrun]
  simp only [Result.andThen_ok, Sem.run_pure, Oper.uponIn_skip]
  have hput : a.put o.dst undef = a := by rw [c2]; rfl
  rw [hput]
  have hbel : BelowX (fun c => c = b') w.heap.size w w' := ⟨r2.os, r2.tape, r2.output, r2.size, fun k hk hne => r2.block k hk (fun e => hne (by cases e; rfl))⟩
  have hOb : O b' := (j1 b').2 rfl
  have hO : ∀ c, c = b' -> O c := fun c hc => hc ▸ hOb
  have hblt : b' < w.heap.size := R.lt b' (.inl hOb)
  refine ⟨O, K, ok, β, ⟨j1, j2, q + 1, _, r1, by simpa using j4, fun s' => ?_⟩, R.r.frame hbel (fun c hc h => R.ko c h (hO c hc)) (fun c hc h => (R.wo c h).1 (hO c hc)) (fun c hc => R.of c (hO c hc)), fun c hc => Nat.lt_of_lt_of_le (R.lt c hc) hbel.size, R.ko, R.wo, R.of, fun d hd => ?_, R.nd, fun c hc => R.zz c (Nat.le_trans hbel.size hc), R.vv, R.vn, Nat.le_trans R.vs hbel.size, fun c hc => ?_, R.om, R.vu⟩
  ·by_cases hss : s' = s
   ·subst hss
    rw [Maps.has_put_same (k := .string s') j3.isMap (show WideAt.IsKeyLit (.string s') from trivial)]
    simp
   ·rw [Maps.has_put_other (fun e => hss (by cases e; rfl)), j5 s']
    simp only [List.contains_cons]
    have : (s' == s) = false := by simpa using hss
    rw [this, Bool.false_or]
  ·obtain ⟨g1, g2, g3, g4, g5, g6⟩ := R.mks d hd
   exact ⟨by rw [hbel.block d (Array.getElem?_eq_some_iff.1 g1).1 (fun hh => g4 (hO d hh))]; exact g1, g2, g3, g4, g5, g6⟩
  ·have hlt : c < w.heap.size := Nat.lt_of_not_le (fun hh => hc (R.vn c (Nat.le_trans R.vs hh)))
   rw [hbel.block c hlt (fun hh => hc (R.vv c (.inr (.inr (.inl (hO c hh))))))]
   exact R.nv c hc
 refine ⟨fun o st x st' x' h hk => ?_, fun F C ms st st' x x' a w o rd n Q hF h hk R => ?_⟩
 ·change mapOp P mt kt et bo o st x = _ at h
  unfold mapOp putH at h
  repeat' split at h
  all_goals first | (cases h; done) | (simp only [Option.some.injEq, Prod.mk.injEq] at h; obtain ⟨_, rfl⟩ := h; exact ⟨fun b' hb => hk.1 b' (List.mem_cons_of_mem _ hb), by have := hk.2; simp at this; omega⟩)
 ·change mapOp P mt kt et bo o st x = _ at h
  unfold mapOp at h
  split at h
  ·rename_i t m k hop
   split at h
   rotate_left
   ·cases h
   rename_i b' s hm hs
   split at h
   rotate_left
   ·cases h
   rename_i c1
   have c1 : t = mt := by simpa using c1
   subst c1
   simp only [Option.some.injEq, Prod.mk.injEq] at h
   obtain ⟨rfl, rfl⟩ := h
   have hbb : b' = b := hk.1 b' (by simp)
   subst hbb
   obtain ⟨O, K, ok, β, R⟩ := R
   have e1 := mapH_spec R.r T.m hm
   obtain ⟨e2, e2l⟩ := keyH_spec R.r T.k hs
   obtain ⟨j1, j2, q, M, j3, j4, j5⟩ := R.j
   obtain ⟨v, ps, hrun, hv⟩ := j3.look_ok (Go.Maps.string_keyed T.k) T.m (T.z w) unitElem_mk (key := .string ⟨s.toArray⟩) (key_of T.k e2l)
   obtain ⟨rfl, _⟩ := unitElem_inv hv
   have hx : (execOp a.eval o).run P w = .ok (.value (.tuple #[.agg #[], .bool (x.1.contains s)])) w := by
    unfold execOp
    simp only [hop, e1, e2]
    rw [Sem.run_bind, hrun]
    simp only [Result.andThen_ok, Sem.run_pure]
    rw [j5 s]
   refine wpIn_of_wp (fun c hc => by rw [hop] at hc; cases hc) ?_
   unfold Oper.wp
   rw [hx]
   have ht1 : RepV P w ok et (.agg #[]) (.agg []) := ⟨⟨1, by simp [Value.cells, T.c], by simp [Value.cells], by rw [T.e]; exact ⟨by simp, fun k f hf => by simp at hf⟩⟩, fun _ => ⟨_, rfl⟩, fun hh => by simp [isAggB, T.e] at hh⟩
   have ht2 : RepV P w ok bo (.bool (x.1.contains s)) (.lit (.bool (x.1.contains s))) := repV_bool T.b T.d
   have hrep : RepAV P w ok β st.bx (tupA [et, bo] (.agg [.agg [], .lit (.bool (x.1.contains s))])) (.tuple #[.agg #[], .bool (x.1.contains s)]) := by
    refine ⟨fun h => by simp [tupA] at h, fun h => by simp [tupA] at h, fun h => by simp [tupA] at h, fun h => by simp [tupA] at h, fun h => by simp [tupA] at h, fun _ => ⟨_, rfl, rfl, fun k t hk => ?_⟩, fun h => by simp [tupA] at h, fun h => by simp [tupA] at h, fun h => by simp [tupA] at h, fun h => by simp [tupA] at h, fun h => by simp [tupA] at h⟩
    match k, hk with
    | 0, hk => cases hk; exact ht1
    | 1, hk => cases hk; exact ht2
    | k + 2, hk => simp [tupA] at hk
   have R' := R.r.rebase.put hrep (live_of_ne (by simp [tupA]) (by simp [tupA]) (by simp [tupA])) o.dst
   have RO := R.own R'
   exact ⟨O, K, ok, β, RO.j, RO.r, RO.lt, RO.ko, RO.wo, RO.of, RO.mks, RO.nd, RO.zz, RO.vv, RO.vn, RO.vs, RO.nv, RO.om, RO.vu⟩
  ·rename_i t m k u hop
   exact put_ok F C ms a w rd n Q h hk R (by unfold execOp; simp only [hop]) (fun c hc => by rw [hop] at hc; cases hc)
  ·rename_i t m k u hop
   exact put_ok F C ms a w rd n Q h hk R (by unfold execOp; simp only [hop]) (fun c hc => by rw [hop] at hc; cases hc)
  ·cases h
end
end
section
section
variable {P : Program} {env : Env} {F : Fr P} {C : Cx} {ms : List Nat} {st st' : St} {a : Act} {w : World}

/-- Where a piece of code goes on. -/
def nrm (e : Exit) (s : St × Unit) : Option St := match e with | .normal => some s.1 | _ => none
theorem run_nrm (hm : P.follows .mixedOrders = true) (henv : EnvOK P env) {bt ei : TypeId} {it : FuncId -> D -> Option (List D)} (hIt : ∀ f d ys, it f d = some ys -> IterOK P f bt ei d ys) {hh : Hints} {fuel : Nat} {c : Code}
  (h : evCodeY P env (noY bt ei it) hh fuel c true St (st, ()) nrm = some st') (R : RelJ P F noJ C ms st () a w) : c.wpIn (wr none) 0 P (fun e a w => e = .normal /\ ∃ ms, RelJ P F noJ C ms st' () a w) a w := by
 refine wpIn_mono (evCodeY_sound (Ok := fun _ => True) hm henv no_fop hIt hh fuel c true none 0 St st' F C ms (st, ()) nrm (fun _ => rfl) h (fun _ _ _ => trivial) a w R) ?_
 rintro e a' w' ⟨ms', s', R', hk⟩
 cases e with
 | normal =>
  have : s'.1 = st' := by simpa [nrm] using hk
  subst this
  exact ⟨rfl, ms', R'⟩
 | exit i => cases hk
 | ret => cases hk
 | goto l => cases hk
 | panic c => cases hk
 | outgrown => cases hk

/-- A new set of texts. -/
theorem made_rel {mt kt et bo : TypeId} (T : MapTy P mt kt et bo) (hmc : P.cellsOf mt = 1) (R : RelJ P F noJ C ms st () a w) (hO : ∀ b, ¬ C.O0 b) (d : Option Nat) :
  RelJ P F (mapJ P kt w.heap.size) C ms (st.put d (dat mt (.held (.map (some w.heap.size))))) ([], []) (a.put d (.map (some w.heap.size))) (w.alloc (.map #[] 0)) := by
 obtain ⟨O, K, ok, β, R⟩ := R
 have hno := R.j
 have hb : Below w.heap.size w (w.alloc (.map #[] 0)) := (Below.refl _ _).alloc (Nat.le_refl _) _
 have hsz : (w.alloc (.map #[] 0)).heap.size = w.heap.size + 1 := by simp
 have R1 := R.frame (Z := fun _ => False) (w' := w.alloc (.map #[] 0)) ⟨hb.os, hb.tape, hb.output, hb.size, fun k hk _ => hb.block k hk⟩ (fun b hb => hb.elim)
 have hrep : RepV P (w.alloc (.map #[] 0)) ok mt (.map (some w.heap.size)) (.held (.map (some w.heap.size))) :=
  ⟨⟨1, by simp [Value.cells, hmc], by simp [Value.cells, Value.oneCell'], by rw [T.m]; exact ⟨by simp [Value.cells], _, rfl⟩⟩, by simp [isAggB, T.m], fun _ => by simp [Value.cells]⟩
 have R2 := R1.own (R1.r.rebase.put (repAV_dat hrep) (live_of_ne (by simp [dat]) (by simp [dat]) (by simp [dat])) d)
 have hbx : (st.put d (dat mt (.held (.map (some w.heap.size))))).bx = st.bx := by
  cases d <;> rfl
 have hlt : ∀ c, OwnB (st.put d (dat mt (.held (.map (some w.heap.size))))) β c -> c < w.heap.size := by
  rintro c ⟨i, e, hi, hl, rfl⟩
  rw [hbx] at hi
  exact R.r.hp.siz i e hi hl
 refine ⟨fun c => c = w.heap.size, fun _ => False, ok, β, ⟨fun c => Iff.rfl, fun _ h => h, 0, _, World.ownsMap_made w P kt unitElem, by simp, fun s => by simp [Maps.has]⟩, R2.r, ?_, ?_, ?_, ?_, ?_, R2.nd, fun _ _ => trivial, ?_, R2.vn, R2.vs, R2.nv, fun b h => (hO b h).elim, fun _ _ => trivial, fun _ _ => trivial⟩
 ·rintro b (rfl | h)
  ·omega
  ·exact h.elim
 ·rintro b hb rfl
  have := (R.r.okb _ hb).1
  omega
 ·refine fun b hb => ⟨?_, fun h => h, trivial⟩
  rintro rfl
  have := hlt _ hb
  omega
 ·rintro b rfl
  exact .inl R.r.bas
 ·intro e he
  obtain ⟨g1, g2, g3, g4, g5, g6, g7, g8⟩ := R2.mks e he
  obtain ⟨q1, _⟩ := R.mks e he
  have hel : e < w.heap.size := (Array.getElem?_eq_some_iff.1 q1).1
  exact ⟨g1, g2, g3, by omega, fun h => h, g6, trivial, g8⟩
 ·rintro b (h | h | h | h)
  ·exact R2.vv b (.inl h)
  ·exact R2.vv b (.inr (.inl h))
  ·subst h
   exact R.vn _ R.vs
  ·exact h.elim

/-- What goes on in such a function from its set on: the set is in slot d. -/
def evSet (P : Program) (env : Env) (Y : YEnv MX) (hh : Hints) (fuel : Nat) (fn : Func) (ops : Array Oper) (d : Option Nat) (mt : TypeId) (c : Code) (b : Nat) (s : St) : Option (AV × MX) :=
 (runG (stepY P env Y ops) ops.toList.tail ((prep env ops.toList s).put d (dat mt (.held (.map (some b)))), ([], []))).bind fun s => evCodeY P env Y hh fuel c true (AV × MX) s (finY P fn)

/-- A function that makes a set of texts, in its fourth piece of code. -/
theorem set_sound (hm : P.follows .mixedOrders = true) (henv : EnvOK P env) {mt kt et bo bt ei : TypeId} {it : FuncId -> D -> Option (List D)} (T : MapTy P mt kt et bo) (hmc : P.cellsOf mt = 1) (hIt : ∀ f d ys, it f d = some ys -> IterOK P f bt ei d ys) {hh : Hints} {fuel : Nat} {f : FuncId} {fn : Func}
  {c0 c1 c2 c4 : Code} {id : Nat} {ops : Array Oper} {o : Oper} {args : List AV} {r : AV} {s1 s2 s3 : St} (hf : P.funcs[f]? = some fn) (hname : (fn.name == "runtime.NumGoroutine") = false) (hb : fn.body = some (.seq c0 (.seq c1 (.seq c2 (.seq (.region id ops false) c4)))))
  (hall : args.all (fun v => v.tag == 1 && v.ix == 0 && v.tys.isEmpty) = true)
  (h0 : evCodeY P env (noY bt ei it) hh fuel c0 true St (begin_ fn args, ()) nrm = some s1) (h1 : evCodeY P env (noY bt ei it) hh fuel c1 true St (s1, ()) nrm = some s2) (h2 : evCodeY P env (noY bt ei it) hh fuel c2 true St (s2, ()) nrm = some s3)
  (ho : ops[0]? = some o) (hop : o.op = .makeMap mt none) (hk : asked P ops o (prep env ops.toList s3) = some true)
  (h4 : ∀ b, ∃ q, evSet P env (mapEnv P mt kt et bo bt ei it) hh fuel fn ops o.dst mt c4 b s3 = some q /\ q.1 = r /\ (∀ b' ∈ q.2.2, b' = b) /\ q.2.1.length < 100000) (htag : r.tag = 1 \/ r.tag = 6) : CallOK P f args r := by
 refine ⟨⟨fn, _, hf, hb, hname⟩, htag, fun w okA vs htb hok hargs => ?_⟩
 have R := begin_rel (fn := fn) htb hok (argsRep_len hargs) (args_one hall hargs)
 have RJ : RelJX P ⟨w.heap.size, w, okA, fun _ => False, fun _ => undef, fun _ => 0, htb, []⟩ noJ ⟨fun b => okA b \/ w.heap.size <= b, w, fun _ => False⟩ (begin_ fn args) () (fun _ => False) (fun _ => False) okA (fun _ => (0, 0)) [] { tmps := vs.toArray ++ Array.replicate (fn.ntmps - vs.toArray.size) undef, defers := [] } w := by
  refine ⟨fun b => ⟨fun h => h, fun h => h⟩, R, fun b hb => (by rcases hb with h | h <;> exact h.elim), fun b _ h => h, fun b hb => ?_, fun b hb => hb.elim, by simp, List.nodup_nil, fun _ _ => trivial, fun b hb => ?_, fun b hb => .inr hb, Nat.le_refl _, fun _ _ => rfl, fun _ h => h, fun _ _ => trivial, fun _ _ => trivial⟩
  ·obtain ⟨i, e, hi, _⟩ := hb; cases hi
  ·rcases hb with h | h | h | h
   ·exact .inl h
   ·obtain ⟨i, e, hi, _⟩ := h; cases hi
   ·exact h.elim
   ·exact h.elim
 refine callsIn_wr (rd := none) (n := 0) |>.1 (callsIn_of_wp_marks (F := wr none) hf hb trivial (wpIn_seq (wpIn_mono (run_nrm hm henv hIt h0 ⟨_, _, _, _, RJ⟩) ?_)) rfl)
 rintro e a1 w1 ⟨rfl, ms1, R1⟩
 refine wpIn_seq (wpIn_mono (run_nrm hm henv hIt h1 R1) ?_)
 rintro e a2 w2 ⟨rfl, ms2, R2⟩
 refine wpIn_seq (wpIn_mono (run_nrm hm henv hIt h2 R2) ?_)
 rintro e a3 w3 ⟨rfl, ms3, R3⟩
 refine wpIn_seq (wpIn_region ?_)
 have Rp := R3.prep env ops.toList
 have hops : ops.toList = o :: ops.toList.tail := by
  have : ops.toList[0]? = some o := by simpa using ho
  cases hl : ops.toList with
  | nil => rw [hl] at this; cases this
  | cons x l => rw [hl] at this; cases this; rfl
 have hsize : List.range ops.size = 0 :: List.range' 1 ops.toList.tail.length := by
  rw [List.range_eq_range', <- Array.length_toList, hops]
  simp [List.range'_succ]
 rw [hsize, wpOpsIn_cons]
 unfold wpOpIn
 rw [ho]
 simp only
 have Rq := Rp
 obtain ⟨O, K, ok, β, Rq⟩ := Rq
 rw [asked_wanted Rq.r hk]
 simp only [if_true]
 refine wpIn_of_wp (fun c hc => by rw [hop] at hc; cases hc) ?_
 unfold Oper.wp
 have hx : (execOp a3.eval o).run P w3 = .ok (.value (.map (some w3.heap.size))) (w3.alloc (.map #[] 0)) := by
  unfold execOp
  simp only [hop, Option.map_none]
  rw [Sem.run_bind, run_makeMap]
  simp only [Result.andThen_ok, Sem.run_pure]
 rw [hx]
 have Rm := made_rel T hmc Rp (fun _ h => h) o.dst
 obtain ⟨q, hq, hq1, hq2⟩ := h4 w3.heap.size
 unfold evSet at hq
 obtain ⟨s4, hs4, hq⟩ := Option.bind_eq_some_iff.1 hq
 have hfin : ∀ (e : Exit) (s : St × MX), finY P fn e s = some q -> s.2 = q.2 := by
  intro e s h
  cases e <;> first | (cases h; done) | (obtain ⟨_, _, rfl⟩ := Option.map_eq_some_iff.1 h; rfl)
 have hOk : ∀ (e : Exit) (s : St × MX), finY P fn e s = some q -> (∀ b' ∈ s.2.2, b' = w3.heap.size) /\ s.2.1.length < 100000 := by
  intro e s h
  rw [hfin e s h]
  exact hq2
 have hF := map_fop (bt := bt) (ei := ei) (it := it) T w3.heap.size
 refine runY_sound (rd := none) (n := 0) henv hF (s' := s4) (evCodeY_mono hF hh fuel c4 true _ q s4 _ hq hOk) (fun a4 w4 R => ?_) ops.toList.tail 1 _ _ _ (fun j => by rw [<- Array.getElem?_toList, hops]; simp [Nat.add_comm 1 j]) hs4 Rm
 refine wpIn_mono (evCodeY_sound hm henv hF hIt hh fuel c4 true none 0 _ q _ _ _ s4 _ (fun _ => rfl) hq hOk a4 w4 R) ?_
 rintro e a' w' ⟨ms, s', ⟨O, K, ok, β, R'⟩, hk⟩
 have hdf : a'.defers = ms.map markOf := R'.r.df
 have key : ∀ {e : Exit}, finY P fn e s' = some q -> LeavesInM (wr none) 0 P fn a'.tmps (fun e' w' => ∃ v' ok', e' = .returned v' /\ Below w.heap.size w w' /\ (∀ b, ok' b -> b < w'.heap.size /\ (okA b \/ w.heap.size <= b)) /\ RepAV P w' ok' (fun _ => (0, 0)) (fun _ => none) r v') a'.defers .returning w' := by
  intro e hk
  rw [hdf]
  refine leaves_marks (fun a5 w5 O K ok β ha R5 => ?_) ms a' w' O K ok β rfl R'
  have fin2 : (resA P fn ((resTmps fn.results.toList).foldl St.stillSlot s'.1)).map (fun r => (r, s'.2)) = some q := by
   cases e <;> first | exact hk | (cases hk; done)
  obtain ⟨r2, hr2, heq⟩ := Option.map_eq_some_iff.1 fin2
  have hrr : r2 = r := by rw [<- hq1, <- heq]
  subst hrr
  obtain ⟨O2, K2, ok2, β2, R6⟩ := R5.stills (resTmps fn.results.toList)
  obtain ⟨_, v, g1, g2⟩ := resA_sound R6.r hr2
  rw [<- ha]
  refine ⟨v, g1, v, ok2, rfl, R6.r.bel.plain (fun _ h => h), fun b hb => ⟨(R6.r.okb b hb).1, ?_⟩, g2⟩
  rcases (R6.r.okb b hb).2 with h3 | h3 | h3
  ·exact .inl h3
  ·exact .inr h3
  ·exact h3.elim
 cases e with
 | normal => exact key hk
 | ret => exact key hk
 | exit i => cases hk
 | goto l => cases hk
 | panic c => cases hk
 | outgrown => cases hk
end
end
end Go.Ev
