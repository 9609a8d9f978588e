/- Trees of functions, and lemmas. Nothing here is trusted. -/
import Derived.Test.YtdacippnonhahaaDoorZ26
import Derived.Test.YtdacippnonhahaaDoorZ16
namespace Go.Ev
open Go.RowKit
set_option linter.unusedVariables false
set_option linter.unusedSimpArgs false
set_option maxHeartbeats 1000000
section
/-! ### Data that is the same -/
def all2 (f : D -> D -> Bool) : List D -> List D -> Bool
 | [], [] => true
 | x :: xs, y :: ys => bif f x y then all2 f xs ys else false
 | _, _ => false
def sameD : Nat -> D -> D -> Bool
 | 0, _, _ => false
 | n + 1, x, y => match x, y with
  | .lit (.int k x), .lit (.int k' y) => decide (k = k') && decide (x = y)
  | .agg xs, .agg ys => all2 (sameD n) xs ys
  | .slice xs [], .slice ys [] => all2 (sameD n) xs ys
  | _, _ => false
theorem all2_eq {f : D -> D -> Bool} (hf : ∀ x y, f x y = true -> x = y) : ∀ xs ys, all2 f xs ys = true -> xs = ys
 | [], [], _ => rfl
 | x :: xs, y :: ys, h => by
  unfold all2 at h
  cases hc : f x y with
  | true => rw [hc, cond_true] at h; rw [hf x y hc, all2_eq hf xs ys h]
  | false => rw [hc, cond_false] at h; cases h
 | [], _ :: _, h => by cases h
 | _ :: _, [], h => by cases h
theorem sameD_eq : ∀ (n : Nat) (x y : D), sameD n x y = true -> x = y := by
 intro n
 induction n with
 | zero => intro x y h; cases h
 | succ n ih =>
  intro x y h
  unfold sameD at h
  split at h
  ·simp only [Bool.and_eq_true, decide_eq_true_eq] at h
   rw [h.1, h.2]
  ·rw [all2_eq ih _ _ h]
  ·rw [all2_eq ih _ _ h]
  ·cases h

section
variable {σ : Type} {P : Program} {w w' W : World} {ok ok' okx : Nat -> Prop} {β β' : Nat -> Nat × Nat} {ops : Array Oper}
variable {Ok : σ -> Prop} {F : Fr P} {st st' : St} {a a' : Act} {env : Env} {o : Oper} {J : JJ σ} {C : Cx} {x x' : σ} {O K : Nat -> Prop} {ms : List Nat} {Y : YEnv σ} {s s' s1 : St × σ} {Q : Exit -> Act -> World -> Prop} {rd : Option Nat} {n : Nat}

/-- On the way out the marks are taken up. -/
theorem leaves_marks {fn : Func} {Rr : Ending -> World -> Prop} {tmps : Array Value} (hfin : ∀ (a : Act) (w : World) (O K ok : Nat -> Prop) (β : Nat -> Nat × Nat), a.tmps = tmps -> RelJX P F J C st x O K ok β [] a w -> ∃ v, (results fn tmps).run P w = .ok v w /\ Rr (.returned v) w) :
  ∀ (ms : List Nat) (a : Act) (w : World) (O K ok : Nat -> Prop) (β : Nat -> Nat × Nat), a.tmps = tmps -> RelJX P F J C st x O K ok β ms a w -> LeavesInM (wr none) n P fn tmps Rr (ms.map markOf) .returning w
 | [], a, w, O, K, ok, β, ha, R => hfin a w O K ok β ha R
 | d :: ms, a, w, O, K, ok, β, ha, R => by
  obtain ⟨g1, g2, g3, g4, g5, g6, g7, g8⟩ := R.mks d (by simp)
  refine ⟨by simp, .inl ⟨d, w.putObj d (.deferred none), rfl, run_takeDeferred g1, ?_⟩⟩
  have R1 : RelJX P F J C st x O K ok β ms { a with defers := ms.map markOf } w :=
   ⟨R.j, R.r.withM (F := F.with (d :: ms)) ms rfl rfl, R.lt, R.ko, R.wo, R.of, fun e he => R.mks e (by simp [he]), (List.nodup_cons.1 R.nd).2, R.zz, R.vv, R.vn, R.vs, R.nv, R.om, R.vu⟩
  have R2 := R1.frame (Z := fun c => c = d) (below_put (l := d) (o := .deferred none) w) (by
   rintro c rfl
   exact ⟨g2, g3, g4, g5, g7, .inl g6, (List.nodup_cons.1 R.nd).1, g8⟩)
  exact leaves_marks hfin ms { a with defers := ms.map markOf } _ O K ok β ha R2

/-- A function's contract from its body, where the body goes through what iterators hand on. -/
theorem calls_of_Y (hm : P.follows .mixedOrders = true) (henv : EnvOK P env) (hF : FopOK P J Ok Y) (hIt : ItOK P Y) {hh : Hints} {fuel : Nat} {f : FuncId} {fn : Func} {c : Code} (hf : P.funcs[f]? = some fn) (hb : fn.body = some c)
  {ρ : Type} {rr : ρ} {K0 : Exit -> St × σ -> Option ρ} (h : evCodeY P env Y hh fuel c true ρ s K0 = some rr) (hK : ∀ e s, K0 e s = some rr -> Ok s.2) (hend : ∀ e s, K0 e s = some rr -> e = .normal \/ e = .ret)
  {args : Array Value} {Rr : Ending -> World -> Prop} (R : RelJ P F J C [] s.1 s.2 { tmps := args ++ Array.replicate (fn.ntmps - args.size) undef, defers := [] } w)
  (hfin : ∀ (e : Exit) (s' : St × σ) (a : Act) (w' : World) (O K ok : Nat -> Prop) (β : Nat -> Nat × Nat), K0 e s' = some rr -> RelJX P F J C s'.1 s'.2 O K ok β [] a w' -> ∃ v, (results fn a.tmps).run P w' = .ok v w' /\ Rr (.returned v) w') :
  Calls P f args w Rr := by
 refine callsIn_wr (rd := none) (n := 0) |>.1 (callsIn_of_wp_marks (F := wr none) hf hb trivial (wpIn_mono (evCodeY_sound hm henv hF hIt hh fuel c true none 0 ρ rr F C [] s K0 (fun _ => rfl) h hK _ w R) ?_) rfl)
 rintro e a' w' ⟨ms, s', ⟨O, K, ok, β, R'⟩, hk⟩
 have hdf : a'.defers = ms.map markOf := R'.r.df
 have key : LeavesInM (wr none) 0 P fn a'.tmps Rr a'.defers .returning w' := by
  rw [hdf]
  exact leaves_marks (fun a w O K ok β ha R => by rw [<- ha]; exact hfin e s' a w O K ok β hk R) ms a' w' O K ok β rfl R'
 rcases hend e s' hk with rfl | rfl
 ·exact key
 ·exact key
end

/-! ### Iterators -/
section
variable {P : Program} {env : Env}

/-- A call of yield with data of type ei that is the next one. -/
def yieldOp (P : Program) (bo ei : TypeId) (ys : List D) (o : Oper) (st : St) (x : List Nat) : Option (St × List Nat) :=
 match o.op with
 | .call c => (match c.callee, c.args.toList, c.argTypes.toList with
  | .value (.tmp i), [y], [t] => (match (st.get i).d, ys[x.length]? with
   | .held (.func (.yield l) _ _), some d =>
    if (st.get i).tag == 1 && isFuncT P (st.get i).ty && (opd P st t y).tag == 1 && (opd P st t y).ty == ei && sameD 12 (opd P st t y).d d && (match P.underlying bo with | some .bool => P.cellsOf bo == 1 | _ => false)
    then some (st.put o.dst (dat bo (.lit (.bool true))), l :: x) else none
   | _, _ => none)
  | _, _, _ => none)
 | _ => none
def yieldF (o : Oper) : Bool := match o.op with | .call c => tmpCallee c | _ => false
def yieldEnv (P : Program) (bt bo ei : TypeId) (it : FuncId -> D -> Option (List D)) (ys : List D) : YEnv (List Nat) := ⟨yieldF, yieldOp P bo ei ys, it, bt, ei⟩
def yieldJ (J : JJ Nat) (U : Nat -> Prop) : JJ (List Nat) := ⟨fun x => J.J x.length, J.Z, U, fun x w w' O K h hb => J.fr x.length w w' O K h hb⟩

theorem yield_fop {bt bo ei : TypeId} {it : FuncId -> D -> Option (List D)} {ys : List D} {J : JJ Nat} {U : Nat -> Prop} {l : Nat} (hY : YieldsAt P l ei ys U J) :
  FopOK P (yieldJ J U) (fun x => ∀ l' ∈ x, l' = l) (yieldEnv P bt bo ei it ys) := by
 refine ⟨fun o st x st' x' h hk => ?_, fun F C ms st st' x x' a w o rd n Q hF h hk R => ?_⟩
 ·change yieldOp P bo ei ys o st x = _ at h
  unfold yieldOp at h
  repeat' split at h
  all_goals first | (cases h; done) | (simp only [Option.some.injEq, Prod.mk.injEq] at h; obtain ⟨_, rfl⟩ := h; exact fun l' hl => hk l' (List.mem_cons_of_mem _ hl))
 ·change yieldOp P bo ei ys o st x = _ at h
  unfold yieldOp at h
  split at h
  rotate_left
  ·cases h
  rename_i c hop
  split at h
  rotate_left
  ·cases h
  rename_i i y t hce hca hct
  split at h
  rotate_left
  ·cases h
  rename_i l' first caps d hd hys
  rw [Option.ite_none_right_eq_some] at h
  obtain ⟨hcond, h⟩ := h
  simp only [Bool.and_eq_true, beq_iff_eq] at hcond
  obtain ⟨⟨⟨⟨⟨c1, c2⟩, c3⟩, c4⟩, c5⟩, c6⟩ := hcond
  simp only [Option.some.injEq, Prod.mk.injEq] at h
  obtain ⟨rfl, rfl⟩ := h
  have hll : l' = l := hk l' (by simp)
  subst hll
  obtain ⟨O, K, ok, β, R⟩ := R
  unfold isFuncT at c2
  split at c2
  rotate_left
  ·cases c2
  rename_i hu2
  have hval : a.eval (.tmp i) = .func (.yield l') #[] #[] := by
   rcases ((R.r.slot i).d1 c1).func hu2 with ⟨e1, e2 | ⟨f', e2⟩ | ⟨f', e2⟩⟩ | ⟨f', r, t0, x0, e1, e2, e3⟩
   ·rw [hd] at e1
    injection e1 with e1
    rw [e2] at e1
    cases e1
   ·rw [hd] at e1
    injection e1 with e1
    rw [e2] at e1
    cases e1
   ·have e1' := e1
    rw [hd] at e1'
    injection e1' with e1'
    rw [e2] at e1'
    injection e1' with e4
    injection e4 with e5
    rw [e5]
    exact e2
   ·rw [hd] at e1
    cases e1
  have hdd : (opd P st t y).d = d := sameD_eq _ _ _ c5
  have hrep := (opd_rep R.r t y).d1 c3
  rw [c4, hdd] at hrep
  obtain ⟨fn2, t2, as2, bd2, y1, y2⟩ := hY x.length d hys w O K ok (a.eval y) (n - 1) R.j R.lt (fun b hb => ⟨(R.r.okb b hb).1, R.ko b hb, R.vu.1 b (.inl hb)⟩) hrep
  have hargs : c.args.map a.eval = #[a.eval y] := by
   apply Array.ext'; simp [hca]
  have hx : (execOp a.eval o).run P w = .ok (.round l' fn2 t2 as2 bd2) w := by
   unfold execOp
   simp only [hop, resolve, hce, hval, hargs, Deferred.ofValue, Sem.run_bind, Sem.run_pure, Result.andThen_ok, invoke]
   simpa using y1
  have e : o.semAt (wr rd).round a.eval = execOp a.eval o := by
   cases rd with
   | none => rfl
   | some l => exact Oper.semAt_some l _ _ (fun c' hc' => by rw [hop] at hc'; cases hc')
  refine ⟨fun _ _ => trivial, ?_⟩
  rw [e, hx, Oper.uponIn_round]
  refine ⟨fun hd => (by cases hd), ?_⟩
  refine (show RoundIn (wr rd) (n - 1) P l' fn2 t2 as2 bd2 w _ from RoundIn.mono (show RoundIn (wr rd) (n - 1) P l' fn2 t2 as2 bd2 w _ from y2) ?_)
  rintro e5 w5 ⟨rfl, O', K', j1, j2, j3, j4, j5, j6⟩
  have R1 : RelX P (F.with ms) st ok β a w5 := R.r.frame j2 (fun b hb h => R.ko b h hb) (fun b hb h => (R.wo b h).1 hb) (fun b hb => R.of b hb)
  have hbo : P.underlying bo = some .bool /\ P.cellsOf bo = 1 := by
   split at c6
   ·rename_i hu; exact ⟨hu, by simpa using c6⟩
   ·cases c6
  have hbr : RepAV P w5 ok β st.bx (dat bo (.lit (.bool true))) (.bool true) := repAV_dat ⟨⟨1, by simp [Value.cells, hbo.2], by simp [Value.cells, Value.oneCell'], by rw [hbo.1]; simp [Value.cells]⟩, by simp [isAggB, hbo.1], fun _ => rfl⟩
  have hVO : ∀ b, O b -> C.V b := fun b hb => R.vv b (.inr (.inr (.inl hb)))
  refine ⟨O', K', ok, β, j1, R1.put hbr (live_of_ne (by simp [dat]) (by simp [dat]) (by simp [dat])) o.dst, j6, fun b hb hO => ?_, fun b hb => ?_, fun b hb => ?_, fun e he => ?_, R.nd, fun b hb => R.zz b (Nat.le_trans j2.size hb), fun b hb => ?_, R.vn, Nat.le_trans R.vs j2.size, fun b hb => ?_, fun b hb => j3 b (R.om b hb), fun b hb => R.vu.1 b (hb.imp id (fun hh => ?_)), R.vu.2⟩
  rotate_right
  ·obtain ⟨i, e, h1, h2, h3⟩ := hh
   exact ⟨i, e, by rw [put_bx] at h1; exact h1, h2, h3⟩
  ·rcases j4 b hO with h | h
   ·exact R.ko b hb h
   ·have := (R.r.okb b hb).1; omega
  ·have hb' : OwnB st β b := by
    obtain ⟨i, e, h1, h2, h3⟩ := hb
    exact ⟨i, e, by rw [put_bx] at h1; exact h1, h2, h3⟩
   have hlt : b < w.heap.size := by obtain ⟨i, e, h1, h2, h3⟩ := hb'; exact h3 ▸ R.r.hp.siz i e h1 h2
   refine ⟨fun hO => ?_, fun hK => ?_, (R.wo b hb').2.2⟩
   ·rcases j4 b hO with h | h
    ·exact (R.wo b hb').1 h
    ·omega
   ·rcases j5 b hK with h | h | h | h
    ·exact (R.wo b hb').2.1 h
    ·exact (R.wo b hb').1 h
    ·obtain ⟨i, e, h1, h2, h3⟩ := hb'
     exact R.r.hp.sep b i e h h1 h2 h3
    ·omega
  ·rcases j4 b hb with h | h
   ·exact R.of b h
   ·exact .inl (Nat.le_trans R.r.bas h)
  ·obtain ⟨g1, g2, g3, g4, g5, g6, g7, g8⟩ := R.mks e he
   have hlt := (Array.getElem?_eq_some_iff.1 g1).1
   refine ⟨by rw [j2.block e hlt g4]; exact g1, g2, fun hh => g3 ?_, fun hO => ?_, fun hK => ?_, g6, g7, g8⟩
   ·obtain ⟨i, e, h1, h2, h3⟩ := hh
    exact ⟨i, e, by rw [put_bx] at h1; exact h1, h2, h3⟩
   ·rcases j4 e hO with h | h
    ·exact g4 h
    ·omega
   ·rcases j5 e hK with h | h | h | h
    ·exact g5 h
    ·exact g4 h
    ·exact g2 h
    ·omega
  ·rcases hb with hb | hb | hb | hb
   ·exact R.vv b (.inl hb)
   ·obtain ⟨i, e, h1, h2, h3⟩ := hb
    exact R.vv b (.inr (.inl ⟨i, e, by rw [put_bx] at h1; exact h1, h2, h3⟩))
   ·rcases j4 b hb with h | h
    ·exact hVO b h
    ·exact R.vn b (Nat.le_trans R.vs h)
   ·rcases j5 b hb with h | h | h | h
    ·exact R.vv b (.inr (.inr (.inr h)))
    ·exact hVO b h
    ·exact R.vv b (.inl h)
    ·exact R.vn b (Nat.le_trans R.vs h)
  ·have hlt : b < w.heap.size := Nat.lt_of_not_le (fun hh => hb (R.vn b (Nat.le_trans R.vs hh)))
   rw [j2.block b hlt (fun hz => hb (hVO b hz))]
   exact R.nv b hb
end
end
section
section
variable {P : Program} {env : Env}

/-- Nothing foreign. -/
def noJ : JJ Unit := ⟨fun _ _ O K => ∀ b, ¬ O b /\ ¬ K b, fun _ => True, fun _ => True, fun _ _ _ _ _ h _ => h⟩
def noY (bt ei : TypeId) (it : FuncId -> D -> Option (List D)) : YEnv Unit := ⟨fun _ => false, fun _ _ _ => none, it, bt, ei⟩
theorem no_fop {bt ei : TypeId} {it : FuncId -> D -> Option (List D)} : FopOK P noJ (fun _ => True) (noY bt ei it) :=
 ⟨fun _ _ _ _ _ h _ => (by cases h), fun _ _ _ _ _ _ _ _ _ _ _ _ _ h => (by cases h)⟩

def finY {σ : Type} (P : Program) (fn : Func) (e : Exit) (s : St × σ) : Option (AV × σ) :=
 match e with
 | .normal => (resA P fn ((resTmps fn.results.toList).foldl St.stillSlot s.1)).map fun r => (r, s.2)
 | .ret => (resA P fn ((resTmps fn.results.toList).foldl St.stillSlot s.1)).map fun r => (r, s.2)
 | _ => none
def evFnY (P : Program) (env : Env) (Y : YEnv Unit) (hh : Hints) (fuel : Nat) (fn : Func) (args : List AV) : Option AV :=
 match fn.body with
 | some c => if args.all (fun v => v.tag == 1 && v.ix == 0 && v.tys.isEmpty) then (evCodeY P env Y hh fuel c true (AV × Unit) (begin_ fn args, ()) (finY P fn)).map (·.1) else none
 | none => none

theorem RelJX.stills {σ : Type} {F : Fr P} {J : JJ σ} {C : Cx} {st : St} {x : σ} {O K ok : Nat -> Prop} {β : Nat -> Nat × Nat} {ms : List Nat} {a : Act} {w : World} (R : RelJX P F J C st x O K ok β ms a w) (l : List Nat) :
  ∃ O K ok β, RelJX P F J C (l.foldl St.stillSlot st) x O K ok β ms a w := by
 obtain ⟨ok', β', R'⟩ := (show Rel P (Fr.now R.r) st a w from ⟨ok, β, R.r.rebase⟩).stills l
 exact ⟨O, K, ok', β', R.own R'⟩

theorem begin_rel {fn : Func} {args : List AV} {vs : List Value} {w : World} {okA : Nat -> Prop} (htb : TabOn P (fun _ => False) w) (hok : ∀ b, okA b -> b < w.heap.size) (hl : args.length = vs.length)
  (hargs : ∀ (i : Nat) (x : AV), args[i]? = some x -> x.tag = 1 /\ RepAV P w okA (fun _ => (0, 0)) (fun _ => none) x (vs.getD i undef)) :
  RelX P ⟨w.heap.size, w, okA, fun _ => False, fun _ => undef, fun _ => 0, htb, []⟩ (begin_ fn args) okA (fun _ => (0, 0)) { tmps := vs.toArray ++ Array.replicate (fn.ntmps - vs.toArray.size) undef, defers := [] } w := by
 refine ⟨by simp [begin_, hl], rfl, ⟨?_, ?_, ?_, ?_, ?_, ?_, ?_, ?_⟩, BelowX.refl _ _ _, Nat.le_refl _, fun b hb => ⟨hok b hb, .inl hb⟩, fun i e hi => (by cases hi), fun i e hi => (by cases hi), fun i => ?_, fun i => ?_⟩
 ·intro i e hi; cases hi
 ·intro b i e _ hi; cases hi
 ·intro i j e f hi; cases hi
 ·intro i e hi; cases hi
 ·intro i e v hi; cases hi
 ·intro i e hi; cases hi
 ·intro i e v hi; cases hi
 ·intro i e hi; cases hi
 ·have hg : (begin_ fn args).get i = args.getD i dead := begin_get fn args _ i
  rw [hg, begin_tmps]
  by_cases hi : i < args.length
  ·have e1 : args.getD i dead = args[i] := by simp [List.getD, hi]
   rw [e1]
   exact (hargs i (args[i]) (by simp [hi])).2
  ·rw [List.getD, List.getElem?_eq_none (by omega)]
   exact repAV_dead _
 ·have hg : (begin_ fn args).get i = args.getD i dead := begin_get fn args _ i
  rw [hg]
  by_cases hi : i < args.length
  ·have e1 : args.getD i dead = args[i] := by simp [List.getD, hi]
   rw [e1]
   have := (hargs i (args[i]) (by simp [hi])).1
   exact live_of_ne (by omega) (by omega) (by omega)
  ·rw [List.getD, List.getElem?_eq_none (by omega)]
   exact live_of_refs refs_dead

theorem args_one {okA : Nat -> Prop} {w : World} {args : List AV} {vs : List Value} (hall : args.all (fun v => v.tag == 1 && v.ix == 0 && v.tys.isEmpty) = true) (hargs : ArgsRep P w okA args vs) :
  ∀ (i : Nat) (x : AV), args[i]? = some x -> x.tag = 1 /\ RepAV P w okA (fun _ => (0, 0)) (fun _ => none) x (vs.getD i undef) := by
 intro i x hx
 have hr := argsRep_get hargs i x hx
 have hix : x.ix = 0 := by
  have := List.all_eq_true.1 hall x (List.mem_of_getElem? hx)
  simp only [Bool.and_eq_true, beq_iff_eq] at this
  exact this.1.2
 have htys : x.tys = [] := by
  have := List.all_eq_true.1 hall x (List.mem_of_getElem? hx)
  simp only [Bool.and_eq_true, List.isEmpty_iff] at this
  exact this.2
 refine ⟨hr.1, fun _ => hr.2, fun ht => ?_, fun ht => ?_, fun ht => ?_, fun ht => ?_, fun ht => ?_, fun ht => ?_, fun _ ht => ?_, fun _ => ⟨fun ht => ?_, fun ht => ?_⟩, fun ht => ?_, fun _ => nil_none htys⟩ <;> (have := hr.1; omega)

/-- WHAT THE EVALUATOR TELLS OF SUCH A FUNCTION IS A CONTRACT OF IT. -/
theorem evFnY_sound (hm : P.follows .mixedOrders = true) (henv : EnvOK P env) {bt ei : TypeId} {it : FuncId -> D -> Option (List D)} (hIt : ∀ f d ys, it f d = some ys -> IterOK P f bt ei d ys) {hh : Hints} {fuel : Nat} {f : FuncId} {fn : Func} {args : List AV} {r : AV} (hf : P.funcs[f]? = some fn)
  (hname : (fn.name == "runtime.NumGoroutine") = false) (h : evFnY P env (noY bt ei it) hh fuel fn args = some r) (htag : r.tag = 1 \/ r.tag = 6) : CallOK P f args r := by
 unfold evFnY at h
 cases hb : fn.body with
 | none => rw [hb] at h; cases h
 | some c =>
  rw [hb] at h
  simp only at h
  split at h
  rotate_left
  ·cases h
  rename_i hall
  obtain ⟨⟨r', u⟩, hev, hr⟩ := Option.map_eq_some_iff.1 h
  have hr : r' = r := hr
  subst hr
  refine ⟨⟨fn, c, hf, hb, hname⟩, htag, fun w okA vs htb hok hargs => ?_⟩
  have R := begin_rel (fn := fn) htb hok (argsRep_len hargs) (args_one hall hargs)
  have RJ : RelJX P ⟨w.heap.size, w, okA, fun _ => False, fun _ => undef, fun _ => 0, htb, []⟩ noJ ⟨fun b => okA b \/ w.heap.size <= b, w, fun _ => False⟩ (begin_ fn args) () (fun _ => False) (fun _ => False) okA (fun _ => (0, 0)) [] { tmps := vs.toArray ++ Array.replicate (fn.ntmps - vs.toArray.size) undef, defers := [] } w := by
   refine ⟨fun b => ⟨fun h => h, fun h => h⟩, R, fun b hb => (by rcases hb with h | h <;> exact h.elim), fun b _ h => h, fun b hb => ?_, fun b hb => hb.elim, by simp, List.nodup_nil, fun _ _ => trivial, fun b hb => ?_, fun b hb => .inr hb, Nat.le_refl _, fun _ _ => rfl, fun _ h => h, fun _ _ => trivial, fun _ _ => trivial⟩
   ·obtain ⟨i, e, hi, _⟩ := hb; cases hi
   ·rcases hb with h | h | h | h
    ·exact .inl h
    ·obtain ⟨i, e, hi, _⟩ := h; cases hi
    ·exact h.elim
    ·exact h.elim
  refine calls_of_Y (Ok := fun _ => True) hm henv no_fop hIt hf hb hev (fun _ _ _ => trivial) (fun e s h => ?_) ⟨_, _, _, _, RJ⟩ (fun e s' a w' O K ok β hk R' => ?_)
  ·cases e <;> first | exact .inl rfl | exact .inr rfl | (cases h; done)
  ·have key : (resA P fn ((resTmps fn.results.toList).foldl St.stillSlot s'.1)).map (fun r => (r, s'.2)) = some (r', u) -> ∃ v, (results fn a.tmps).run P w' = .ok v w' /\ ∃ v' ok', Ending.returned v = .returned v' /\ Below w.heap.size w w' /\ (∀ b, ok' b -> b < w'.heap.size /\ (okA b \/ w.heap.size <= b)) /\ RepAV P w' ok' (fun _ => (0, 0)) (fun _ => none) r' v' := by
    intro hr
    obtain ⟨r2, hr2, heq⟩ := Option.map_eq_some_iff.1 hr
    simp only [Prod.mk.injEq] at heq
    obtain ⟨rfl, _⟩ := heq
    obtain ⟨O2, K2, ok2, β2, R2⟩ := R'.stills (resTmps fn.results.toList)
    obtain ⟨_, v, h1, h2⟩ := resA_sound R2.r hr2
    refine ⟨v, h1, v, ok2, rfl, R2.r.bel.plain (fun _ h => h), fun b hb => ⟨(R2.r.okb b hb).1, ?_⟩, h2⟩
    rcases (R2.r.okb b hb).2 with h3 | h3 | h3
    ·exact .inl h3
    ·exact .inr h3
    ·exact h3.elim
   cases e with
   | normal => exact key hk
   | ret => exact key hk
   | exit i => cases hk
   | goto l => cases hk
   | panic c => cases hk
   | outgrown => cases hk

/-! ### Iterators -/
def finI (e : Exit) (s : St × List Nat) : Option (List Nat) := match e with | .normal => some s.2 | .ret => some s.2 | _ => none
/-- An iterator over a box with data d: the yields that it makes. -/
def evIt (P : Program) (env : Env) (hh : Hints) (fuel : Nat) (fn : Func) (bt bo ei yt : TypeId) (it : FuncId -> D -> Option (List D)) (ys : List D) (d : D) (l : Nat) : Option (List Nat) :=
 match fn.body with
 | some c => evCodeY P env (yieldEnv P bt bo ei it ys) hh fuel c true (List Nat) ({ sl := [dat yt (.held (.func (.yield l) #[] #[])), bxp OID bt] ++ List.replicate (fn.ntmps - 2) dead, bx := bxOf [⟨bt, d, 0, none⟩] }, []) finI
 | none => none

theorem evIt_sound (hm : P.follows .mixedOrders = true) (henv : EnvOK P env) {bt bo ei yt : TypeId} {it : FuncId -> D -> Option (List D)} (hIt : ∀ f d ys, it f d = some ys -> IterOK P f bt ei d ys) {hh : Hints} {fuel : Nat} {f : FuncId} {fn : Func} {d : D} {ys : List D} (hf : P.funcs[f]? = some fn)
  (hname : (fn.name == "runtime.NumGoroutine") = false) (hres : fn.results = #[]) (hyt : ∃ a b c, P.underlying yt = some (.func a b c)) (hyc : P.cellsOf yt = 1)
  (h : ∀ l, evIt P env hh fuel fn bt bo ei yt it ys d l = some (List.replicate ys.length l)) : IterOK P f bt ei d ys := by
 cases hb : fn.body with
 | none => have := h 0; unfold evIt at this; rw [hb] at this; cases this
 | some c =>
  refine ⟨⟨fn, c, hf, hb, hname⟩, fun J l w O K okA U B htb hlt hok hbox hB hZ hU hJ hY => ?_⟩
  obtain ⟨cs, hc, m, hrep⟩ := hbox
  have hBlt : B < w.heap.size := (Array.getElem?_eq_some_iff.1 hc).1
  have hev := h l
  unfold evIt at hev
  rw [hb] at hev
  simp only at hev
  obtain ⟨ua, ub, uc, hyt⟩ := hyt
  have hbx : ∀ i e, bxOf [(⟨bt, d, 0, none⟩ : Ent)] i = some e -> i = OID /\ e = ⟨bt, d, 0, none⟩ := by
   intro i e hi
   unfold bxOf at hi
   split at hi
   ·cases hi
   ·have h0 : i - OID = 0 := by
     cases hq : i - OID with
     | zero => rfl
     | succ k => rw [hq] at hi; simp at hi
    rw [h0] at hi
    simp only [List.getElem?_cons_zero, Option.some.injEq] at hi
    exact ⟨by omega, hi.symm⟩
  have hlive : ∀ i e, bxOf [(⟨bt, d, 0, none⟩ : Ent)] i = some e -> e.live = true := by
   intro i e hi
   obtain ⟨_, rfl⟩ := hbx i e hi
   rfl
  have hO : bxOf [(⟨bt, d, 0, none⟩ : Ent)] OID = some ⟨bt, d, 0, none⟩ := rfl
  have H : HeapOK P w okA (fun _ => (B, 0)) (bxOf [⟨bt, d, 0, none⟩]) := by
   refine ⟨fun i e hi _ => hBlt, fun b i e hb hi _ hh => (hok b hb).2.2 hh.symm, fun i j e f hi hj _ _ _ => (hbx i e hi).1.trans (hbx j f hj).1.symm, fun i e hi h0 _ => ?_, fun i e v hi h0 hcc => ?_, fun i e hi h0 => ?_, fun i e v hi hcc => ?_, fun i e hi h0 => ?_⟩
   ·obtain ⟨_, rfl⟩ := hbx i e hi
    exact ⟨cs, hc, m, hrep⟩
   ·obtain ⟨_, rfl⟩ := hbx i e hi; cases hcc
   ·obtain ⟨_, rfl⟩ := hbx i e hi; exact absurd rfl h0
   ·obtain ⟨_, rfl⟩ := hbx i e hi; cases hcc
   ·obtain ⟨_, rfl⟩ := hbx i e hi; rfl
  have hown : ∀ st' : List AV, ∀ b, OwnB ⟨st', bxOf [⟨bt, d, 0, none⟩]⟩ (fun _ => (B, 0)) b -> b = B := fun _ b ⟨i, e, _, _, h3⟩ => h3.symm
  have hyrep : RepV P w okA yt (.func (.yield l) #[] #[]) (.held (.func (.yield l) #[] #[])) := ⟨⟨1, by simp [Value.cells, hyc], by simp [Value.cells, Value.oneCell'], by rw [hyt]; exact ⟨by simp [Value.cells], .inr (.inr ⟨l, rfl⟩)⟩⟩, by simp [isAggB, hyt], fun _ => by simp [Value.cells]⟩
  have hsz : (#[Value.func (.yield l) #[] #[], Value.pointer (some ⟨B, 0, none⟩)] : Array Value).size = 2 := rfl
  have R : RelX P ⟨w.heap.size, w, okA, fun b => O b \/ b = B, fun _ => .pointer (some ⟨B, 0, none⟩), fun _ => bt, htb, []⟩ ⟨[dat yt (.held (.func (.yield l) #[] #[])), bxp OID bt] ++ List.replicate (fn.ntmps - 2) dead, bxOf [⟨bt, d, 0, none⟩]⟩ okA (fun _ => (B, 0))
    { tmps := #[.func (.yield l) #[] #[], .pointer (some ⟨B, 0, none⟩)] ++ Array.replicate (fn.ntmps - 2) undef, defers := [] } w := by
   refine ⟨by simp; omega, rfl, H, BelowX.refl _ _ _, Nat.le_refl _, fun b hb => ⟨(hok b hb).1, .inl hb⟩, fun i e hi _ => .inr (.inr rfl), fun i e hi _ => ?_, fun i => ?_, fun i => ?_⟩
   ·obtain ⟨_, rfl⟩ := hbx i e hi
    exact ⟨rfl, rfl⟩
   ·have hg := begin_get fn [dat yt (.held (.func (.yield l) #[] #[])), bxp OID bt] (bxOf [⟨bt, d, 0, none⟩]) i
    have ht := begin_tmps fn [.func (.yield l) #[] #[], .pointer (some ⟨B, 0, none⟩)] i
    have e1 : ([dat yt (.held (.func (.yield l) #[] #[])), bxp OID bt] : List AV).length = 2 := rfl
    rw [e1] at hg
    rw [hg]
    have e2 : (#[Value.func (.yield l) #[] #[], Value.pointer (some ⟨B, 0, none⟩)] ++ Array.replicate (fn.ntmps - 2) undef).getD i undef = [Value.func (.yield l) #[] #[], Value.pointer (some ⟨B, 0, none⟩)].getD i undef := ht
    rw [e2]
    match i with
    | 0 => exact repAV_dat hyrep
    | 1 =>
     refine ⟨fun h => by simp [bxp] at h, fun _ e he h0 => ?_, fun _ e he h0 => ?_, fun h => by simp [bxp] at h, fun h => by simp [bxp] at h, fun h => by simp [bxp] at h, fun h => by simp [bxp] at h, fun h => by simp [bxp] at h, fun h => by simp [bxp] at h, fun h => by simp [bxp] at h, fun h => by simp [bxp] at h⟩
     ·have he2 : bxOf [(⟨bt, d, 0, none⟩ : Ent)] OID = some e := he
      rw [hO] at he2
      cases he2
      exact ⟨rfl, fun _ _ => ⟨rfl, rfl⟩, fun k hk => by simp [bxp] at hk, fun hk => by simp [bxp] at hk⟩
     ·have he2 : bxOf [(⟨bt, d, 0, none⟩ : Ent)] OID = some e := he
      rw [hO] at he2
      cases he2
      exact absurd rfl h0
    | i + 2 => exact repAV_dead _
   ·have hg := begin_get fn [dat yt (.held (.func (.yield l) #[] #[])), bxp OID bt] (bxOf [⟨bt, d, 0, none⟩]) i
    have e1 : ([dat yt (.held (.func (.yield l) #[] #[])), bxp OID bt] : List AV).length = 2 := rfl
    rw [e1] at hg
    rw [hg]
    match i with
    | 0 => exact live_of_ne (by simp [dat]) (by simp [dat]) (by simp [dat])
    | 1 =>
     intro j hj
     have : j = OID := by simpa [refs, bxp] using hj
     subst this
     rfl
    | i + 2 => exact live_of_refs refs_dead
  have RJ : RelJX P ⟨w.heap.size, w, okA, fun b => O b \/ b = B, fun _ => .pointer (some ⟨B, 0, none⟩), fun _ => bt, htb, []⟩ (yieldJ J U) ⟨fun b => okA b \/ b = B \/ O b \/ K b \/ w.heap.size <= b, w, O⟩ ⟨[dat yt (.held (.func (.yield l) #[] #[])), bxp OID bt] ++ List.replicate (fn.ntmps - 2) dead, bxOf [⟨bt, d, 0, none⟩]⟩ [] O K okA (fun _ => (B, 0)) []
    { tmps := #[.func (.yield l) #[] #[], .pointer (some ⟨B, 0, none⟩)] ++ Array.replicate (fn.ntmps - 2) undef, defers := [] } w := by
   refine ⟨hJ, R, hlt, fun b hb => (hok b hb).2.1, fun b hb => by rw [hown _ b hb]; exact hB, fun b hb => .inr (.inl hb), by simp, List.nodup_nil, hZ, fun b hb => ?_, fun b hb => .inr (.inr (.inr (.inr hb))), Nat.le_refl _, fun _ _ => rfl, fun _ h => h, fun b hb => ?_, fun b hb => hU b (.inr (.inr hb))⟩
   ·rcases hb with h | h | h | h
    ·exact .inl h
    ·exact .inr (.inl (hown _ b h))
    ·exact .inr (.inr (.inl h))
    ·exact .inr (.inr (.inr (.inl h)))
   ·rcases hb with h | h
    ·exact hU b (.inl h)
    ·exact hU b (.inr (.inl (hown _ b h)))
  refine calls_of_Y (s := (_, [])) (Ok := fun x => ∀ l' ∈ x, l' = l) hm henv (yield_fop (bt := bt) (bo := bo) (it := it) hY) hIt hf hb hev (fun e s h => ?_) (fun e s h => ?_) ⟨_, _, _, _, RJ⟩ (fun e s' a w' O K ok β hk R' => ?_)
  ·have : s.2 = List.replicate ys.length l := by
    cases e <;> simp [finI] at h <;> exact h
   rw [this]
   exact fun l' hl => List.eq_of_mem_replicate hl
  ·cases e <;> first | exact .inl rfl | exact .inr rfl | (cases h; done)
  ·have hs : s'.2 = List.replicate ys.length l := by
    cases e <;> simp [finI] at hk <;> exact hk
   refine ⟨.tuple #[], by rw [results_eq, hres]; simp, ⟨_, rfl⟩, O, K, ?_⟩
   have := R'.j
   show J.J ys.length w' O K
   have h2 : (yieldJ J U).J s'.2 w' O K := this
   rw [hs] at h2
   simpa [yieldJ] using h2
end
end
end Go.Ev
