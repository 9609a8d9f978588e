/- Trees of functions, and lemmas. Nothing here is trusted. -/
import Derived.Test.YtdacippnonhahaaDoorZ25
namespace Go.Ev
open Go.RowKit
set_option linter.unusedVariables false
set_option linter.unusedSimpArgs false
set_option maxHeartbeats 1000000
section
/-- A call of yield with each of what is handed on, in its order, goes through: what is foreign to the iterator turns alone. -/
def YieldsAt (P : Program) (l : Nat) (ei : TypeId) (ys : List D) (U : Nat -> Prop) (J : JJ Nat) : Prop := ∀ (k : Nat) (y : D), ys[k]? = some y -> ∀ (w : World) (O K okx : Nat -> Prop) (v : Value) (n : Nat), J.J k w O K -> (∀ b, O b \/ K b -> b < w.heap.size) -> (∀ b, okx b -> b < w.heap.size /\ ¬ O b /\ U b) -> RepV P w okx ei v y ->
 YieldAt Fence.wide n P l #[v] w fun e w' => e = .returned (.bool true) /\ ∃ O' K', J.J (k + 1) w' O' K' /\ BelowX O w.heap.size w w' /\ (∀ b, O b -> O' b) /\ (∀ b, O' b -> O b \/ w.heap.size <= b) /\ (∀ b, K' b -> K b \/ O b \/ okx b \/ w.heap.size <= b) /\ (∀ b, O' b \/ K' b -> b < w'.heap.size)

/-- A contract of an iterator that holds one box. -/
structure IterOK (P : Program) (f : FuncId) (bt ei : TypeId) (d : D) (ys : List D) : Prop where
 fn : ∃ fn c, P.funcs[f]? = some fn /\ fn.body = some c /\ (fn.name == "runtime.NumGoroutine") = false
 call : ∀ (J : JJ Nat) (l : Nat) (w : World) (O K okA U : Nat -> Prop) (B : Nat), TabOn P (fun b => O b \/ b = B) w -> (∀ b, O b \/ K b -> b < w.heap.size) -> (∀ b, okA b -> b < w.heap.size /\ ¬ O b /\ b ≠ B) ->
  (∃ cs : Array Value, w.heap[B]? = some (.cells cs bt (0, 0)) /\ ∃ n, Rep P w okA n bt cs.toList d) -> (¬ O B /\ ¬ K B /\ J.Z B) -> (∀ b, w.heap.size <= b -> J.Z b) -> (∀ b, okA b \/ b = B \/ w.heap.size <= b -> U b) ->
  J.J 0 w O K -> YieldsAt P l ei ys U J ->
  Calls P f #[.func (.yield l) #[] #[], .pointer (some ⟨B, 0, none⟩)] w fun e w' => (∃ v, e = .returned v) /\ ∃ O' K', J.J ys.length w' O' K'

def ItOK {σ : Type} (P : Program) (Y : YEnv σ) : Prop := ∀ f d ys, Y.it f d = some ys -> IterOK P f Y.bt Y.ei d ys

section
variable {σ : Type} {P : Program} {w w' W : World} {ok ok' okx : Nat -> Prop} {β β' : Nat -> Nat × Nat} {ops : Array Oper}
variable {Ok : σ -> Prop} {F : Fr P} {st st' : St} {a a' : Act} {env : Env} {o : Oper} {J : JJ σ} {C : Cx} {x x' : σ} {O K : Nat -> Prop} {ms : List Nat} {Y : YEnv σ} {s s' s1 : St × σ} {Q : Exit -> Act -> World -> Prop} {rd : Option Nat} {n : Nat}

/-- A box is let go. -/
theorem RelX.kill (R : RelX P F st ok β a w) (i : Nat) : RelX P F (st.kill i) ok β a w := by
 have hb : ∀ j, (st.kill i).bx j = if j = i then none else (st.bx j).map (Ent.mapC (killL [i])) := fun _ => rfl
 have hbx : ∀ j f, (st.kill i).bx j = some f -> ∃ e, st.bx j = some e /\ f = e.mapC (killL [i]) := by
  intro j f h
  rw [hb] at h
  split at h
  ·cases h
  ·obtain ⟨e, he, rfl⟩ := Option.map_eq_some_iff.1 h
   exact ⟨e, he, rfl⟩
 refine R.less (killL [i]) hbx (kill_get i) (by simp [St.kill]) (fun v val hl hr => ?_) (fun v => ?_)
 rotate_left
 ·rcases killL_cases [i] v with h | ⟨h, _⟩
  ·exact .inl h
  ·exact .inr (.inl h)
 rcases killL_cases [i] v with h | ⟨h, hne⟩
 ·rw [h]; exact ⟨repAV_dz hr (fun _ _ => rfl) (fun _ h => h), live_of_refs (refs_dz v)⟩
 ·rw [h]
  refine ⟨rep_less _ hbx hr, fun j hj => ?_⟩
  have hji : j ≠ i := fun hh => hne j hj (by simp [hh])
  rw [hb, if_neg hji]
  simpa using hl j hj
theorem own_kill {i b : Nat} (h : OwnB (st.kill i) β b) : ∃ j e, j ≠ i /\ st.bx j = some e /\ e.live = true /\ (β j).1 = b := by
 obtain ⟨j, f, hj, hl, hb⟩ := h
 have hb' : (st.kill i).bx j = if j = i then none else (st.bx j).map (Ent.mapC (killL [i])) := rfl
 rw [hb'] at hj
 split at hj
 ·cases hj
 ·rename_i hne
  obtain ⟨e, he, rfl⟩ := Option.map_eq_some_iff.1 hj
  exact ⟨j, e, hne, he, hl, hb⟩

theorem fold_mono {asg bdy : Code} {asgE bdyE : St × σ -> (Exit -> St × σ -> Option (RoundR σ)) -> Option (RoundR σ)} (hasg : CodeOK P J Ok asg (RoundR σ) asgE) (hbdy : CodeOK P J Ok bdy (RoundR σ) bdyE) {p : Nat} {pre : St -> St} (hk : Ok s'.2) :
  ∀ (ys : List D) (s : St × σ), foldY (roundC Y asgE bdyE p pre) ys s = some s' -> Ok s.2
 | [], s, h => by simp only [foldY, Option.some.injEq] at h; subst h; exact hk
 | y :: ys, s, h => by
  simp only [foldY] at h
  obtain ⟨s1, h1, h2⟩ := Option.bind_eq_some_iff.1 h
  exact roundC_mono hasg hbdy h1 (fold_mono hasg hbdy hk ys s1 h2)

theorem range_sound {asg bdy : Code} {asgE bdyE : St × σ -> (Exit -> St × σ -> Option (RoundR σ)) -> Option (RoundR σ)} (hasg : CodeOK P J Ok asg (RoundR σ) asgE) (hbdy : CodeOK P J Ok bdy (RoundR σ) bdyE) (hIt : ItOK P Y) {pre : St -> St} (hpre : ∀ (F : Fr P) (st : St) (a : Act) (w : World), Rel P F st a w -> Rel P F (pre st) a w)
  (R : RelJ P F J C ms s.1 s.2 a w) {g p b : Nat} {ys : List D} {ps : Array Nat} (hps : ps.toList = [p]) (hi : itOf Y s.1 g = some (b, ys)) (h : foldY (roundC Y asgE bdyE p pre) ys (pre (s.1.kill b), s.2) = some s') (hkk : Ok s'.2)
  (hQ : ∀ ms a w, RelJ P F J C ms s'.1 s'.2 a w -> Q .normal a w) : (Code.rangeFunc (.tmp g) ps asg bdy).wpIn (wr none) n P Q a w := by
 obtain ⟨O, K, ok, β, R⟩ := R
 have hps' : ps = #[p] := by apply Array.ext'; rw [hps]
 subst hps'
 -- the iterator
 unfold itOf at hi
 split at hi
 rotate_left
 ·cases hi
 rename_i htag
 have htag : (s.1.get g).tag = 4 := by simpa using htag
 split at hi
 rotate_left
 ·cases hi
 rename_i b0 htys
 split at hi
 rotate_left
 ·cases hi
 rename_i e he
 split at hi
 rotate_left
 ·cases hi
 rename_i hcond
 simp only [Bool.and_eq_true, beq_iff_eq, Option.isNone_iff_eq_none] at hcond
 obtain ⟨⟨he0, hec⟩, hety⟩ := hcond
 obtain ⟨ys0, hys, heq⟩ := Option.map_eq_some_iff.1 hi
 simp only [Prod.mk.injEq] at heq
 obtain ⟨rfl, rfl⟩ := heq
 obtain ⟨caps, hval, hcsz, hcap⟩ := (R.r.slot g).d4 htag
 rw [htys] at hcsz hcap
 have hcap0 := hcap 0 b0 e rfl he he0
 obtain ⟨B, hB⟩ : ∃ B, (β b0).1 = B := ⟨_, rfl⟩
 rw [hB] at hcap0
 have hcaps : caps = #[.pointer (some ⟨B, 0, none⟩)] := by
  apply Array.ext
  ·simpa using hcsz
  ·intro i h1 h2
   have : i = 0 := by simp at h2; omega
   subst this
   have := Array.getElem?_eq_some_iff.1 hcap0
   obtain ⟨_, h3⟩ := this
   simpa using h3
 have hgv : a.eval (.tmp g) = .func (.func (s.1.get g).id) #[] #[.pointer (some ⟨B, 0, none⟩)] := by
  rw [<- hcaps]; exact hval
 have hI := hIt _ _ _ hys
 rw [<- hety] at hI
 obtain ⟨cs, hBc, m, hBr⟩ := R.r.hp.box b0 e he he0 hec
 rw [hB] at hBc
 have hBlt : B < w.heap.size := (Array.getElem?_eq_some_iff.1 hBc).1
 have hBown : OwnB s.1 β B := ⟨b0, e, he, live_box he0, hB⟩
 have hkillOwn : ∀ c, OwnB (s.1.kill b0) β c -> OwnB s.1 β c /\ c ≠ B := by
  intro c hc
  obtain ⟨j, f, hj, hf, hl, hb⟩ := own_kill hc
  exact ⟨⟨j, f, hf, hl, hb⟩, fun hh => hj (R.r.hp.inj j b0 f e hf he hl (live_box he0) (by rw [hb, hB, hh]))⟩
 refine wpIn_rangeFunc ?_
 intro fn hfn
 obtain ⟨rec, hrec⟩ : ∃ rec : LoopState -> Option Code -> Loop, rec = fun st pe => { state := st, pending := pe, fn, tmps := a.tmps, params := #[p], assign := asg, body := bdy, defers := w.heap.size } := ⟨_, rfl⟩
 obtain ⟨dl, hdl⟩ : ∃ dl, dl = w.heap.size := ⟨_, rfl⟩
 obtain ⟨l, hl⟩ : ∃ l, l = w.heap.size + 1 := ⟨_, rfl⟩
 obtain ⟨W1, hW1⟩ : ∃ W1, (w.alloc (.deferred (some []))).alloc (.loop (rec .ready none)) = W1 := ⟨_, rfl⟩
 have hW1s : W1.heap.size = w.heap.size + 2 := by rw [<- hW1]; simp
 have hL1 : W1.heap[l]? = some (.loop (rec .ready none)) := by
  rw [<- hW1, hl]; have := World.alloc_heap_new (w.alloc (.deferred (some []))) (.loop (rec .ready none)); rwa [World.size_alloc] at this
 have hK1 : W1.heap[dl]? = some (.deferred (some [])) := by
  rw [<- hW1, hdl]; exact (Below.heap_alloc _ _ _ (by simp)).trans (World.alloc_heap_new w _)
 have hB1 : BelowX (fun _ => False) w.heap.size w W1 := by
  rw [<- hW1]
  refine ⟨rfl, rfl, rfl, ?_, fun k hk _ => ?_⟩
  ·rw [World.size_alloc, World.size_alloc]; omega
  ·rw [Below.heap_alloc _ _ k (by rw [World.size_alloc]; omega)]
   exact Below.heap_alloc _ _ k hk
 -- the state at the loop's start
 have Rk : RelJX P F J C (s.1.kill b0) s.2 O K ok β ms a w := by
  refine ⟨R.j, R.r.kill b0, R.lt, R.ko, fun c hc => R.wo c (hkillOwn c hc).1, R.of, fun d hd => ?_, R.nd, R.zz, fun c hc => R.vv c ?_, R.vn, R.vs, R.nv, R.om, fun c hc => R.vu.1 c (hc.imp id (fun h => (hkillOwn c h).1)), R.vu.2⟩
  ·obtain ⟨g1, g2, g3, g4, g5, g6, g7⟩ := R.mks d hd
   exact ⟨g1, g2, fun h => g3 (hkillOwn d h).1, g4, g5, g6, g7⟩
  ·rcases hc with h | h | h | h
   ·exact .inl h
   ·exact .inr (.inl (hkillOwn c h).1)
   ·exact .inr (.inr (.inl h))
   ·exact .inr (.inr (.inr h))
 have R1 : RelJX P F J C (s.1.kill b0) s.2 O K ok β ms a W1 := Rk.frame hB1 (fun _ h => h.elim)
 obtain ⟨okp, βp, Rp⟩ := hpre (Fr.now R1.r) (s.1.kill b0) a W1 ⟨ok, β, R1.r.rebase⟩
 have R1p : RelJX P F J C (pre (s.1.kill b0)) s.2 O K okp βp ms a W1 := R1.own Rp
 obtain ⟨_, tp2, tp3⟩ := R1.r.turned Rp
 have up2 : ∀ c, okp c -> ok c \/ OwnB (s.1.kill b0) β c := by
  intro c hc
  have hlt := (Rp.okb c hc).1
  rcases tp2 c hc with h | h | h
  ·exact .inl h
  ·omega
  ·exact .inr h
 have up3 : ∀ c, OwnB (pre (s.1.kill b0)) βp c -> OwnB (s.1.kill b0) β c := by
  intro c hc
  have hlt : c < W1.heap.size := by
   obtain ⟨i, e, h1, h2, h3⟩ := hc
   exact h3 ▸ Rp.hp.siz i e h1 h2
  rcases tp3 c hc with h | h
  ·omega
  ·exact h
 -- what is foreign to the iterator
 let JI : JJ Nat := {
  J := fun k W O' K' => ∃ (q : St × σ) (O K ok : Nat -> Prop) (β : Nat -> Nat × Nat), foldY (roundC Y asgE bdyE p pre) (ys0.drop k) q = some s' /\ RelJX P F J C q.1 q.2 O K ok β ms a W /\
   W.heap[l]? = some (.loop (rec .ready none)) /\ W.heap[dl]? = some (.deferred (some [])) /\ (∀ c, O c \/ OwnB q.1 β c \/ c = l \/ c = dl \/ c ∈ ms -> O' c) /\ (∀ c, ok c \/ K c -> K' c) /\ (∀ c, c = l \/ c = dl -> ¬ ok c /\ ¬ OwnB q.1 β c /\ ¬ O c /\ ¬ K c)
  Z := fun c => J.Z c /\ (F.base <= c \/ F.X c) /\ C.V c
  U := fun _ => True
  fr := by
   rintro k W W' O' K' ⟨q, O, K, ok, β, h1, h2, h3, h4, h5, h6, h7⟩ hb
   refine ⟨q, O, K, ok, β, h1, h2.frame hb (fun c hc => ⟨fun h => hc.2.2 (h6 c (.inl h)), fun h => hc.2.1 (h5 c (.inr (.inl h))), fun h => hc.2.1 (h5 c (.inl h)), fun h => hc.2.2 (h6 c (.inr h)), hc.1.1, hc.1.2.1, fun h => hc.2.1 (h5 c (.inr (.inr (.inr (.inr h))))), hc.1.2.2⟩), ?_, ?_, h5, h6, h7⟩
   ·rw [hb.block l (Array.getElem?_eq_some_iff.1 h3).1 (fun hc => hc.2.1 (h5 l (.inr (.inr (.inl rfl)))))]; exact h3
   ·rw [hb.block dl (Array.getElem?_eq_some_iff.1 h4).1 (fun hc => hc.2.1 (h5 dl (.inr (.inr (.inr (.inl rfl))))))]; exact h4 }
 have hms : ∀ d ∈ ms, d < w.heap.size := fun d hd => (Array.getElem?_eq_some_iff.1 (R.mks d hd).1).1
 have hownlt : ∀ c, OwnB s.1 β c -> c < w.heap.size := fun c ⟨i, e, h1, h2, h3⟩ => h3 ▸ R.r.hp.siz i e h1 h2
 obtain ⟨O2, hO2⟩ : ∃ O2 : Nat -> Prop, O2 = fun c => O c \/ OwnB (s.1.kill b0) β c \/ c = l \/ c = dl \/ c ∈ ms := ⟨_, rfl⟩
 obtain ⟨K2, hK2⟩ : ∃ K2 : Nat -> Prop, K2 = fun c => ok c \/ K c \/ OwnB (s.1.kill b0) β c := ⟨_, rfl⟩
 have hO2c : ∀ c, O2 c -> O c \/ OwnB (s.1.kill b0) β c \/ c = l \/ c = dl \/ c ∈ ms := fun c h => by rw [hO2] at h; exact h
 have hO2i : ∀ c, (O c \/ OwnB (s.1.kill b0) β c \/ c = l \/ c = dl \/ c ∈ ms) -> O2 c := fun c h => by rw [hO2]; exact h
 have hK2c : ∀ c, K2 c -> ok c \/ K c \/ OwnB (s.1.kill b0) β c := fun c h => by rw [hK2] at h; exact h
 have hld : ∀ c, c = l \/ c = dl -> ¬ ok c /\ ¬ OwnB s.1 β c /\ ¬ O c /\ ¬ K c := by
  intro c hc
  have hge : w.heap.size <= c := by rcases hc with rfl | rfl <;> omega
  exact ⟨fun h => (by have := (R.r.okb c h).1; omega), fun h => (by have := hownlt c h; omega), fun h => (by have := R.lt c (.inl h); omega), fun h => (by have := R.lt c (.inr h); omega)⟩
 have hOF : ∀ c, O2 c -> F.base <= c \/ F.X c := by
  intro c hc
  rcases hO2c c hc with h | h | h | h | h
  ·exact R.of c h
  ·obtain ⟨i, f, h1, h2, h3⟩ := (hkillOwn c h).1
   exact h3 ▸ R.r.own i f h1 h2
  ·exact .inl (Nat.le_trans R.r.bas (by omega))
  ·exact .inl (Nat.le_trans R.r.bas (by omega))
  ·exact .inl (R.mks c h).2.2.2.2.2.1
 have hBF : F.base <= B \/ F.X B := by rw [<- hB]; exact R.r.own b0 e he (live_box he0)
 have hlV : C.V l := R.vn l (Nat.le_trans R.vs (by omega))
 have hdV : C.V dl := R.vn dl (Nat.le_trans R.vs (by omega))
 have hne : dl ≠ l := by omega
 obtain ⟨fn', c', hfn', hbody', hname'⟩ := hI.fn
 have eg : ∀ (args : Array Value) (w : World), (callFunc (s.1.get g).id args).run P w = .ok (.enter (s.1.get g).id args) w := by
  intro args w
  have h1 : ¬ fn'.name = "runtime.NumGoroutine" := by simpa using hname'
  simp [callFunc, hfn', h1, hbody']
 refine ⟨l, [markOf dl], W1, { target := .fn (.func (s.1.get g).id) #[.pointer (some ⟨B, 0, none⟩)], args := #[.func (.yield l) #[] #[]] }, W1, (s.1.get g).id, #[.func (.yield l) #[] #[], .pointer (some ⟨B, 0, none⟩)], W1, ?_, ?_, fun _ _ => trivial, ?_, fun hd => (by cases hd), ?_⟩
 ·rw [<- hW1, hrec, hl, hdl]; exact run_enterLoop_outer _ _ _ _ _
 ·simp only [resolve, hgv]
  simp [go_sem]
 ·simp [invoke, go_sem, eg]
 refine callsIn_wr.2 (Calls.mono (hI.call JI l W1 O2 K2 ok (fun c => (F.okA c \/ F.base <= c \/ F.X c) /\ C.V c /\ J.U c) B (R1.r.tabs ?_) ?_ ?_ ?_ ?_ ?_ ?_ ?_ ?_) ?_)
 ·rintro c (hc | rfl)
  ·exact hOF c hc
  ·exact hBF
 ·rintro c (hc | hc)
  ·rcases hO2c c hc with h | h | h | h | h
   ·have := R.lt c (.inl h); omega
   ·have := hownlt c (hkillOwn c h).1; omega
   ·omega
   ·omega
   ·have := hms c h; omega
  ·rcases hK2c c hc with h | h | h
   ·have := (R.r.okb c h).1; omega
   ·have := R.lt c (.inr h); omega
   ·have := hownlt c (hkillOwn c h).1; omega
 ·intro c hc
  have hclt := (R.r.okb c hc).1
  refine ⟨by omega, fun hh => ?_, fun hh => ?_⟩
  ·rcases hO2c c hh with h | h | h | h | h
   ·exact R.ko c hc h
   ·obtain ⟨i, f, h1, h2, h3⟩ := (hkillOwn c h).1
    exact R.r.hp.sep c i f hc h1 h2 h3
   ·omega
   ·omega
   ·exact (R.mks c h).2.1 hc
  ·subst hh
   exact R.r.hp.sep c b0 e hc he (live_box he0) hB
 ·exact ⟨cs, by rw [hB1.block B hBlt (fun h => h)]; exact hBc, m, hBr.move (fun c hc => hB1.block c (R.r.okb c hc).1 (fun h => h)) (fun _ h => h)⟩
 ·refine ⟨fun hh => ?_, fun hh => ?_, (R.wo B hBown).2.2, hBF, R.vv B (.inr (.inl hBown))⟩
  ·rcases hO2c B hh with h | h | h | h | h
   ·exact (R.wo B hBown).1 h
   ·exact (hkillOwn B h).2 rfl
   ·omega
   ·omega
   ·exact (R.mks B h).2.2.1 hBown
  ·rcases hK2c B hh with h | h | h
   ·exact R.r.hp.sep B b0 e h he (live_box he0) hB
   ·exact (R.wo B hBown).2.1 h
   ·exact (hkillOwn B h).2 rfl
 ·intro c hc
  exact ⟨R.zz c (by omega), .inl (Nat.le_trans R.r.bas (by omega)), R.vn c (Nat.le_trans R.vs (by omega))⟩
 ·rintro c (hc | rfl | hc)
  ·exact ⟨(R.r.okb c hc).2, R.vv c (.inl hc), R.vu.1 c (.inl hc)⟩
  ·exact ⟨.inr hBF, R.vv c (.inr (.inl hBown)), R.vu.1 c (.inr hBown)⟩
  ·exact ⟨.inr (.inl (Nat.le_trans R.r.bas (by omega))), R.vn c (Nat.le_trans R.vs (by omega)), R.vu.2 c (Nat.le_trans R.vs (by omega))⟩
 ·exact ⟨(pre (s.1.kill b0), s.2), O, K, okp, βp, by rw [List.drop_zero]; exact h, R1p, hL1, hK1, fun c hc => hO2i c (hc.imp id (fun h => h.imp (up3 c) id)), fun c hc => by
   rw [hK2]
   rcases hc with h | h
   ·rcases up2 c h with h | h
    ·exact .inl h
    ·exact .inr (.inr h)
   ·exact .inr (.inl h), fun c hc => ⟨fun hh => (by
   rcases up2 c hh with h | h
   ·exact (hld c hc).1 h
   ·exact (hld c hc).2.1 (hkillOwn c h).1), fun hh => (hld c hc).2.1 (hkillOwn c (up3 c hh)).1, (hld c hc).2.2.1, (hld c hc).2.2.2⟩⟩
 ·-- a round
  intro k y hk W O4 K4 okx v n' hJ hlt hokx hv
  obtain ⟨q, O, K, ok, β, hf, Rq, hlq, hdq, hO4, hK4, hldq⟩ := hJ
  obtain ⟨hklt, hky⟩ := List.getElem?_eq_some_iff.1 hk
  rw [List.drop_eq_getElem_cons hklt, hky] at hf
  simp only [foldY] at hf
  obtain ⟨q1, hq1, hf1⟩ := Option.bind_eq_some_iff.1 hf
  have hl4 := hldq l (.inl rfl)
  have hlO : O4 l := hO4 l (.inr (.inr (.inl rfl)))
  have hdO : O4 dl := hO4 dl (.inr (.inr (.inr (.inl rfl))))
  unfold roundC at hq1
  obtain ⟨q0, hq0, hqe⟩ := Option.map_eq_some_iff.1 hq1
  subst hqe
  obtain ⟨fn2, t2, as2, bd2, y1, y2⟩ := round_sound (n := n') hasg hbdy Rq hrec hlq ⟨hl4.1, hl4.2.1, hl4.2.2.1, hl4.2.2.2, fun hh => (by have := hms l hh; omega), R.zz l (by omega), Nat.le_trans R.r.bas (by omega), hlV⟩ hq0 (show Ok q0.2 from fold_mono hasg hbdy hkk _ (pre q0.1, q0.2) hf1)
   (fun c hc => ⟨(hokx c hc).1, fun hh => (hokx c hc).2.1 (hO4 c (.inl hh)), fun hh => (hokx c hc).2.1 (hO4 c (.inr (.inl hh))), fun hh => (hokx c hc).2.1 (hh ▸ hlO), fun hh => (hokx c hc).2.1 (hO4 c (.inr (.inr (.inr (.inr hh))))), (hokx c hc).2.2.1, (hokx c hc).2.2.2.1, (hokx c hc).2.2.2.2⟩) hv
  refine ⟨fn2, t2, as2, bd2, y1, y2.mono ?_⟩
  rintro e w5 ⟨he5, hp⟩
  have hp := hp.pre hpre
  obtain ⟨O', K', ok', β', R', n1, n2, n3, n4, p1, p2, p3, p4⟩ := hp.ex
  have hdlt : dl < W.heap.size := (Array.getElem?_eq_some_iff.1 hdq).1
  have hd4 := hldq dl (.inr rfl)
  have hdnot : ¬ (ok' dl \/ K' dl) := fun hh => by
   rcases p4 dl hh with h | h | h | h | h | h
   ·exact hd4.1 h
   ·exact (hokx dl h).2.1 hdO
   ·exact hd4.2.1 h
   ·exact hd4.2.2.1 h
   ·exact hd4.2.2.2 h
   ·omega
  refine ⟨he5, fun c => O4 c \/ O' c \/ OwnB (pre q0.1) β' c, fun c => ok' c \/ K' c, ⟨(pre q0.1, q0.2), O', K', ok', β', hf1, R', hp.lrec, ?_, ?_, fun c hc => hc, ?_⟩, ?_, fun c hc => .inl hc, ?_, ?_, ?_⟩
  ·rw [hp.bel.block dl hdlt (fun hh => ?_)]
   ·exact hdq
   ·rcases hh with h | h | h
    ·exact hd4.2.1 h
    ·exact hd4.2.2.1 h
    ·exact hne h
  ·rintro c (h | h | h)
   ·exact .inr (.inl h)
   ·exact .inr (.inr h)
   ·exact .inl (hO4 c (.inr (.inr h)))
  ·rintro c (rfl | rfl)
   ·exact ⟨n1, n2, n3, n4⟩
   ·refine ⟨fun h => hdnot (.inl h), fun h => ?_, fun h => ?_, fun h => hdnot (.inr h)⟩
    ·rcases p3 c h with h | h
     ·exact hd4.2.1 h
     ·omega
    ·rcases p2 c h with h | h | h
     ·exact hd4.2.1 h
     ·exact hd4.2.2.1 h
     ·omega
  ·exact ⟨hp.bel.os, hp.bel.tape, hp.bel.output, hp.bel.size, fun k hk hz => hp.bel.block k hk (fun hh => hz (by
    rcases hh with h | h | h
    ·exact hO4 k (.inr (.inl h))
    ·exact hO4 k (.inl h)
    ·exact h ▸ hlO))⟩
  ·rintro c (h | h | h)
   ·exact .inl h
   ·rcases p2 c h with h | h | h
    ·exact .inl (hO4 c (.inr (.inl h)))
    ·exact .inl (hO4 c (.inl h))
    ·exact .inr h
   ·rcases p3 c h with h | h
    ·exact .inl (hO4 c (.inr (.inl h)))
    ·exact .inr h
  ·intro c hc
   rcases p4 c hc with h | h | h | h | h | h
   ·exact .inl (hK4 c (.inl h))
   ·exact .inr (.inr (.inl h))
   ·exact .inr (.inl (hO4 c (.inr (.inl h))))
   ·exact .inr (.inl (hO4 c (.inl h)))
   ·exact .inl (hK4 c (.inr h))
   ·exact .inr (.inr (.inr h))
  ·rintro c ((h | h | h) | (h | h))
   ·exact Nat.lt_of_lt_of_le (hlt c (.inl h)) hp.bel.size
   ·exact R'.lt c (.inl h)
   ·obtain ⟨i, f, h1, h2, h3⟩ := h
    exact h3 ▸ R'.r.hp.siz i f h1 h2
   ·exact (R'.r.okb c h).1
   ·exact R'.lt c (.inr h)
 ·-- behind it
  rintro e w5 ⟨⟨v, rfl⟩, O4, K4, q, O3, K3, ok3, β3, hf, Rq, hlq, hdq, hO4, hK4, hldq⟩
  rw [List.drop_length] at hf
  simp only [foldY, Option.some.injEq] at hf
  subst hf
  have hend := run_endLoop (P := P) hlq (by rw [hrec]; simp)
  obtain ⟨lx, hlx⟩ : ∃ lx : Loop, lx = { rec .ready none with state := .exhausted } := ⟨_, rfl⟩
  rw [<- hlx] at hend
  have hpend : (rec .ready none).pending = none := by rw [hrec]
  rw [hpend] at hend
  refine ⟨none, _, hend, ?_⟩
  have hl4 := hldq l (.inl rfl)
  have hd4 := hldq dl (.inr rfl)
  have R4 := Rq.frame (Z := fun c => c = l) (below_put (l := l) (o := .loop lx) w5) (by
   rintro c rfl
   exact ⟨hl4.1, hl4.2.1, hl4.2.2.1, hl4.2.2.2, R.zz c (by omega), .inl (Nat.le_trans R.r.bas (by omega)), fun hh => (by have := hms c hh; omega), hlV⟩)
  refine hQ (dl :: ms) _ _ ⟨O3, K3, ok3, β3, R4.j, ?_, R4.lt, R4.ko, R4.wo, R4.of, ?_, ?_, R4.zz, R4.vv, R4.vn, R4.vs, R4.nv, R4.om, R4.vu⟩
  ·refine R4.r.withM (dl :: ms) ?_ rfl
   show [markOf dl] ++ a.defers = _
   rw [show a.defers = ms.map markOf from R4.r.df]
   rfl
  ·intro d hd
   rcases List.mem_cons.1 hd with rfl | hd
   ·exact ⟨by rw [World.putObj_heap_other hne]; exact hdq, hd4.1, hd4.2.1, hd4.2.2.1, hd4.2.2.2, Nat.le_trans R.r.bas (by omega), R.zz d (by omega), hdV⟩
   ·exact R4.mks d hd
  ·exact List.nodup_cons.2 ⟨fun hh => (by have := hms dl hh; omega), R4.nd⟩
end
end
section
section
variable {σ : Type} {P : Program} {w w' W : World} {ok ok' okx : Nat -> Prop} {β β' : Nat -> Nat × Nat} {ops : Array Oper}
variable {Ok : σ -> Prop} {F : Fr P} {st st' : St} {a a' : Act} {env : Env} {o : Oper} {J : JJ σ} {C : Cx} {x x' : σ} {O K : Nat -> Prop} {ms : List Nat} {Y : YEnv σ} {s s' s1 : St × σ} {Q : Exit -> Act -> World -> Prop} {rd : Option Nat} {n : Nat}

theorem RelJ.preL (R : RelJ P F J C ms st x a w) (h : Hints) (b : Code) : RelJ P F J C ms (Go.Ev.preL h b st) x a w := R.same fun _ R' => R'.preL h b

theorem seqY_ok {ρ : Type} {rr : ρ} {next : St × σ -> Option ρ} {K : Exit -> St × σ -> Option ρ} (hn : ∀ q, next q = some rr -> Ok q.2) (hK : ∀ e s, K e s = some rr -> Ok s.2) {e : Exit} {q : St × σ} (h : seqY next K e q = some rr) : Ok q.2 := by
 unfold seqY at h
 cases e <;> first | exact hn _ h | exact hK _ _ h | (cases h; done)
theorem blockY_ok {ρ : Type} {rr : ρ} {id : Nat} {K : Exit -> St × σ -> Option ρ} (hK : ∀ e s, K e s = some rr -> Ok s.2) {e : Exit} {q : St × σ} (h : blockY id K e q = some rr) : Ok q.2 := by
 unfold blockY at h
 cases e with
 | exit i =>
  simp only at h
  split at h
  ·exact hK _ _ h
  ·exact hK _ _ h
 | normal => exact hK _ _ h
 | ret => exact hK _ _ h
 | goto l => cases h
 | panic c => cases h
 | outgrown => cases h
theorem loopY_mono {ρ : Type} {rr : ρ} {body : St × σ -> (Exit -> St × σ -> Option ρ) -> Option ρ} (hmono : ∀ (s : St × σ) (K : Exit -> St × σ -> Option ρ), body s K = some rr -> (∀ e s, K e s = some rr -> Ok s.2) -> Ok s.2) (pre : St -> St) :
  ∀ (m : Nat) (s : St × σ) (K : Exit -> St × σ -> Option ρ), (∀ e s, K e s = some rr -> Ok s.2) -> loopY pre body m s K = some rr -> Ok s.2
 | 0, s, K, hK, h => by simp [loopY] at h
 | m + 1, s, K, hK, h => by
  unfold loopY at h
  exact hmono s _ h (fun e q hq => seqY_ok (fun q hq => loopY_mono hmono pre m (pre q.1, q.2) K hK hq) hK hq)

theorem roundY_mono {asgE bdyE : St × σ -> (Exit -> St × σ -> Option (RoundR σ)) -> Option (RoundR σ)} (hasg : ∀ (s : St × σ) (K : Exit -> St × σ -> Option (RoundR σ)) (rr : RoundR σ), asgE s K = some rr -> (∀ e s, K e s = some rr -> Ok s.2) -> Ok s.2)
  (hbdy : ∀ (s : St × σ) (K : Exit -> St × σ -> Option (RoundR σ)) (rr : RoundR σ), bdyE s K = some rr -> (∀ e s, K e s = some rr -> Ok s.2) -> Ok s.2) {p : Nat} {yd : D} (h : roundY Y asgE bdyE p s yd = some s1) (hk : Ok s1.2) : Ok s.2 := by
 unfold roundY at h
 split at h
 ·obtain ⟨r, hr, rfl⟩ := Option.map_eq_some_iff.1 h
  have hk : Ok r.2 := hk
  have hf : ∀ (m : Nat) (e : Exit) (q : St × σ), (match e with | .normal => finR m q | _ => none) = some r -> Ok q.2 := by
   intro m e q hq
   cases e <;> first | (cases hq; done) | (rw [finR_ok hq]; exact hk)
  refine (show Ok ((roundSt Y s.1 (idsOf s.1 s.1.sl) p yd, s.2) : St × σ).2 from hasg _ _ _ hr (fun e q hq => ?_))
  cases e with
  | normal => exact hbdy _ _ _ hq (fun e q hq => hf _ e q hq)
  | _ => cases hq
 ·cases h
theorem foldY_mono {f : St × σ -> D -> Option (St × σ)} (hf : ∀ s y s1, f s y = some s1 -> Ok s1.2 -> Ok s.2) : ∀ (ys : List D) (s s' : St × σ), foldY f ys s = some s' -> Ok s'.2 -> Ok s.2
 | [], s, s', h, hk => by simp only [foldY, Option.some.injEq] at h; subst h; exact hk
 | y :: ys, s, s', h, hk => by
  simp only [foldY] at h
  obtain ⟨s1, h1, h2⟩ := Option.bind_eq_some_iff.1 h
  exact hf s y s1 h1 (foldY_mono hf ys s1 s' h2 hk)

theorem evCodeY_mono (hF : FopOK P J Ok Y) (hh : Hints) (fuel : Nat) : ∀ (c : Code) (top : Bool) (ρ : Type) (rr : ρ) (s : St × σ) (K : Exit -> St × σ -> Option ρ), evCodeY P env Y hh fuel c top ρ s K = some rr -> (∀ e s, K e s = some rr -> Ok s.2) -> Ok s.2 := by
 intro c
 induction c with
 | skip => intro top ρ rr s K h hK; exact hK _ _ h
 | region id ops draw =>
  intro top ρ rr s K h hK
  simp only [evCodeY] at h
  obtain ⟨s', h1, h2⟩ := regYK_run h
  exact regY_mono hF h1 (hK _ _ h2)
 | seq x y ihx ihy =>
  intro top ρ rr s K h hK
  simp only [evCodeY] at h
  exact ihx top ρ rr s _ h (fun e q hq => seqY_ok (fun q hq => ihy top ρ rr q K hq hK) hK hq)
 | cond c x y ihx ihy =>
  intro top ρ rr s K h hK
  cases c with
  | tmp c =>
   simp only [evCodeY] at h
   cases hb : boolOf P (s.1.get c) with
   | none => rw [hb] at h; cases h
   | some b =>
    rw [hb] at h
    simp only at h
    cases b with
    | true => rw [cond_true] at h; have := ihx top ρ rr _ K h hK; exact this
    | false => rw [cond_false] at h; have := ihy top ρ rr _ K h hK; exact this
  | const v =>
   cases v with
   | bool b =>
    simp only [evCodeY] at h
    cases b with
    | true => rw [cond_true] at h; exact ihx top ρ rr s K h hK
    | false => rw [cond_false] at h; exact ihy top ρ rr s K h hK
   | _ => simp [evCodeY] at h
  | global g => simp [evCodeY] at h
  | func f => simp [evCodeY] at h
 | block id b ih =>
  intro top ρ rr s K h hK
  simp only [evCodeY] at h
  exact ih top ρ rr s _ h (fun e q hq => blockY_ok hK hq)
 | loop b ih =>
  intro top ρ rr s K h hK
  simp only [evCodeY] at h
  have := loopY_mono (fun s K h hK => ih top ρ rr s K h hK) (Go.Ev.preL hh b) fuel _ K hK h
  exact this
 | exit id => intro top ρ rr s K h hK; exact hK _ _ h
 | label l => intro top ρ rr s K h hK; exact hK _ _ h
 | ret => intro top ρ rr s K h hK; exact hK _ _ h
 | rangeFunc f ps x y ihx ihy =>
  intro top ρ rr s K h hK
  cases f with
  | tmp g =>
   simp only [evCodeY] at h
   split at h
   ·rename_i p b ys hps hi
    cases top with
    | false => simp at h
    | true =>
     simp only [if_true] at h
     obtain ⟨s', h1, h2⟩ := Option.bind_eq_some_iff.1 h
     have := foldY_mono (f := roundC Y (evCodeY P env Y hh fuel x false (RoundR σ)) (evCodeY P env Y hh fuel y false (RoundR σ)) p (Go.Ev.preL hh x)) (fun s y s1 h hk => by
      unfold roundC at h
      obtain ⟨q0, hq0, rfl⟩ := Option.map_eq_some_iff.1 h
      exact roundY_mono (fun s K rr h hK => ihx false _ rr s K h hK) (fun s K rr h hK => ihy false _ rr s K h hK) hq0 hk) ys _ s' h1 (hK _ _ h2)
     exact this
   ·cases h
  | const v => simp [evCodeY] at h
  | global g => simp [evCodeY] at h
  | func f => simp [evCodeY] at h
 | scope b _ => intro top ρ rr s K h hK; simp [evCodeY] at h
 | goto l => intro top ρ rr s K h hK; simp [evCodeY] at h
 | refuse t => intro top ρ rr s K h hK; simp [evCodeY] at h

theorem roundsY_sound {ρ : Type} {rr : ρ} {c : Code} {body : St × σ -> (Exit -> St × σ -> Option ρ) -> Option ρ}
  (hmono : ∀ (s : St × σ) (K : Exit -> St × σ -> Option ρ), body s K = some rr -> (∀ e s, K e s = some rr -> Ok s.2) -> Ok s.2)
  (hbody : ∀ (ms : List Nat) (s : St × σ) (K : Exit -> St × σ -> Option ρ), body s K = some rr -> (∀ e s, K e s = some rr -> Ok s.2) -> ∀ a w, RelJ P F J C ms s.1 s.2 a w -> c.wpIn (wr rd) n P (PostY P F J C K rr) a w)
  (pre : St -> St) (hpre : ∀ (ms : List Nat) (st : St) (x : σ) (a : Act) (w : World), RelJ P F J C ms st x a w -> RelJ P F J C ms (pre st) x a w) (K : Exit -> St × σ -> Option ρ) (hK : ∀ e s, K e s = some rr -> Ok s.2) :
  ∀ (m : Nat) (ms : List Nat) (s : St × σ) (a : Act) (w : World), loopY pre body m s K = some rr -> RelJ P F J C ms s.1 s.2 a w -> Code.roundsIn (wr rd) n P c (PostY P F J C K rr) m a w
 | 0, _, _, _, _, h, _ => by simp [loopY] at h
 | m + 1, ms, s, a, w, h, R => by
  unfold loopY at h
  rw [roundsIn_succ]
  refine wpIn_mono (hbody ms s _ h (fun e q hq => seqY_ok (fun q hq => loopY_mono hmono pre m (pre q.1, q.2) K hK hq) hK hq) a w R) ?_
  rintro e a' w' ⟨ms', s', R', hk⟩
  cases e with
  | normal => exact roundsY_sound hmono hbody pre hpre K hK m ms' _ a' w' hk (hpre _ _ _ _ _ R')
  | exit i => exact ⟨ms', s', R', hk⟩
  | ret => exact ⟨ms', s', R', hk⟩
  | goto l => cases hk
  | panic c => cases hk
  | outgrown => cases hk

theorem evCodeY_sound (hm : P.follows .mixedOrders = true) (henv : EnvOK P env) (hF : FopOK P J Ok Y) (hIt : ItOK P Y) (hh : Hints) (fuel : Nat) : ∀ (c : Code) (top : Bool) (rd : Option Nat) (n : Nat) (ρ : Type) (rr : ρ) (F : Fr P) (C : Cx) (ms : List Nat) (s : St × σ) (K : Exit -> St × σ -> Option ρ),
  (top = true -> rd = none) -> evCodeY P env Y hh fuel c top ρ s K = some rr -> (∀ e s, K e s = some rr -> Ok s.2) -> ∀ a w, RelJ P F J C ms s.1 s.2 a w -> c.wpIn (wr rd) n P (PostY P F J C K rr) a w := by
 intro c
 induction c with
 | skip => intro top rd n ρ rr F C ms s K _ h hK a w R; exact wpIn_skip ⟨ms, s, R, h⟩
 | region id ops draw =>
  intro top rd n ρ rr F C ms s K _ h hK a w R
  simp only [evCodeY] at h
  obtain ⟨s', h1, h2⟩ := regYK_run h
  exact regY_sound hm henv hF h1 (hK _ _ h2) R (fun a w R' => ⟨ms, s', R', h2⟩)
 | seq x y ihx ihy =>
  intro top rd n ρ rr F C ms s K ht h hK a w R
  simp only [evCodeY] at h
  refine wpIn_seq (wpIn_mono (ihx top rd n ρ rr F C ms s _ ht h (fun e q hq => seqY_ok (fun q hq => evCodeY_mono hF hh fuel y top ρ rr q K hq hK) hK hq) a w R) ?_)
  rintro e a' w' ⟨ms', s', R', hk⟩
  cases e with
  | normal => exact ihy top rd n ρ rr F C ms' s' K ht hk hK a' w' R'
  | exit i => exact ⟨ms', s', R', hk⟩
  | ret => exact ⟨ms', s', R', hk⟩
  | goto l => cases hk
  | panic c => cases hk
  | outgrown => cases hk
 | cond c x y ihx ihy =>
  intro top rd n ρ rr F C ms s K ht h hK a w R
  cases c with
  | tmp c =>
   simp only [evCodeY] at h
   cases hb : boolOf P (s.1.get c) with
   | none => rw [hb] at h; cases h
   | some b =>
    rw [hb] at h
    simp only at h
    obtain ⟨O, K0, ok, β, R0⟩ := R
    obtain ⟨t1, u1, d1⟩ := boolOf_spec hb
    obtain ⟨b', e1, e2⟩ := ((R0.r.slot c).d1 t1).bool u1
    have hbb : b' = b := by rw [d1] at e1; simpa using e1.symm
    subst hbb
    cases b' with
    | true =>
     rw [cond_true, know_self hb] at h
     exact wpIn_cond_true e2 (ihx top rd n ρ rr F C ms s K ht h hK a w ⟨O, K0, ok, β, R0⟩)
    | false =>
     rw [cond_false, know_self hb] at h
     exact wpIn_cond_false e2 (ihy top rd n ρ rr F C ms s K ht h hK a w ⟨O, K0, ok, β, R0⟩)
  | const v =>
   cases v with
   | bool b =>
    simp only [evCodeY] at h
    cases b with
    | true =>
     rw [cond_true] at h
     exact wpIn_cond_true rfl (ihx top rd n ρ rr F C ms s K ht h hK a w R)
    | false =>
     rw [cond_false] at h
     exact wpIn_cond_false rfl (ihy top rd n ρ rr F C ms s K ht h hK a w R)
   | _ => simp [evCodeY] at h
  | global g => simp [evCodeY] at h
  | func f => simp [evCodeY] at h
 | block id b ih =>
  intro top rd n ρ rr F C ms s K ht h hK a w R
  simp only [evCodeY] at h
  refine wpIn_block (wpIn_mono (ih top rd n ρ rr F C ms s _ ht h (fun e q hq => blockY_ok hK hq) a w R) ?_)
  rintro e a' w' ⟨ms', s', R', hk⟩
  cases e with
  | normal => exact ⟨ms', s', R', hk⟩
  | exit i =>
   unfold blockY at hk
   simp only at hk
   unfold Exit.inBlock
   simp only
   split at hk
   ·rename_i hi; rw [if_pos hi]; exact ⟨ms', s', R', hk⟩
   ·rename_i hi; rw [if_neg hi]; exact ⟨ms', s', R', hk⟩
  | ret => exact ⟨ms', s', R', hk⟩
  | goto l => cases hk
  | panic c => cases hk
  | outgrown => cases hk
 | loop b ih =>
  intro top rd n ρ rr F C ms s K ht h hK a w R
  simp only [evCodeY] at h
  exact wpIn_loop_rounds fuel (roundsY_sound (fun s K h hK => evCodeY_mono hF hh fuel b top ρ rr s K h hK) (fun ms s K h hK a w R => ih top rd n ρ rr F C ms s K ht h hK a w R) (Go.Ev.preL hh b) (fun ms st x a w R' => R'.preL hh b) K hK fuel ms _ a w h (R.preL hh b))
 | exit id => intro top rd n ρ rr F C ms s K _ h hK a w R; exact wpIn_exit ⟨ms, s, R, h⟩
 | label l => intro top rd n ρ rr F C ms s K _ h hK a w R; exact wpIn_label ⟨ms, s, R, h⟩
 | ret => intro top rd n ρ rr F C ms s K _ h hK a w R; exact wpIn_ret ⟨ms, s, R, h⟩
 | rangeFunc f ps x y ihx ihy =>
  intro top rd n ρ rr F C ms s K ht h hK a w R
  cases f with
  | tmp g =>
   simp only [evCodeY] at h
   split at h
   ·rename_i p b ys hps hi
    cases top with
    | false => simp at h
    | true =>
     simp only [if_true] at h
     obtain ⟨s', h1, h2⟩ := Option.bind_eq_some_iff.1 h
     rw [ht rfl]
     exact range_sound (Ok := Ok) ⟨fun s K rr h hK => evCodeY_mono hF hh fuel x false _ rr s K h hK, fun l n F C ms s K rr he hK a w R => ihx false (some l) n _ rr F C ms s K (by simp) he hK a w R⟩ ⟨fun s K rr h hK => evCodeY_mono hF hh fuel y false _ rr s K h hK, fun l n F C ms s K rr he hK a w R => ihy false (some l) n _ rr F C ms s K (by simp) he hK a w R⟩ hIt (pre := Go.Ev.preL hh x) (fun F st a w R' => R'.preL hh x) R hps hi h1 (hK _ _ h2)
      (fun ms' a w R' => ⟨ms', s', R', h2⟩)
   ·cases h
  | const v => simp [evCodeY] at h
  | global g => simp [evCodeY] at h
  | func f => simp [evCodeY] at h
 | scope b _ => intro top rd n ρ rr F C ms s K _ h hK a w R; simp [evCodeY] at h
 | goto l => intro top rd n ρ rr F C ms s K _ h hK a w R; simp [evCodeY] at h
 | refuse t => intro top rd n ρ rr F C ms s K _ h hK a w R; simp [evCodeY] at h
end
end
end Go.Ev
