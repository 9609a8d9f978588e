/- Trees of functions, and lemmas. Nothing here is trusted. -/
import Derived.Test.YtngkmngbnlmgjaaZ14
import Derived.WideShapes
import Derived.ChangeOld
namespace Go.Ev
set_option linter.unusedVariables false
set_option linter.unusedSimpArgs false
section
open Go.RowKit
/-- Data of a type. -/
def Ty (P : Program) : Nat -> TypeId -> D -> Prop
 | 0, _, _ => False
 | n + 1, t, d =>
  match P.underlying t, d with
  | some .bool, .lit (.bool _) => True
  | some (.int k), .lit (.int k' z) => k' = k /\ (Lit.int k z).wf = true
  | some .string, .lit (.string s) => s.length <= maxLen
  | some (.slice e), .slice es sp => sp = [] /\ es.length <= maxLen /\ ∀ y ∈ es, Ty P n e y
  | some (.struct fs), .agg ps => ps.length = fs.size /\ ∀ k f, fs[k]? = some f -> Ty P n f.type (ps.getD k .nil)
  | some (.array m e), .agg ps => ps.length = m /\ ∀ k, k < m -> Ty P n e (ps.getD k .nil)
  | some (.func _ _ _), .held v => v = .nilFunc \/ (∃ f, v = .func (.func f) #[] #[]) \/ ∃ l, v = .func (.yield l) #[] #[]
  | some (.map _ _), .held v => ∃ b, v = .map b
  | some (.func _ _ _), .agg ps => ∃ (f : FuncId) (t0 : TypeId) (x : D), ps = [.held (.func (.func f) #[] #[]), .lit (.int .u64 (t0 : Int)), x] /\ Ty P n t0 x
  | _, _ => False

/-- Types that are read through: with each those that it leads to. -/
def okTypes (P : Program) (S : List TypeId) : Bool :=
 S.all fun t => match P.underlying t with
  | some .bool | some (.int _) | some .string => P.cellsOf t == 1
  | some (.slice e) => P.cellsOf t == 1 && S.contains e && decide (0 < P.cellsOf e)
  | some (.struct fs) => layOK P fs (P.cellsOf t) && fs.toList.all (fun f => S.contains f.type) &&
    (List.range (P.cellsOf t)).all fun j => fs.toList.any fun f => decide (f.offset <= j) && decide (j < f.offset + P.cellsOf f.type)
  | _ => false

section
variable {P : Program} {w w' : World} {ok ok' : Nat -> Prop}

theorem Rep.ty : ∀ {n : Nat} {t : TypeId} {cs : List Value} {d : D}, Rep P w ok n t cs d -> Ty P n t d
 | 0, _, _, _, h => h.elim
 | n + 1, t, cs, d, h => by
  obtain ⟨h1, h2, h3⟩ := h
  unfold Ty
  split at h3
  ·rename_i hu; rw [hu]; trivial
  ·rename_i hu; rw [hu]; exact ⟨h3.1, h3.2.2⟩
  ·rename_i hu; rw [hu]; exact h3.2
  ·rename_i hu
   rw [hu]
   obtain ⟨hsp, a, cap, e1, e2, e3, e4, e5⟩ := h3
   refine ⟨hsp, Nat.le_trans e2 e3, fun y hy => ?_⟩
   obtain ⟨i, hi⟩ := List.getElem?_of_mem hy
   cases a with
   | none =>
    have := e4 rfl
    have hlt := (List.getElem?_eq_some_iff.1 hi).1
    omega
   | some x =>
    obtain ⟨_, c, _, hr⟩ := e5 x rfl i y hi
    exact hr.ty
  ·rename_i hu; rw [hu]; exact ⟨h3.1, fun k f hf => (h3.2 k f hf).ty⟩
  ·rename_i hu; rw [hu]; exact ⟨h3.1, fun k hk => (h3.2 k hk).ty⟩
  ·rename_i hu; rw [hu]; exact h3.2
  ·rename_i hu; rw [hu]; exact h3.2
  ·rename_i hu
   rw [hu]
   obtain ⟨f, r, t0, x, e1, e2, e3, e4⟩ := h3
   exact ⟨f, t0, x, e1, e3.ty⟩
  ·exact h3.elim

theorem choose_list {Q : Nat -> D -> Prop} : ∀ (n : Nat), (∀ k, k < n -> ∃ d, Q k d) -> ∃ l : List D, l.length = n /\ ∀ k, k < n -> Q k (l.getD k .nil)
 | 0, _ => ⟨[], rfl, fun k hk => by omega⟩
 | n + 1, h => by
  obtain ⟨l, hl, hq⟩ := choose_list n (fun k hk => h k (by omega))
  obtain ⟨d, hd⟩ := h n (by omega)
  refine ⟨l ++ [d], by simp [hl], fun k hk => ?_⟩
  by_cases hkn : k < n
  ·rw [List.getD_eq_getElem?_getD, List.getElem?_append_left (by omega), <- List.getD_eq_getElem?_getD]
   exact hq k hkn
  ·have : k = n := by omega
   subst this
   rw [List.getD_eq_getElem?_getD, List.getElem?_append_right (by omega)]
   simpa [hl] using hd

theorem mapM_get {α β : Type} {f : α -> Option β} : ∀ {l : List α} {r : List β}, l.mapM f = some r -> r.length = l.length /\ ∀ (i : Nat) (x : α), l[i]? = some x -> ∃ y, f x = some y /\ r[i]? = some y
 | [], r, h => by
  simp at h
  subst h
  exact ⟨rfl, fun i x hx => by simp at hx⟩
 | a :: l, r, h => by
  rw [List.mapM_cons] at h
  simp only [Option.bind_eq_bind, Option.pure_def, Option.bind_eq_some_iff, Option.some.injEq] at h
  obtain ⟨y, hy, ys, hys, rfl⟩ := h
  obtain ⟨h1, h2⟩ := mapM_get hys
  refine ⟨by simp [h1], fun i x hx => ?_⟩
  cases i with
  | zero => simp at hx; subst hx; exact ⟨y, hy, rfl⟩
  | succ i => simp at hx; simpa using h2 i x hx

theorem cells?_row {base : Nat} {a : Addr} {n : Nat} {c : List Value} (h : w.cells? base a n = some c) : rowAt w a c := by
 unfold World.cells? at h
 split at h
 ·obtain ⟨h1, h2⟩ := mapM_get h
  intro j v hj
  have hlt : j < n := by
   have := (List.getElem?_eq_some_iff.1 hj).1
   rw [h1] at this
   simpa using this
  obtain ⟨y, hy, hr⟩ := h2 j j (by simp [hlt])
  rw [hr] at hj
  cases hj
  exact hy
 ·cases h

theorem okTypes_spec {S : List TypeId} (hS : okTypes P S = true) {t : TypeId} (ht : t ∈ S) : (match P.underlying t with
  | some .bool | some (.int _) | some .string => P.cellsOf t == 1
  | some (.slice e) => P.cellsOf t == 1 && S.contains e && decide (0 < P.cellsOf e)
  | some (.struct fs) => layOK P fs (P.cellsOf t) && fs.toList.all (fun f => S.contains f.type) &&
    (List.range (P.cellsOf t)).all fun j => fs.toList.any fun f => decide (f.offset <= j) && decide (j < f.offset + P.cellsOf f.type)
  | _ => false) = true := by
 unfold okTypes at hS
 rw [List.all_eq_true] at hS
 exact hS t ht

theorem trod_rep {H : Type} {enc : TypeId × Value -> H} {base : Nat} {spare : Nat -> Bool} {held : Bool} {S : List TypeId} (hS : okTypes P S = true) :
  ∀ (fuel : Nat) (t : TypeId) (cs : List Value) (x : DataW H × List MemPlace), t ∈ S -> DataW.trod enc P w base spare held fuel t cs = some x -> (∀ p ∈ x.2, ok p.block) -> ∃ d, Rep P w ok fuel t cs d
 | 0, _, _, _, _, h, _ => by simp [DataW.trod] at h
 | fuel + 1, t, cs, x, ht, h, hok => by
  have hs := okTypes_spec hS ht
  unfold DataW.trod at h
  split at hs
  ·rename_i hu
   rw [hu] at h
   rw [beq_iff_eq] at hs
   split at h <;> try (simp_all; done)
   rename_i b _
   refine ⟨.lit (.bool b), by simp [hs], by simp [Value.oneCell'], ?_⟩
   rw [hu]
  ·rename_i k hu
   rw [hu] at h
   rw [beq_iff_eq] at hs
   split at h <;> try (simp_all; done)
   rename_i k0 k' n heq
   cases heq
   split at h
   ·rename_i hc
    obtain ⟨rfl, hw⟩ := hc
    refine ⟨.lit (.int k' n), by simp [hs], by simp [Value.oneCell'], ?_⟩
    rw [hu]
    exact ⟨rfl, rfl, hw⟩
   ·cases h
  ·rename_i hu
   rw [hu] at h
   rw [beq_iff_eq] at hs
   split at h <;> try (simp_all; done)
   rename_i s _
   split at h
   ·rename_i hc
    refine ⟨.lit (.string s.data.toList), by simp [hs], by simp [Value.oneCell'], ?_⟩
    rw [hu]
    exact ⟨by simp, by simpa using hc⟩
   ·cases h
  ·rename_i e hu
   rw [hu] at h
   rw [Bool.and_eq_true, Bool.and_eq_true, beq_iff_eq, decide_eq_true_eq] at hs
   obtain ⟨⟨h1, he⟩, hpos⟩ := hs
   have he' : e ∈ S := by simpa using he
   split at h <;> try (simp_all; done)
   ·refine ⟨.slice [] [], by simp [h1], by simp [Value.oneCell'], ?_⟩
    rw [hu]
    exact ⟨rfl, none, 0, rfl, Nat.le_refl _, Nat.zero_le _, fun _ => rfl, fun x hx => by cases hx⟩
   ·rename_i e0 a len cap heq
    cases heq
    simp only at h
    split at h
    ·rename_i hc
     obtain ⟨_, hlc, hcm⟩ := hc
     obtain ⟨elems, hel, h⟩ := Option.bind_eq_some_iff.1 h
     obtain ⟨rest, _, rfl⟩ := Option.map_eq_some_iff.1 h
     obtain ⟨hlen, hget⟩ := mapM_get hel
     have hlen' : elems.length = len := by simpa using hlen
     have hcell : ∀ k, k < len -> ∃ y, (w.cells? base (a.add (k * P.cellsOf e)) (P.cellsOf e)).bind (DataW.trod enc P w base spare held fuel e) = some y /\ elems[k]? = some y := fun k hk => hget k k (by simp [hk])
     have hex : ∀ k, k < len -> ∃ d, ∃ c : List Value, rowAt w (a.add (k * P.cellsOf e)) c /\ Rep P w ok fuel e c d := by
      intro k hk
      obtain ⟨y, hy, hyk⟩ := hcell k hk
      obtain ⟨c, hc1, hc2⟩ := Option.bind_eq_some_iff.1 hy
      obtain ⟨d, hd⟩ := trod_rep hS fuel e c y he' hc2 (fun p hp => hok p (by
       simp only
       refine List.mem_append_right _ (List.mem_flatMap.2 ⟨y, List.mem_append_left _ (List.mem_of_getElem? hyk), hp⟩)))
      exact ⟨d, c, cells?_row hc1, hd⟩
     obtain ⟨l, hl, hq⟩ := choose_list len hex
     refine ⟨.slice l [], by simp [h1], by simp [Value.oneCell'], ?_⟩
     rw [hu]
     refine ⟨rfl, some a, cap, by rw [hl], by omega, hcm, by simp, fun x hx k y hy => ?_⟩
     cases hx
     have hk : k < len := by rw [<- hl]; exact (List.getElem?_eq_some_iff.1 hy).1
     have hgd : l.getD k .nil = y := by simp [List.getD, hy]
     obtain ⟨c, hc1, hc2⟩ := hq k hk
     rw [hgd] at hc2
     refine ⟨?_, c, hc1, hc2⟩
     have hmem : MemPlace.cell a.block (a.off + 0) ∈ MemPlace.row a ((elems.length + rest.length) * P.cellsOf e) := by
      unfold MemPlace.row
      refine List.mem_map.2 ⟨0, List.mem_range.2 ?_, rfl⟩
      exact Nat.mul_pos (by omega) hpos
     exact hok _ (List.mem_append_left _ hmem)
    ·cases h
  ·rename_i fs hu
   simp only [hu] at h
   simp only [Bool.and_eq_true] at hs
   obtain ⟨⟨hl, hall⟩, hcov⟩ := hs
   split at h
   ·rename_i hlen
    obtain ⟨xs, hxs, rfl⟩ := Option.map_eq_some_iff.1 h
    obtain ⟨hxl, hget⟩ := mapM_get hxs
    have hex : ∀ k, k < fs.size -> ∃ d, ∀ f, fs[k]? = some f -> Rep P w ok fuel f.type ((cs.drop f.offset).take (P.cellsOf f.type)) d := by
     intro k hk
     have hfk : fs.toList[k]? = some fs[k] := by simp [hk]
     obtain ⟨y, hy, hyk⟩ := hget k fs[k] hfk
     have hm : (fs[k]).type ∈ S := by
      rw [List.all_eq_true] at hall
      have := hall fs[k] (by simp)
      simpa using this
     obtain ⟨d, hd⟩ := trod_rep hS fuel _ _ y hm hy (fun p hp => hok p (List.mem_flatMap.2 ⟨y, List.mem_of_getElem? hyk, hp⟩))
     refine ⟨d, fun f hf => ?_⟩
     have : fs[k]? = some fs[k] := Array.getElem?_eq_getElem hk
     rw [this] at hf
     cases hf
     exact hd
    obtain ⟨l, hll, hq⟩ := choose_list fs.size hex
    refine ⟨.agg l, hlen, fun v hv => ?_, ?_⟩
    ·obtain ⟨j, hj⟩ := List.getElem?_of_mem hv
     have hjlt : j < P.cellsOf t := by rw [<- hlen]; exact (List.getElem?_eq_some_iff.1 hj).1
     rw [List.all_eq_true] at hcov
     have := hcov j (List.mem_range.2 hjlt)
     rw [List.any_eq_true] at this
     obtain ⟨f, hf, hfj⟩ := this
     simp only [Bool.and_eq_true, decide_eq_true_eq] at hfj
     obtain ⟨k, hk⟩ := List.getElem?_of_mem hf
     have hk' : fs[k]? = some f := by simpa using hk
     have hklt : k < fs.size := (Array.getElem?_eq_some_iff.1 hk').1
     have hr := hq k hklt f hk'
     refine hr.one v ?_
     refine List.mem_of_getElem? (i := j - f.offset) ?_
     rw [List.getElem?_take_of_lt (by omega), List.getElem?_drop]
     rw [show f.offset + (j - f.offset) = j from by omega]
     exact hj
    ·rw [hu]
     exact ⟨hll, fun k f hf => hq k ((Array.getElem?_eq_some_iff.1 hf).1) f hf⟩
   ·cases h
  ·cases hs

/-- An argument of a claim. -/
theorem arg_rep {H : Type} {enc : TypeId × Value -> H} {r : Reach} {b0 : Nat} {spare : Nat -> Bool} {held : Bool} {S : List TypeId} (hS : okTypes P S = true) {t : TypeId} (ht : t ∈ S) {v : Value} {d : DataW H} {p : List MemPlace}
  (hv : Value.okWide P w r b0 t v) (h : DataW.Trod enc P w 0 spare held t v d p) : ∃ n x, Ty P n t x /\ RepV P w (fun b => b < w.heap.size) t v x := by
 obtain ⟨fuel, hf⟩ := h
 obtain ⟨x, hx⟩ := trod_rep (ok := fun b => b < w.heap.size) hS fuel t _ _ ht hf (fun q hq => DataW.trod_lt fuel _ _ _ hf q hq)
 refine ⟨fuel, x, hx.ty, ⟨fuel, hx⟩, fun ha => ?_, fun ha => ?_⟩
 ·unfold isAggB at ha
  unfold Value.okWide at hv
  split at ha
  ·rename_i hu; rw [hu] at hv; obtain ⟨cs, e, _⟩ := hv; exact ⟨cs, e⟩
  ·rename_i hu; rw [hu] at hv; obtain ⟨cs, e, _⟩ := hv; exact ⟨cs, e⟩
  ·cases ha
 ·have hs := okTypes_spec hS ht
  have hone := hx.one
  cases v with
  | agg cs =>
   exfalso
   unfold isAggB at ha
   unfold Value.okWide at hv
   split at hs
   all_goals first
    | (rename_i hu; rw [hu] at ha; simp at ha; done)
    | (rename_i hu; rw [hu] at hv; simp [Cell.okWide, Cell.ok, hu] at hv; done)
    | (cases hs)
  | _ => rfl

/-- A contract that tells true: the call returns true, and nothing that was there has turned. -/
theorem calls_true {f : FuncId} {args : List AV} {tb : TypeId} (hb : P.underlying tb = some .bool) (htb : TabOn P (fun _ => False) w) (h : CallOK P f args (dat tb (.lit (.bool true)))) {vs : List Value} (hargs : ArgsRep P w (fun b => b < w.heap.size) args vs) :
  Calls P f vs.toArray w fun e w' => e = .returned (.bool true) /\ Below w.heap.size w w' := by
 refine (h.call w _ vs htb (fun b hb => hb) hargs).mono ?_
 rintro e w' ⟨v, ok', rfl, hbel, _, hr⟩
 obtain ⟨b, h1, h2⟩ := (hr.d1 rfl).bool hb
 have : b = true := by simpa [dat] using h1.symm
 rw [h2, this]
 exact ⟨rfl, hbel⟩

end
end
section
open Go.RowKit
abbrev Tab := List (FuncId × TypeId × (List AV -> Bool) × (List AV -> Option D))
abbrev HTab := List (FuncId × TypeId × (List AV -> List Ent -> Bool) × (List AV -> List Ent -> Option (AV × List (Option Ent))))
abbrev RTab := List (FuncId × TypeId × (List AV -> List Ent -> Bool) × (List AV -> List Ent -> Option D))
abbrev GTab := List (FuncId × TypeId × (List AV -> Bool) × (List AV -> Option (AV × List Ent)))
abbrev FTab := List (FuncId × TypeId × (List AV -> Bool) × (List AV -> Option (Nat × D)))
def envR (l : Tab) (lh : HTab) (lr : RTab) (lf : FTab) (lg : GTab := []) : Env := ⟨fun f => (l.find? (fun e => e.1 == f)).map (·.2), fun f => (lh.find? (fun e => e.1 == f)).map (·.2), true, fun f => (lr.find? (fun e => e.1 == f)).map (·.2), fun f => (lf.find? (fun e => e.1 == f)).map (·.2), fun _ => none, false, fun f => (lg.find? (fun e => e.1 == f)).map (·.2), false⟩
/-- The same, with struct variables that are held field by field. -/
def envS (env : Env) (l : List (Nat × Nat)) : Env := { env with sp := fun d => (l.find? (fun p => p.1 == d)).map (·.2), sn := true }
abbrev envH (l : Tab) (lh : HTab) : Env := envR l lh [] []
abbrev envOf (l : Tab) : Env := envH l []

def shapeOK (ts : List TypeId) (as : List AV) : Bool := as.map (·.tag) == ts.map (fun _ => 1) && as.map (·.ty) == ts
/-- A function of data of these types. -/
def ent (ts : List TypeId) (F : List D -> Option D) : List AV -> Option D := fun as => if shapeOK ts as then F (as.map (·.d)) else none

section
variable {P : Program}

def yes : List AV -> Bool := fun _ => true

theorem envOK_nil : EnvOK P (envOf []) := ⟨fun f t pre F args d h => by simp [envR] at h, fun f t pre F args hh r h' h => by simp [envR] at h, fun f t pre F args hh d h => by simp [envR] at h, fun f t pre F args k d h => by simp [envR] at h, fun f t pre F args r es h => by simp [envR] at h⟩

theorem find_cons {α : Type} {f g : FuncId} {x y : α} {l : List (FuncId × α)} (h : (((f, x) :: l).find? (fun e => e.1 == g)).map (·.2) = some y) : (f = g /\ x = y) \/ (l.find? (fun e => e.1 == g)).map (·.2) = some y := by
 rw [List.find?_cons] at h
 split at h
 ·rename_i heq
  rw [beq_iff_eq] at heq
  simp only [Option.map_some, Option.some.injEq] at h
  exact .inl ⟨heq, h⟩
 ·exact .inr h

theorem envOK_cons' {f : FuncId} {t : TypeId} {pre : List AV -> Bool} {F : List AV -> Option D} {l : Tab} {lh : HTab} {lr : RTab} {lf : FTab} {lg : GTab} (hl : EnvOK P (envR l lh lr lf lg)) (h : ∀ args d, pre args = true -> F args = some d -> CallOK P f args (mkRes P t d)) : EnvOK P (envR ((f, t, pre, F) :: l) lh lr lf lg) := by
 refine ⟨?_, hl.h, hl.r, hl.f, hl.g⟩
 intro g u q G args d he hp hd
 rcases find_cons he with ⟨rfl, heq⟩ | he
 ·simp only [Prod.mk.injEq] at heq
  obtain ⟨rfl, rfl, rfl⟩ := heq
  exact h args d hp hd
 ·exact hl.p g u q G args d he hp hd

theorem envOK_consH {f : FuncId} {t : TypeId} {pre : List AV -> List Ent -> Bool} {F : List AV -> List Ent -> Option (AV × List (Option Ent))} {l : Tab} {lh : HTab} {lr : RTab} {lf : FTab} {lg : GTab} (hl : EnvOK P (envR l lh lr lf lg))
  (h : ∀ args hp r h', pre args hp = true -> F args hp = some (r, h') -> HCallOK P f args hp r h') : EnvOK P (envR l ((f, t, pre, F) :: lh) lr lf lg) := by
 refine ⟨hl.p, ?_, hl.r, hl.f, hl.g⟩
 intro g u q G args hh r h' he hp hd
 rcases find_cons he with ⟨rfl, heq⟩ | he
 ·simp only [Prod.mk.injEq] at heq
  obtain ⟨rfl, rfl, rfl⟩ := heq
  exact h args hh r h' hp hd
 ·exact hl.h g u q G args hh r h' he hp hd

theorem envOK_consR {f : FuncId} {t : TypeId} {pre : List AV -> List Ent -> Bool} {F : List AV -> List Ent -> Option D} {l : Tab} {lh : HTab} {lr : RTab} {lf : FTab} {lg : GTab} (hl : EnvOK P (envR l lh lr lf lg))
  (h : ∀ args hp d, pre args hp = true -> F args hp = some d -> HCallOK P f args hp (mkRes P t d) (hp.map some)) : EnvOK P (envR l lh ((f, t, pre, F) :: lr) lf lg) := by
 refine ⟨hl.p, hl.h, ?_, hl.f, hl.g⟩
 intro g u q G args hh d he hp hd
 rcases find_cons he with ⟨rfl, heq⟩ | he
 ·simp only [Prod.mk.injEq] at heq
  obtain ⟨rfl, rfl, rfl⟩ := heq
  exact h args hh d hp hd
 ·exact hl.r g u q G args hh d he hp hd

theorem envOK_consF {f : FuncId} {t : TypeId} {pre : List AV -> Bool} {F : List AV -> Option (Nat × D)} {l : Tab} {lh : HTab} {lr : RTab} {lf : FTab} {lg : GTab} (hl : EnvOK P (envR l lh lr lf lg))
  (h : ∀ args k d, pre args = true -> F args = some (k, d) -> FCallOK P f args t k d) : EnvOK P (envR l lh lr ((f, t, pre, F) :: lf) lg) := by
 refine ⟨hl.p, hl.h, hl.r, ?_, hl.g⟩
 intro g u q G args k d he hp hd
 rcases find_cons he with ⟨rfl, heq⟩ | he
 ·simp only [Prod.mk.injEq] at heq
  obtain ⟨rfl, rfl, rfl⟩ := heq
  exact h args k d hp hd
 ·exact hl.f g u q G args k d he hp hd

theorem envOK_consG {f : FuncId} {t : TypeId} {pre : List AV -> Bool} {F : List AV -> Option (AV × List Ent)} {l : Tab} {lh : HTab} {lr : RTab} {lf : FTab} {lg : GTab} (hl : EnvOK P (envR l lh lr lf lg))
  (h : ∀ args r es, pre args = true -> F args = some (r, es) -> GCallOK P f args r es) : EnvOK P (envR l lh lr lf ((f, t, pre, F) :: lg)) := by
 refine ⟨hl.p, hl.h, hl.r, hl.f, ?_⟩
 intro g u q G args r es he hp hd
 rcases find_cons he with ⟨rfl, heq⟩ | he
 ·simp only [Prod.mk.injEq] at heq
  obtain ⟨rfl, rfl, rfl⟩ := heq
  exact h args r es hp hd
 ·exact hl.g g u q G args r es he hp hd

theorem envOK_cons {f : FuncId} {t : TypeId} {F : List AV -> Option D} {l : Tab} {lh : HTab} {lr : RTab} {lf : FTab} {lg : GTab} (hl : EnvOK P (envR l lh lr lf lg)) (h : ∀ args d, F args = some d -> CallOK P f args (mkRes P t d)) : EnvOK P (envR ((f, t, yes, F) :: l) lh lr lf lg) :=
 envOK_cons' hl fun args d _ hd => h args d hd

theorem argsRep_congr {w : World} {ok : Nat -> Prop} : ∀ {xs ys : List AV} {vs : List Value}, xs.map (·.tag) = ys.map (·.tag) -> xs.map (·.ty) = ys.map (·.ty) -> xs.map (·.d) = ys.map (·.d) -> ArgsRep P w ok xs vs -> ArgsRep P w ok ys vs
 | [], [], vs, _, _, _, h => h
 | [], _ :: _, _, h, _, _, _ => by simp at h
 | _ :: _, [], _, h, _, _, _ => by simp at h
 | x :: xs, y :: ys, [], _, _, _, h => h.elim
 | x :: xs, y :: ys, v :: vs, h1, h2, h3, h => by
  simp only [List.map_cons, List.cons.injEq] at h1 h2 h3
  refine ⟨⟨by rw [<- h1.1]; exact h.1.1, by rw [<- h2.1, <- h3.1]; exact h.1.2⟩, argsRep_congr h1.2 h2.2 h3.2 h.2⟩

theorem ent_ok {f : FuncId} {t : TypeId} {ts : List TypeId} {F : List D -> Option D} (h : ∀ ds d, ds.length = ts.length -> F ds = some d -> CallOK P f (List.zipWith dat ts ds) (mkRes P t d)) :
  ∀ args d, ent ts F args = some d -> CallOK P f args (mkRes P t d) := by
 intro args d hd
 unfold ent at hd
 split at hd
 ·rename_i hs
  unfold shapeOK at hs
  rw [Bool.and_eq_true, beq_iff_eq, beq_iff_eq] at hs
  obtain ⟨h1, h2⟩ := hs
  have hl : args.length = ts.length := by rw [<- h2]; simp
  have hk := h (args.map (·.d)) d (by simp [hl]) hd
  have key : ∀ (as : List AV) (ts : List TypeId), as.map (·.tag) = ts.map (fun _ => 1) -> as.map (·.ty) = ts ->
    as.map (·.tag) = (List.zipWith dat ts (as.map (·.d))).map (·.tag) /\ as.map (·.ty) = (List.zipWith dat ts (as.map (·.d))).map (·.ty) /\ as.map (·.d) = (List.zipWith dat ts (as.map (·.d))).map (·.d) := by
   intro as
   induction as with
   | nil => intro ts _ h2; subst h2; simp
   | cons a as ih =>
    intro ts h1 h2
    subst h2
    simp only [List.map_cons, List.cons.injEq] at h1
    obtain ⟨i1, i2, i3⟩ := ih (as.map (·.ty)) h1.2 rfl
    simp only [List.map_cons, List.zipWith_cons_cons, List.cons.injEq]
    exact ⟨⟨h1.1, i1⟩, ⟨rfl, i2⟩, ⟨rfl, i3⟩⟩
  obtain ⟨k1, k2, k3⟩ := key args ts h1 h2
  exact ⟨hk.fn, hk.tag, fun w okA vs htb hok hargs => hk.call w okA vs htb hok (argsRep_congr k1 k2 k3 hargs)⟩
 ·cases hd

theorem argsRep_norm {w : World} {ok : Nat -> Prop} : ∀ {xs : List AV} {vs : List Value}, ArgsRep P w ok xs vs -> ArgsRep P w ok (xs.map fun v => dat v.ty (normD P v.ty v.d)) vs
 | [], [], h => h
 | x :: xs, v :: vs, h => ⟨⟨rfl, h.1.2.norm⟩, argsRep_norm h.2⟩
 | [], _ :: _, h => h.elim
 | _ :: _, [], h => h.elim

/-- Scalars may be taken as written out. -/
theorem CallOK.norm {f : FuncId} {args : List AV} {r : AV} (h : CallOK P f (args.map fun v => dat v.ty (normD P v.ty v.d)) r) : CallOK P f args r :=
 ⟨h.fn, h.tag, fun w okA vs htb hok hargs => h.call w okA vs htb hok (argsRep_norm hargs)⟩

def TyAll (P : Program) (args : List AV) : Prop := ∀ x ∈ args, ∃ n, Ty P n x.ty x.d

theorem argsRep_ty {w : World} {ok : Nat -> Prop} : ∀ {xs : List AV} {vs : List Value}, ArgsRep P w ok xs vs -> TyAll P xs
 | [], [], _, x, hx => by cases hx
 | y :: xs, v :: vs, h, x, hx => by
  rcases List.mem_cons.1 hx with rfl | hx
  ·obtain ⟨⟨n, hn⟩, _⟩ := h.1.2
   exact ⟨n, hn.ty⟩
  ·exact argsRep_ty h.2 x hx
 | [], _ :: _, h, _, _ => h.elim
 | _ :: _, [], h, _, _ => h.elim

/-- A contract may lean on its arguments' types. -/
theorem CallOK.typed {f : FuncId} {args : List AV} {r : AV} (hfn : ∃ fn c, P.funcs[f]? = some fn /\ fn.body = some c /\ (fn.name == "runtime.NumGoroutine") = false) (ht : r.tag = 1 \/ r.tag = 6)
  (h : TyAll P args -> CallOK P f args r) : CallOK P f args r :=
 ⟨hfn, ht, fun w okA vs htb hok hargs => (h (argsRep_ty hargs)).call w okA vs htb hok hargs⟩

def f0 (F : Option D) : List D -> Option D | [] => F | _ => none
def f1 (F : D -> Option D) : List D -> Option D | [x] => F x | _ => none
def f2 (F : D -> D -> Option D) : List D -> Option D | [x, y] => F x y | _ => none
def f3 (F : D -> D -> D -> Option D) : List D -> Option D | [x, y, z] => F x y z | _ => none

/-- The function is there. -/
def FnOK (P : Program) (f : FuncId) (fn : Func) : Prop := P.funcs[f]? = some fn /\ fn.body.isSome = true /\ (fn.name == "runtime.NumGoroutine") = false

theorem FnOK.ex {f : FuncId} {fn : Func} (h : FnOK P f fn) : ∃ fn c, P.funcs[f]? = some fn /\ fn.body = some c /\ (fn.name == "runtime.NumGoroutine") = false := by
 obtain ⟨h1, h2, h3⟩ := h
 obtain ⟨c, hc⟩ := Option.isSome_iff_exists.1 h2
 exact ⟨fn, c, h1, hc, h3⟩

theorem mk_tag (t : TypeId) (d : D) : (mkRes P t d).tag = 1 \/ (mkRes P t d).tag = 6 := mkRes_tag t d

theorem fn_ok (hm : P.follows .mixedOrders = true) {env : Env} (henv : EnvOK P env) {hh : Hints} {fuel : Nat} {f : FuncId} {fn : Func} {args : List AV} {t : TypeId} {d : D} (hf : FnOK P f fn)
  (h : evFn P env hh fuel fn args = some (mkRes P t d)) : CallOK P f args (mkRes P t d) :=
 evFn_sound hm henv hf.1 hf.2.2 h (mk_tag t d)

theorem ent0 {f : FuncId} {t : TypeId} {F : Option D} (h : ∀ d, F = some d -> CallOK P f [] (mkRes P t d)) :
  ∀ args d, ent [] (f0 F) args = some d -> CallOK P f args (mkRes P t d) :=
 ent_ok fun ds d hl hd => match ds, hl, hd with
  | [], _, hd => h d hd
theorem ent1 {f : FuncId} {fn : Func} {t t1 : TypeId} {F : D -> Option D} (hf : FnOK P f fn) (h : ∀ x d, F x = some d -> (∃ n, Ty P n t1 x) -> CallOK P f [dat t1 (normD P t1 x)] (mkRes P t d)) :
  ∀ args d, ent [t1] (f1 F) args = some d -> CallOK P f args (mkRes P t d) :=
 ent_ok fun ds d hl hd => match ds, hl, hd with
  | [x], _, hd => CallOK.typed hf.ex (mk_tag t d) fun hty => (h x d hd (hty (dat t1 x) (by simp))).norm
theorem ent2 {f : FuncId} {fn : Func} {t t1 t2 : TypeId} {F : D -> D -> Option D} (hf : FnOK P f fn) (h : ∀ x y d, F x y = some d -> (∃ n, Ty P n t1 x) -> (∃ n, Ty P n t2 y) -> CallOK P f [dat t1 (normD P t1 x), dat t2 (normD P t2 y)] (mkRes P t d)) :
  ∀ args d, ent [t1, t2] (f2 F) args = some d -> CallOK P f args (mkRes P t d) :=
 ent_ok fun ds d hl hd => match ds, hl, hd with
  | [x, y], _, hd => CallOK.typed hf.ex (mk_tag t d) fun hty => (h x y d hd (hty (dat t1 x) (by simp)) (hty (dat t2 y) (by simp))).norm
theorem ent3 {f : FuncId} {fn : Func} {t t1 t2 t3 : TypeId} {F : D -> D -> D -> Option D} (hf : FnOK P f fn) (h : ∀ x y z d, F x y z = some d -> (∃ n, Ty P n t1 x) -> (∃ n, Ty P n t2 y) -> (∃ n, Ty P n t3 z) ->
   CallOK P f [dat t1 (normD P t1 x), dat t2 (normD P t2 y), dat t3 (normD P t3 z)] (mkRes P t d)) :
  ∀ args d, ent [t1, t2, t3] (f3 F) args = some d -> CallOK P f args (mkRes P t d) :=
 ent_ok fun ds d hl hd => match ds, hl, hd with
  | [x, y, z], _, hd => CallOK.typed hf.ex (mk_tag t d) fun hty => (h x y z d hd (hty (dat t1 x) (by simp)) (hty (dat t2 y) (by simp)) (hty (dat t3 z) (by simp))).norm

end
end
def litI (z : Int) : D := .lit (.int .i64 z)
def isNilD : D -> Bool
 | .nil => true
 | _ => false
def avT (t x : AV) : Bool := x.tag == t.tag && x.ty == t.ty && x.id == t.id && x.ix == t.ix && x.off == t.off && x.tys == t.tys && (t.tag == 1 || isNilD x.d)
def entT (t x : Ent) : Bool := x.ty == t.ty && x.row == t.row && (match t.c, x.c with | none, none => true | some a, some b => avT a b && !(a.tag == 1) | _, _ => false) && (t.c.isNone || isNilD x.d)
def allA : List AV -> List AV -> Bool
 | [], [] => true
 | t :: ts, x :: xs => avT t x && allA ts xs
 | _, _ => false
def allE : List Ent -> List Ent -> Bool
 | [], [] => true
 | t :: ts, x :: xs => entT t x && allE ts xs
 | _, _ => false
def fillA : List AV -> List D -> List AV
 | t :: ts, d :: ds => (if t.tag == 1 then { t with d := d } else t) :: fillA ts ds
 | _, _ => []
def fillE : List Ent -> List D -> List Ent
 | t :: ts, d :: ds => (if t.c.isNone then { t with d := d } else t) :: fillE ts ds
 | _, _ => []

theorem isNilD_eq {d : D} (h : isNilD d = true) : d = .nil := by cases d <;> simp [isNilD] at h ⊢
theorem avT_eq {t x : AV} (h : avT t x = true) (hn : t.tag ≠ 1 -> t.d = .nil) : x = (if t.tag == 1 then { t with d := x.d } else t) := by
 cases t with | mk tag ty d id ix off tys =>
 cases x with | mk tag' ty' d' id' ix' off' tys' =>
 simp only [avT, Bool.and_eq_true, beq_iff_eq, Bool.or_eq_true] at h
 obtain ⟨⟨⟨⟨⟨⟨h1, h2⟩, h3⟩, h4⟩, h5⟩, h6⟩, h7⟩ := h
 subst h1 h2 h3 h4 h5 h6
 by_cases ht : tag' = 1
 ·simp [ht]
 ·have hd : d' = .nil := by
   rcases h7 with h7 | h7
   ·exact absurd h7 ht
   ·exact isNilD_eq h7
  have hd2 : d = .nil := hn ht
  subst hd hd2
  simp [ht]
theorem entT_eq {t x : Ent} (h : entT t x = true) (hn : ∀ a, t.c = some a -> a.d = .nil /\ t.d = .nil) : x = (if t.c.isNone then { t with d := x.d } else t) := by
 cases t with | mk ty d row c =>
 cases x with | mk ty' d' row' c' =>
 simp only [entT, Bool.and_eq_true, beq_iff_eq, Bool.or_eq_true] at h
 obtain ⟨⟨⟨h1, h2⟩, h3⟩, h4⟩ := h
 subst h1 h2
 cases c with
 | none =>
  cases c' with
  | none => simp
  | some b => simp at h3
 | some a =>
  cases c' with
  | none => simp at h3
  | some b =>
   simp only [Bool.and_eq_true, Bool.not_eq_true', beq_eq_false_iff_ne] at h3
   have hb := avT_eq h3.1 (fun _ => (hn a rfl).1)
   have ha : ¬ (a.tag == 1) = true := by simpa using h3.2
   rw [if_neg ha] at hb
   have hd : d' = .nil := by
    rcases h4 with h4 | h4
    ·simp at h4
    ·exact isNilD_eq h4
   have hd2 : d = .nil := (hn a rfl).2
   subst hb hd hd2
   simp
theorem allA_eq : ∀ {ts xs : List AV}, allA ts xs = true -> (∀ t ∈ ts, t.tag ≠ 1 -> t.d = .nil) -> xs = fillA ts (xs.map (·.d))
 | [], [], _, _ => rfl
 | t :: ts, x :: xs, h, hn => by
  simp only [allA, Bool.and_eq_true] at h
  simp only [List.map_cons, fillA]
  rw [<- allA_eq h.2 (fun u hu => hn u (by simp [hu])), <- avT_eq h.1 (hn t (by simp))]
 | [], _ :: _, h, _ => by simp [allA] at h
 | _ :: _, [], h, _ => by simp [allA] at h
theorem allE_eq : ∀ {ts xs : List Ent}, allE ts xs = true -> (∀ t ∈ ts, ∀ a, t.c = some a -> a.d = .nil /\ t.d = .nil) -> xs = fillE ts (xs.map (·.d))
 | [], [], _, _ => rfl
 | t :: ts, x :: xs, h, hn => by
  simp only [allE, Bool.and_eq_true] at h
  simp only [List.map_cons, fillE]
  rw [<- allE_eq h.2 (fun u hu => hn u (by simp [hu])), <- entT_eq h.1 (hn t (by simp))]
 | [], _ :: _, h, _ => by simp [allE] at h
 | _ :: _, [], h, _ => by simp [allE] at h

/-- A row that is where it was may count as another one. -/
def looseE (e : Option Ent) : Option Ent := e.map fun e => ⟨e.ty, e.d, if e.row == 3 then 2 else if e.row == 4 then 1 else e.row, e.c⟩
theorem HCallOK.loose {P : Program} {f : FuncId} {args : List AV} {h : List Ent} {r : AV} {h' : List (Option Ent)} (H : HCallOK P f args h r h') : HCallOK P f args h r (h'.map looseE) := by
 have hget : ∀ i, bxOf' (h'.map looseE) i = looseE (bxOf' h' i) := by
  intro i
  unfold bxOf'
  split
  ·rfl
  ·rw [List.getElem?_map]
   cases h'[i - OID]? <;> rfl
 have hin : ∀ i e, bxOf' (h'.map looseE) i = some e -> ∃ e0, bxOf' h' i = some e0 /\ e = ⟨e0.ty, e0.d, if e0.row == 3 then 2 else if e0.row == 4 then 1 else e0.row, e0.c⟩ := by
  intro i e he
  rw [hget] at he
  unfold looseE at he
  obtain ⟨e0, h0, rfl⟩ := Option.map_eq_some_iff.1 he
  exact ⟨e0, h0, rfl⟩
 have hlv : ∀ e0 : Ent, (⟨e0.ty, e0.d, if e0.row == 3 then 2 else if e0.row == 4 then 1 else e0.row, e0.c⟩ : Ent).live = e0.live := by
  intro e0
  unfold Ent.live
  by_cases h3 : e0.row = 3
  ·simp [h3]
  ·by_cases h4 : e0.row = 4
   ·simp [h4]
   ·simp [h3, h4]
 have hz : ∀ e0 : Ent, (if e0.row == 3 then 2 else if e0.row == 4 then 1 else e0.row) = 0 ↔ e0.row = 0 := by
  intro e0
  by_cases h3 : e0.row = 3
  ·simp [h3]
  ·by_cases h4 : e0.row = 4
   ·simp [h4]
   ·simp [h3, h4]
 have hal : ∀ (b : Nat × Nat) (e0 : Ent), Alike b e0 b ⟨e0.ty, e0.d, if e0.row == 3 then 2 else if e0.row == 4 then 1 else e0.row, e0.c⟩ := fun b e0 =>
  ⟨rfl, hz e0, fun _ => rfl, fun _ => ⟨by unfold hv; rw [hlv], rfl⟩⟩
 refine ⟨H.fn, fun w okA β vs htb hok hH hargs => (H.call w okA β vs htb hok hH hargs).mono ?_⟩
 rintro e w' ⟨v, ok', β', he, hbel, hokb, HH, hr, hl, hown, halike⟩
 have htr : ∀ x val, RepAV P w' ok' β' (bxOf' h') x val -> RepAV P w' ok' β' (bxOf' (h'.map looseE)) x val := fun x val hx => hx.tr (fun _ _ => rfl) (fun _ h => h) (fun i _ f hf => by
  obtain ⟨e0, h0, rfl⟩ := hin i f hf
  exact ⟨e0, h0, hal _ _⟩)
 have hlive : ∀ x, LiveB (bxOf' h') x -> LiveB (bxOf' (h'.map looseE)) x := by
  intro x hx j hj
  rw [hget]
  have := hx j hj
  unfold looseE
  simpa using this
 refine ⟨v, ok', β', he, hbel, hokb, ⟨?_, ?_, ?_, ?_, ?_, ?_, ?_, ?_⟩, htr _ _ hr, hlive _ hl, ?_, ?_⟩
 ·intro i f hf hfl
  obtain ⟨e0, h0, rfl⟩ := hin i f hf
  exact HH.siz i e0 h0 (by rw [<- hlv]; exact hfl)
 ·intro b i f hb hf hfl
  obtain ⟨e0, h0, rfl⟩ := hin i f hf
  exact HH.sep b i e0 hb h0 (by rw [<- hlv]; exact hfl)
 ·intro i j f g hf hg hfl hgl
  obtain ⟨e0, h0, rfl⟩ := hin i f hf
  obtain ⟨e1, h1, rfl⟩ := hin j g hg
  exact HH.inj i j e0 e1 h0 h1 (by rw [<- hlv]; exact hfl) (by rw [<- hlv]; exact hgl)
 ·intro i f hf h00 hc
  obtain ⟨e0, h0, rfl⟩ := hin i f hf
  exact HH.box i e0 h0 ((hz e0).1 h00) hc
 ·intro i f x hf h00 hc
  obtain ⟨e0, h0, rfl⟩ := hin i f hf
  obtain ⟨g1, val, g2, g3, g4⟩ := HH.con i e0 x h0 ((hz e0).1 h00) hc
  exact ⟨g1, val, g2, g3, htr _ _ g4⟩
 ·intro i f hf h00
  obtain ⟨e0, h0, rfl⟩ := hin i f hf
  exact (HH.row i e0 h0 (fun h => h00 ((hz e0).2 h))).like rfl rfl (hlv e0)
 ·intro i f x hf hc
  obtain ⟨e0, h0, rfl⟩ := hin i f hf
  exact hlive _ (HH.nb i e0 x h0 hc)
 ·intro i f hf h00
  obtain ⟨e0, h0, rfl⟩ := hin i f hf
  exact HH.rc i e0 h0 (fun h => h00 ((hz e0).2 h))
 ·intro i f hf hfl
  obtain ⟨e0, h0, rfl⟩ := hin i f hf
  exact hown i e0 h0 (by rw [<- hlv]; exact hfl)
 ·intro i f hf hrow
  obtain ⟨e0, h0, rfl⟩ := hin i f hf
  have h00 : e0.row = 0 := by
   rcases hrow with h | h | h
   ·exact (hz e0).1 h
   ·simp only at h
    split at h
    ·cases h
    ·split at h
     ·cases h
     ·rename_i h3 _; simp [h] at h3
   ·simp only at h
    split at h
    ·cases h
    ·split at h
     ·cases h
     ·rename_i _ h4; simp [h] at h4
  obtain ⟨e2, h2, hA⟩ := halike i e0 h0 (.inl h00)
  refine ⟨e2, h2, ?_⟩
  obtain ⟨a1, a2, a3, a4⟩ := hA
  exact ⟨a1, (hz e0).trans a2, a3, fun hr0 => absurd (a2.1 h00) hr0⟩
abbrev HRes := Option (AV × List (Option Ent))
def entH (ta : List AV) (th : List Ent) (G : List D -> List D -> HRes) (args : List AV) (h : List Ent) : HRes := bif allA ta args && allE th h then G (args.map (·.d)) (h.map (·.d)) else none
def preH (ta : List AV) (th : List Ent) (q : List D -> List D -> Bool) (args : List AV) (h : List Ent) : Bool := allA ta args && allE th h && q (args.map (·.d)) (h.map (·.d))
def tmplA (ta : List AV) : Bool := ta.all fun t => t.tag == 1 || isNilD t.d
def tmplE (th : List Ent) : Bool := th.all fun t => match t.c with | some a => isNilD a.d && isNilD t.d | none => true

theorem entH_ok {P : Program} {f : FuncId} {ta : List AV} {th : List Ent} {q : List D -> List D -> Bool} {G : List D -> List D -> HRes} (h1 : tmplA ta = true) (h2 : tmplE th = true)
  (h : ∀ ds es r h', q ds es = true -> G ds es = some (r, h') -> HCallOK P f (fillA ta ds) (fillE th es) r h') :
  ∀ args hh r h', preH ta th q args hh = true -> entH ta th G args hh = some (r, h') -> HCallOK P f args hh r h' := by
 intro args hh r h' hp hd
 unfold preH at hp
 unfold entH at hd
 rw [Bool.and_eq_true] at hp
 rw [hp.1, cond_true] at hd
 rw [Bool.and_eq_true] at hp
 have ea := allA_eq hp.1.1 (fun t ht hn => by
  unfold tmplA at h1
  rw [List.all_eq_true] at h1
  have := h1 t ht
  rw [Bool.or_eq_true] at this
  rcases this with h | h
  ·exact absurd (by simpa using h) hn
  ·exact isNilD_eq h)
 have ee := allE_eq hp.1.2 (fun t ht a ha => by
  unfold tmplE at h2
  rw [List.all_eq_true] at h2
  have := h2 t ht
  rw [ha] at this
  simp only [Bool.and_eq_true] at this
  exact ⟨isNilD_eq this.1, isNilD_eq this.2⟩)
 rw [ea, ee]
 exact h _ _ r h' hp.2 hd

/-- A contract may lean on the types of what is handed over. -/
theorem HCallOK.typed {P : Program} {f : FuncId} {args : List AV} {h : List Ent} {r : AV} {h' : List (Option Ent)} (hfn : ∃ fn c, P.funcs[f]? = some fn /\ fn.body = some c /\ (fn.name == "runtime.NumGoroutine") = false)
  (H : (∀ x ∈ args, x.tag = 1 -> ∃ n, Ty P n x.ty x.d) -> (∀ e ∈ h, e.row = 0 -> e.c = none -> ∃ n, Ty P n e.ty e.d) -> HCallOK P f args h r h') : HCallOK P f args h r h' := by
 refine ⟨hfn, fun w okA β vs htb hok hH hargs => ?_⟩
 refine (H ?_ ?_).call w okA β vs htb hok hH hargs
 ·have key : ∀ (xs : List AV) (vs : List Value), ArgsRepH P w okA β (bxOf h) xs vs -> ∀ x ∈ xs, x.tag = 1 -> ∃ n, Ty P n x.ty x.d := by
   intro xs
   induction xs with
   | nil => intro vs _ x hx; cases hx
   | cons y xs ih =>
    intro vs hv x hx ht
    cases vs with
    | nil => exact hv.elim
    | cons v vs =>
     rcases List.mem_cons.1 hx with rfl | hx
     ·obtain ⟨⟨n, hn⟩, _⟩ := hv.1.2.1.d1 ht
      exact ⟨n, hn.ty⟩
     ·exact ih vs hv.2 x hx ht
  exact key args vs hargs
 ·intro e he h0 hc
  obtain ⟨k, hk⟩ := List.getElem?_of_mem he
  have hb : bxOf h (OID + k) = some e := by
   unfold bxOf
   rw [if_neg (by omega), Nat.add_sub_cancel_left]
   exact hk
  obtain ⟨cs, _, n, hn⟩ := hH.box _ e hb h0 hc
  exact ⟨n, hn.ty⟩

/-- .. and on what is in rows. -/
theorem HCallOK.typedR {P : Program} {f : FuncId} {args : List AV} {h : List Ent} {r : AV} {h' : List (Option Ent)} (hfn : ∃ fn c, P.funcs[f]? = some fn /\ fn.body = some c /\ (fn.name == "runtime.NumGoroutine") = false)
  (H : (∀ x ∈ args, x.tag = 1 -> ∃ n, Ty P n x.ty x.d) -> (∀ e ∈ h, e.row = 0 -> e.c = none -> ∃ n, Ty P n e.ty e.d) ->
   (∀ e ∈ h, e.row ≠ 0 -> ∃ el es, P.underlying e.ty = some (.slice el) /\ e.d = .slice es [] /\ es.length <= maxLen /\ ∀ y ∈ es, ∃ n, Ty P n el y) -> HCallOK P f args h r h') : HCallOK P f args h r h' := by
 refine HCallOK.typed hfn fun h1 h2 => ⟨hfn, fun w okA β vs htb hok hH hargs => ?_⟩
 refine (H h1 h2 ?_).call w okA β vs htb hok hH hargs
 intro e he h0
 obtain ⟨k, hk⟩ := List.getElem?_of_mem he
 have hb : bxOf h (OID + k) = some e := by
  unfold bxOf
  rw [if_neg (by omega), Nat.add_sub_cancel_left]
  exact hk
 obtain ⟨el, g1, g2, g3, ⟨es, g4⟩, g5⟩ := hH.row _ e hb h0
 have hes : elemsD e.d = es := by rw [g4]; rfl
 refine ⟨el, es, g1, g4, ?_, ?_⟩
 ·cases hl : e.live with
  | true => obtain ⟨_, _, _, q1, q2, _⟩ := g5 hl; rw [hes] at q1; omega
  | false => have := not_live hl; rw [hes] at this; subst this; exact Nat.zero_le _
 ·intro y hy
  cases hl : e.live with
  | true =>
   obtain ⟨_, n, _, _, _, _, q⟩ := g5 hl
   obtain ⟨i, hi⟩ := List.getElem?_of_mem hy
   exact ⟨n, (q i y (by rw [hes]; exact hi)).ty⟩
  | false => have := not_live hl; rw [hes] at this; subst this; cases hy

/-- Functions that only look at what they have captured. -/
def entR (ta : List AV) (th : List Ent) (G : List D -> List D -> Option D) (args : List AV) (h : List Ent) : Option D := bif allA ta args && allE th h then G (args.map (·.d)) (h.map (·.d)) else none
theorem entR_ok {P : Program} {f : FuncId} {t : TypeId} {ta : List AV} {th : List Ent} {q : List D -> List D -> Bool} {G : List D -> List D -> Option D} (h1 : tmplA ta = true) (h2 : tmplE th = true)
  (h : ∀ ds es d, q ds es = true -> G ds es = some d -> HCallOK P f (fillA ta ds) (fillE th es) (mkRes P t d) ((fillE th es).map some)) :
  ∀ args hh d, preH ta th q args hh = true -> entR ta th G args hh = some d -> HCallOK P f args hh (mkRes P t d) (hh.map some) := by
 intro args hh d hp hd
 unfold preH at hp
 unfold entR at hd
 rw [Bool.and_eq_true] at hp
 rw [hp.1, cond_true] at hd
 rw [Bool.and_eq_true] at hp
 have ea := allA_eq hp.1.1 (fun t ht hn => by
  unfold tmplA at h1
  rw [List.all_eq_true] at h1
  have := h1 t ht
  rw [Bool.or_eq_true] at this
  rcases this with h | h
  ·exact absurd (by simpa using h) hn
  ·exact isNilD_eq h)
 have ee := allE_eq hp.1.2 (fun t ht a ha => by
  unfold tmplE at h2
  rw [List.all_eq_true] at h2
  have := h2 t ht
  rw [ha] at this
  simp only [Bool.and_eq_true] at this
  exact ⟨isNilD_eq this.1, isNilD_eq this.2⟩)
 rw [ea, ee]
 exact h _ _ d hp.2 hd

theorem fnH_ok {P : Program} (hm : P.follows .mixedOrders = true) {env : Env} (henv : EnvOK P env) {hh : Hints} {fuel : Nat} {f : FuncId} {fn : Func} {args : List AV} {h : List Ent} {r : AV} {h' : List (Option Ent)} (hf : FnOK P f fn)
  (hev : evFnH P env hh fuel fn args h = some (r, h')) : HCallOK P f args h r h' := evFnH_sound hm henv hf.1 hf.2.2 hev
/-- A number of rows. -/
def rowsI (n : Int) : Int := bif decide (n < 0) then 0 else bif decide (n > (1099511627776 : Int)) then (1099511627776 : Int) else n
/-- A cost. -/
def leastI (n : Int) : Int := bif decide (n > (1125899906842624 : Int)) then (1125899906842624 : Int) else n
def posI (n : Int) : Int := bif decide (n > 0) then n else 0
def sumP (l : List Int) : Int := (l.map posI).sum
/-- All costs together. -/
def addI (l : List Int) : Int := leastI (sumP l)
def addS (acc x : Int) : Int := bif decide (x > 0) then leastI (acc + leastI x) else acc
/-- How many bits. -/
def bitsN (n : Nat) : Nat := if n = 0 then 0 else n.log2 + 1
def nestI (a b : Int) : Int := leastI (rowsI a * rowsI b)
def hashI (a b : Int) : Int := leastI (rowsI a + 2 * rowsI b)
def mergeI (a b : Int) : Int := leastI (rowsI a + rowsI b)
def sortI (n : Int) : Int := leastI (rowsI n * (bitsN (rowsI n).toNat : Int))
def groupI (n : Int) (h : Bool) : Int := bif h then leastI (2 * rowsI n) else rowsI n

theorem rows_if (n : Int) : rowsI n = if n < 0 then 0 else if n > (1099511627776 : Int) then (1099511627776 : Int) else n := by
 unfold rowsI
 by_cases h : n < 0
 ·simp [h]
 ·by_cases h2 : n > (1099511627776 : Int) <;> simp [h, h2]
theorem least_if (n : Int) : leastI n = if n > (1125899906842624 : Int) then (1125899906842624 : Int) else n := by
 unfold leastI
 by_cases h : n > (1125899906842624 : Int) <;> simp [h]
theorem pos_if (n : Int) : posI n = if n > 0 then n else 0 := by
 unfold posI
 by_cases h : n > 0 <;> simp [h]
theorem rows_in (n : Int) : 0 <= rowsI n /\ rowsI n <= (1099511627776 : Int) := by
 rw [rows_if]; split <;> (try split) <;> omega
theorem rows_mono {a b : Int} (h : a <= b) : rowsI a <= rowsI b := by
 rw [rows_if, rows_if]; split <;> split <;> (try split) <;> (try split) <;> omega
theorem least_mono {a b : Int} (h : a <= b) : leastI a <= leastI b := by
 rw [least_if, least_if]; split <;> split <;> omega
theorem least_le (a : Int) : leastI a <= (1125899906842624 : Int) /\ leastI a <= a := by
 rw [least_if]; split <;> omega
theorem least_nn {a : Int} (h : 0 <= a) : 0 <= leastI a := by
 rw [least_if]; split <;> omega
theorem least_of {a : Int} (h : a <= (1125899906842624 : Int)) : leastI a = a := by
 rw [least_if]; split <;> omega
theorem pos_nn (n : Int) : 0 <= posI n := by
 rw [pos_if]; split <;> omega
theorem sumP_nn : ∀ (l : List Int), 0 <= sumP l
 | [] => Int.le_refl _
 | x :: l => by
  have := sumP_nn l
  have := pos_nn x
  show 0 <= posI x + sumP l
  omega
theorem sumP_cons (x : Int) (l : List Int) : sumP (x :: l) = posI x + sumP l := rfl
theorem sumP_append (l k : List Int) : sumP (l ++ k) = sumP l + sumP k := by
 unfold sumP
 rw [List.map_append, List.sum_append]
theorem sumP_perm {l k : List Int} (h : l.Perm k) : sumP l = sumP k := by
 induction h with
 | nil => rfl
 | cons x _ ih => rw [sumP_cons, sumP_cons, ih]
 | swap x y l => simp only [sumP_cons]; omega
 | trans _ _ h1 h2 => exact h1.trans h2
theorem sumP_mem {l : List Int} {x : Int} (h : x ∈ l) : x <= sumP l := by
 induction l with
 | nil => cases h
 | cons y l ih =>
  rw [sumP_cons]
  have h1 := sumP_nn l
  have h2 := pos_nn y
  rcases List.mem_cons.1 h with rfl | h
  ·rw [pos_if] at h2 ⊢; split <;> omega
  ·have := ih h; omega
theorem addS_eq (acc x : Int) (h0 : 0 <= acc) (h : acc <= (1125899906842624 : Int)) : addS acc x = leastI (acc + posI x) := by
 unfold addS
 rw [pos_if]
 by_cases hx : x > 0
 ·simp only [hx, decide_true, cond_true, if_true]
  simp only [least_if]
  split <;> split <;> (try split) <;> omega
 ·simp only [hx, decide_false, cond_false, if_false]
  rw [least_of (by omega)]
  omega
theorem leastI_add (a b : Int) (hb : 0 <= b) : leastI (leastI a + b) = leastI (a + b) := by
 simp only [least_if]; split <;> split <;> (try split) <;> omega
/-- One behind the other. -/
theorem add_fold : ∀ (l : List Int) (acc : Int), 0 <= acc -> acc <= (1125899906842624 : Int) -> l.foldl addS acc = leastI (acc + sumP l)
 | [], acc, h0, h => by
  show acc = leastI (acc + 0)
  rw [least_of (by omega)]
  omega
 | x :: l, acc, h0, h => by
  rw [List.foldl_cons, addS_eq acc x h0 h, add_fold l _ (least_nn (by have := pos_nn x; omega)) (least_le _).1, leastI_add _ _ (sumP_nn l), sumP_cons, Int.add_assoc]
theorem addI_fold (l : List Int) : l.foldl addS 0 = addI l := by
 rw [add_fold l 0 (Int.le_refl _) (by decide)]
 unfold addI
 rw [Int.zero_add]
theorem addI_in (l : List Int) : 0 <= addI l /\ addI l <= (1125899906842624 : Int) := ⟨least_nn (sumP_nn l), (least_le _).1⟩
theorem addI_append (l k : List Int) : addI (l ++ k) = addI [addI l, addI k] := by
 have h1 := sumP_nn l
 have h2 := sumP_nn k
 unfold addI
 rw [sumP_append, sumP_cons, sumP_cons]
 show _ = leastI (posI _ + (posI _ + 0))
 simp only [least_if, pos_if]
 split <;> split <;> split <;> (try split) <;> (try split) <;> (try split) <;> omega

/-! ### Bits -/
theorem bits_lt (n : Nat) : n < 2 ^ bitsN n := by
 unfold bitsN
 split
 ·rename_i h; subst h; decide
 ·exact Nat.lt_log2_self
theorem bits_le {n k : Nat} (h : n < 2 ^ k) : bitsN n <= k := by
 unfold bitsN
 split
 ·omega
 ·rename_i h0
  have := (Nat.log2_lt h0).2 h
  omega
theorem bits_ge {n k : Nat} (h : 2 ^ k <= n) : k < bitsN n := by
 have h1 := bits_lt n
 have h2 : 2 ^ k < 2 ^ bitsN n := Nat.lt_of_le_of_lt h h1
 exact (Nat.pow_lt_pow_iff_right (by decide)).1 h2
theorem bits_mono {a b : Nat} (h : a <= b) : bitsN a <= bitsN b := bits_le (Nat.lt_of_le_of_lt h (bits_lt b))
theorem bits_two {n : Nat} (h : 0 < n) : bitsN (2 * n) = bitsN n + 1 := by
 refine Nat.le_antisymm (bits_le ?_) ?_
 ·rw [Nat.pow_succ]; have := bits_lt n; omega
 ·have h0 : 0 < bitsN n := bits_ge (k := 0) (by show 1 <= n; omega)
  obtain ⟨k, hk⟩ : ∃ k, bitsN n = k + 1 := ⟨bitsN n - 1, by omega⟩
  have h2 : 2 ^ k <= n := by
   apply Decidable.byContradiction
   intro hn
   have := bits_le (k := k) (n := n) (by omega)
   omega
  have : 2 ^ (k + 1) <= 2 * n := by rw [Nat.pow_succ]; omega
  have := bits_ge this
  omega
theorem bits_41 {n : Nat} (h : n <= 1099511627776) : bitsN n <= 41 := bits_le (Nat.lt_of_le_of_lt h (by decide))
theorem bits_pos {n : Nat} (h : 0 < n) : 0 < bitsN n := bits_ge (k := 0) (by show 1 <= n; omega)
/-- What it costs to put in order is never too great. -/
theorem sort_eq (n : Int) : sortI n = rowsI n * (bitsN (rowsI n).toNat : Int) /\ 0 <= sortI n /\ sortI n <= (1125899906842624 : Int) := by
 obtain ⟨h0, h1⟩ := rows_in n
 have hb := bits_41 (n := (rowsI n).toNat) (by omega)
 have hm : rowsI n * (bitsN (rowsI n).toNat : Int) <= (1099511627776 : Int) * 41 := Int.mul_le_mul h1 (by omega) (by omega) (by omega)
 have h2 : 0 <= rowsI n * (bitsN (rowsI n).toNat : Int) := Int.mul_nonneg h0 (by omega)
 have e : sortI n = rowsI n * (bitsN (rowsI n).toNat : Int) := least_of (by omega)
 exact ⟨e, by omega, by omega⟩
theorem rows_of {n : Int} (h0 : 0 <= n) (h1 : n <= (1099511627776 : Int)) : rowsI n = n := by
 rw [rows_if]; split <;> (try split) <;> omega

/-! ### What follows -/
theorem nest_comm (a b : Int) : nestI a b = nestI b a := by unfold nestI; rw [Int.mul_comm]
theorem merge_comm (a b : Int) : mergeI a b = mergeI b a := by unfold mergeI; rw [Int.add_comm]
theorem nest_one (a : Int) : nestI a 1 = rowsI a := by
 have := rows_in a
 unfold nestI
 rw [show rowsI 1 = 1 from rfl, Int.mul_one, least_of (by omega)]
theorem nest_zero (a : Int) : nestI a 0 = 0 := by
 unfold nestI
 rw [show rowsI 0 = 0 from rfl, Int.mul_zero]; rfl
theorem merge_hash (a b : Int) : mergeI a b <= hashI a b := by
 have := rows_in a
 have := rows_in b
 exact least_mono (by omega)
theorem scan_sort (a : Int) : rowsI a <= sortI a := by
 obtain ⟨h0, h1⟩ := rows_in a
 rw [(sort_eq a).1]
 by_cases h : rowsI a = 0
 ·rw [h]; decide
 ·have := bits_pos (n := (rowsI a).toNat) (by omega)
  have h2 : rowsI a * 1 <= rowsI a * (bitsN (rowsI a).toNat : Int) := Int.mul_le_mul_of_nonneg_left (by omega) h0
  omega
theorem nest_mono {a b c d : Int} (h : a <= c) (h2 : b <= d) : nestI a b <= nestI c d := by
 have h3 := rows_mono h
 have h4 := rows_mono h2
 exact least_mono (Int.mul_le_mul h3 h4 (rows_in b).1 (rows_in c).1)
theorem hash_mono {a b c d : Int} (h : a <= c) (h2 : b <= d) : hashI a b <= hashI c d := by
 have h3 := rows_mono h
 have h4 := rows_mono h2
 exact least_mono (by omega)
theorem merge_mono {a b c d : Int} (h : a <= c) (h2 : b <= d) : mergeI a b <= mergeI c d := by
 have h3 := rows_mono h
 have h4 := rows_mono h2
 exact least_mono (by omega)
theorem sort_mono {a c : Int} (h : a <= c) : sortI a <= sortI c := by
 have h3 := rows_mono h
 have h4 := bits_mono (a := (rowsI a).toNat) (b := (rowsI c).toNat) (by omega)
 exact least_mono (Int.mul_le_mul h3 (by omega) (by omega) (rows_in c).1)
theorem group_mono {a c : Int} (h : a <= c) (b : Bool) : groupI a b <= groupI c b := by
 have h3 := rows_mono h
 cases b with
 | true => exact least_mono (by omega)
 | false => exact h3
theorem add_mono {a b c d : Int} (h : a <= c) (h2 : b <= d) : addI [a, b] <= addI [c, d] := by
 unfold addI
 refine least_mono ?_
 show posI a + (posI b + 0) <= posI c + (posI d + 0)
 have h3 : posI a <= posI c := by simp only [pos_if]; split <;> split <;> omega
 have h4 : posI b <= posI d := by simp only [pos_if]; split <;> split <;> omega
 omega
theorem costs_in (a b : Int) (h : Bool) : (0 <= nestI a b /\ nestI a b <= (1125899906842624 : Int)) /\ (0 <= hashI a b /\ hashI a b <= (1125899906842624 : Int)) /\ (0 <= mergeI a b /\ mergeI a b <= (1125899906842624 : Int)) /\ (0 <= groupI a h /\ groupI a h <= (1125899906842624 : Int)) := by
 obtain ⟨a0, a1⟩ := rows_in a
 obtain ⟨b0, b1⟩ := rows_in b
 refine ⟨⟨least_nn (Int.mul_nonneg a0 b0), (least_le _).1⟩, ⟨least_nn (by omega), (least_le _).1⟩, ⟨least_nn (by omega), (least_le _).1⟩, ?_⟩
 cases h with
 | true => exact ⟨least_nn (by omega), (least_le _).1⟩
 | false => exact ⟨a0, by show rowsI a <= (1125899906842624 : Int); omega⟩
theorem group_two (a : Int) : groupI a true = addI [rowsI a, rowsI a] := by
 obtain ⟨a0, a1⟩ := rows_in a
 have : posI (rowsI a) = rowsI a := by rw [pos_if]; split <;> omega
 show leastI (2 * rowsI a) = leastI (posI (rowsI a) + (posI (rowsI a) + 0))
 rw [this]
 congr 1
 omega
theorem add_of {l : List Int} (h : ∀ x ∈ l, 0 <= x) (hs : l.sum <= (1125899906842624 : Int)) : addI l = l.sum := by
 have : l.map posI = l := by
  conv => rhs; rw [<- List.map_id l]
  refine List.map_congr_left fun x hx => ?_
  have := h x hx
  rw [pos_if]
  show _ = x
  split <;> omega
 unfold addI sumP
 rw [this, least_of hs]
theorem sort_two {a b : Int} (a0 : 0 <= a) (b0 : 0 <= b) (a1 : a <= 549755813888) (b1 : b <= 549755813888) : addI [sortI a, sortI b] <= sortI (a + b) := by
 obtain ⟨ea, na, la⟩ := sort_eq a
 obtain ⟨eb, nb, lb⟩ := sort_eq b
 obtain ⟨ec, nc, lc⟩ := sort_eq (a + b)
 rw [rows_of a0 (by omega)] at ea
 rw [rows_of b0 (by omega)] at eb
 rw [rows_of (by omega) (by omega)] at ec
 have ha := bits_mono (a := a.toNat) (b := (a + b).toNat) (by omega)
 have hb := bits_mono (a := b.toNat) (b := (a + b).toNat) (by omega)
 have h1 : a * (bitsN a.toNat : Int) <= a * (bitsN (a + b).toNat : Int) := Int.mul_le_mul_of_nonneg_left (by omega) a0
 have h2 : b * (bitsN b.toNat : Int) <= b * (bitsN (a + b).toNat : Int) := Int.mul_le_mul_of_nonneg_left (by omega) b0
 have h3 : (a + b) * (bitsN (a + b).toNat : Int) = a * (bitsN (a + b).toNat : Int) + b * (bitsN (a + b).toNat : Int) := Int.add_mul _ _ _
 have hs : [sortI a, sortI b].sum <= sortI (a + b) := by
  show sortI a + (sortI b + 0) <= _
  omega
 rw [add_of (by simp; omega) (by omega)]
 exact hs
theorem sort_twice {a : Int} (a0 : 0 <= a) (a1 : a <= 549755813888) : sortI (2 * a) = addI [sortI a, sortI a, a, a] := by
 obtain ⟨ea, na, la⟩ := sort_eq a
 obtain ⟨ec, nc, lc⟩ := sort_eq (2 * a)
 rw [rows_of a0 (by omega)] at ea
 rw [rows_of (by omega) (by omega)] at ec
 have key : sortI (2 * a) = 2 * sortI a + 2 * a := by
  rw [ea, ec]
  by_cases h : a = 0
  ·subst h; rfl
  ·have hb := bits_two (n := a.toNat) (by omega)
   rw [show (2 * a).toNat = 2 * a.toNat by omega, hb]
   generalize bitsN a.toNat = k
   rw [show ((k + 1 : Nat) : Int) = (k : Int) + 1 by omega, Int.mul_add, Int.mul_one, Int.mul_assoc]
 have hs : [sortI a, sortI a, a, a].sum = 2 * sortI a + 2 * a := by
  show sortI a + (sortI a + (a + (a + 0))) = _
  omega
 rw [add_of (by simp; omega) (by rw [hs]; omega), hs, key]
end Go.Ev
