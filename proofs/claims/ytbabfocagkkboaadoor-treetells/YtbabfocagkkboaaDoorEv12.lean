/- Tables of what is known of functions. Nothing here is trusted. -/
import Derived.Test.YtbabfocagkkboaaDoorEv11
namespace Go.Ev
open Go.RowKit
set_option linter.unusedVariables false
set_option linter.unusedSimpArgs false

abbrev Tab := List (FuncId × TypeId × (List AV → Bool) × (List AV → Option D))
abbrev HTab := List (FuncId × TypeId × (List AV → List Ent → Bool) × (List AV → List Ent → Option (AV × List (Option Ent))))
abbrev RTab := List (FuncId × TypeId × (List AV → List Ent → Bool) × (List AV → List Ent → Option D))
abbrev FTab := List (FuncId × TypeId × (List AV → Bool) × (List AV → Option (Nat × D)))
def envR (l : Tab) (lh : HTab) (lr : RTab) (lf : FTab) : Env := ⟨fun f => (l.find? (fun e => e.1 == f)).map (·.2), fun f => (lh.find? (fun e => e.1 == f)).map (·.2), true, fun f => (lr.find? (fun e => e.1 == f)).map (·.2), fun f => (lf.find? (fun e => e.1 == f)).map (·.2), fun _ => none, false⟩
/-- The same, with struct variables that are held field by field. -/
def envS (env : Env) (l : List (Nat × Nat)) : Env := { env with sp := fun d => (l.find? (fun p => p.1 == d)).map (·.2), sn := true }
abbrev envH (l : Tab) (lh : HTab) : Env := envR l lh [] []
abbrev envOf (l : Tab) : Env := envH l []

def shapeOK (ts : List TypeId) (as : List AV) : Bool := as.map (·.tag) == ts.map (fun _ => 1) && as.map (·.ty) == ts
/-- A function of data of these types. -/
def ent (ts : List TypeId) (F : List D → Option D) : List AV → Option D := fun as => if shapeOK ts as then F (as.map (·.d)) else none

section
variable {P : Program}

def yes : List AV → Bool := fun _ => true

theorem envOK_nil : EnvOK P (envOf []) := ⟨fun f t pre F args d h => by simp [envR] at h, fun f t pre F args hh r h' h => by simp [envR] at h, fun f t pre F args hh d h => by simp [envR] at h, fun f t pre F args k d h => by simp [envR] at h⟩

theorem find_cons {α : Type} {f g : FuncId} {x y : α} {l : List (FuncId × α)} (h : (((f, x) :: l).find? (fun e => e.1 == g)).map (·.2) = some y) : (f = g ∧ x = y) ∨ (l.find? (fun e => e.1 == g)).map (·.2) = some y := by
  rw [List.find?_cons] at h
  split at h
  · rename_i heq
    rw [beq_iff_eq] at heq
    simp only [Option.map_some, Option.some.injEq] at h
    exact .inl ⟨heq, h⟩
  · exact .inr h

theorem envOK_cons' {f : FuncId} {t : TypeId} {pre : List AV → Bool} {F : List AV → Option D} {l : Tab} {lh : HTab} {lr : RTab} {lf : FTab} (hl : EnvOK P (envR l lh lr lf)) (h : ∀ args d, pre args = true → F args = some d → CallOK P f args (mkRes P t d)) : EnvOK P (envR ((f, t, pre, F) :: l) lh lr lf) := by
  refine ⟨?_, hl.h, hl.r, hl.f⟩
  intro g u q G args d he hp hd
  rcases find_cons he with ⟨rfl, heq⟩ | he
  · simp only [Prod.mk.injEq] at heq
    obtain ⟨rfl, rfl, rfl⟩ := heq
    exact h args d hp hd
  · exact hl.p g u q G args d he hp hd

theorem envOK_consH {f : FuncId} {t : TypeId} {pre : List AV → List Ent → Bool} {F : List AV → List Ent → Option (AV × List (Option Ent))} {l : Tab} {lh : HTab} {lr : RTab} {lf : FTab} (hl : EnvOK P (envR l lh lr lf))
    (h : ∀ args hp r h', pre args hp = true → F args hp = some (r, h') → HCallOK P f args hp r h') : EnvOK P (envR l ((f, t, pre, F) :: lh) lr lf) := by
  refine ⟨hl.p, ?_, hl.r, hl.f⟩
  intro g u q G args hh r h' he hp hd
  rcases find_cons he with ⟨rfl, heq⟩ | he
  · simp only [Prod.mk.injEq] at heq
    obtain ⟨rfl, rfl, rfl⟩ := heq
    exact h args hh r h' hp hd
  · exact hl.h g u q G args hh r h' he hp hd

theorem envOK_consR {f : FuncId} {t : TypeId} {pre : List AV → List Ent → Bool} {F : List AV → List Ent → Option D} {l : Tab} {lh : HTab} {lr : RTab} {lf : FTab} (hl : EnvOK P (envR l lh lr lf))
    (h : ∀ args hp d, pre args hp = true → F args hp = some d → HCallOK P f args hp (mkRes P t d) (hp.map some)) : EnvOK P (envR l lh ((f, t, pre, F) :: lr) lf) := by
  refine ⟨hl.p, hl.h, ?_, hl.f⟩
  intro g u q G args hh d he hp hd
  rcases find_cons he with ⟨rfl, heq⟩ | he
  · simp only [Prod.mk.injEq] at heq
    obtain ⟨rfl, rfl, rfl⟩ := heq
    exact h args hh d hp hd
  · exact hl.r g u q G args hh d he hp hd

theorem envOK_consF {f : FuncId} {t : TypeId} {pre : List AV → Bool} {F : List AV → Option (Nat × D)} {l : Tab} {lh : HTab} {lr : RTab} {lf : FTab} (hl : EnvOK P (envR l lh lr lf))
    (h : ∀ args k d, pre args = true → F args = some (k, d) → FCallOK P f args t k d) : EnvOK P (envR l lh lr ((f, t, pre, F) :: lf)) := by
  refine ⟨hl.p, hl.h, hl.r, ?_⟩
  intro g u q G args k d he hp hd
  rcases find_cons he with ⟨rfl, heq⟩ | he
  · simp only [Prod.mk.injEq] at heq
    obtain ⟨rfl, rfl, rfl⟩ := heq
    exact h args k d hp hd
  · exact hl.f g u q G args k d he hp hd

theorem envOK_cons {f : FuncId} {t : TypeId} {F : List AV → Option D} {l : Tab} {lh : HTab} {lr : RTab} {lf : FTab} (hl : EnvOK P (envR l lh lr lf)) (h : ∀ args d, F args = some d → CallOK P f args (mkRes P t d)) : EnvOK P (envR ((f, t, yes, F) :: l) lh lr lf) :=
  envOK_cons' hl fun args d _ hd => h args d hd

theorem argsRep_congr {w : World} {ok : Nat → Prop} : ∀ {xs ys : List AV} {vs : List Value}, xs.map (·.tag) = ys.map (·.tag) → xs.map (·.ty) = ys.map (·.ty) → xs.map (·.d) = ys.map (·.d) → ArgsRep P w ok xs vs → ArgsRep P w ok ys vs
  | [], [], vs, _, _, _, h => h
  | [], _ :: _, _, h, _, _, _ => by simp at h
  | _ :: _, [], _, h, _, _, _ => by simp at h
  | x :: xs, y :: ys, [], _, _, _, h => h.elim
  | x :: xs, y :: ys, v :: vs, h1, h2, h3, h => by
    simp only [List.map_cons, List.cons.injEq] at h1 h2 h3
    refine ⟨⟨by rw [← h1.1]; exact h.1.1, by rw [← h2.1, ← h3.1]; exact h.1.2⟩, argsRep_congr h1.2 h2.2 h3.2 h.2⟩

theorem ent_ok {f : FuncId} {t : TypeId} {ts : List TypeId} {F : List D → Option D} (h : ∀ ds d, ds.length = ts.length → F ds = some d → CallOK P f (List.zipWith dat ts ds) (mkRes P t d)) :
    ∀ args d, ent ts F args = some d → CallOK P f args (mkRes P t d) := by
  intro args d hd
  unfold ent at hd
  split at hd
  · rename_i hs
    unfold shapeOK at hs
    rw [Bool.and_eq_true, beq_iff_eq, beq_iff_eq] at hs
    obtain ⟨h1, h2⟩ := hs
    have hl : args.length = ts.length := by rw [← h2]; simp
    have hk := h (args.map (·.d)) d (by simp [hl]) hd
    have key : ∀ (as : List AV) (ts : List TypeId), as.map (·.tag) = ts.map (fun _ => 1) → as.map (·.ty) = ts →
        as.map (·.tag) = (List.zipWith dat ts (as.map (·.d))).map (·.tag) ∧ as.map (·.ty) = (List.zipWith dat ts (as.map (·.d))).map (·.ty) ∧ as.map (·.d) = (List.zipWith dat ts (as.map (·.d))).map (·.d) := by
      intro as
      induction as with
      | nil => intro ts _ h2; subst h2; simp
      | cons a as ih =>
        intro ts h1 h2
        subst h2
        simp only [List.map_cons, List.cons.injEq] at h1
        obtain ⟨i1, i2, i3⟩ := ih (as.map (·.ty)) h1.2 rfl
        simp only [List.map_cons, List.zipWith_cons_cons, List.cons.injEq]
        exact ⟨⟨h1.1, i1⟩, ⟨rfl, i2⟩, ⟨rfl, i3⟩⟩
    obtain ⟨k1, k2, k3⟩ := key args ts h1 h2
    exact ⟨hk.fn, hk.tag, fun w okA vs htb hok hargs => hk.call w okA vs htb hok (argsRep_congr k1 k2 k3 hargs)⟩
  · cases hd

theorem argsRep_norm {w : World} {ok : Nat → Prop} : ∀ {xs : List AV} {vs : List Value}, ArgsRep P w ok xs vs → ArgsRep P w ok (xs.map fun v => dat v.ty (normD P v.ty v.d)) vs
  | [], [], h => h
  | x :: xs, v :: vs, h => ⟨⟨rfl, h.1.2.norm⟩, argsRep_norm h.2⟩
  | [], _ :: _, h => h.elim
  | _ :: _, [], h => h.elim

/-- Scalars may be taken as written out. -/
theorem CallOK.norm {f : FuncId} {args : List AV} {r : AV} (h : CallOK P f (args.map fun v => dat v.ty (normD P v.ty v.d)) r) : CallOK P f args r :=
  ⟨h.fn, h.tag, fun w okA vs htb hok hargs => h.call w okA vs htb hok (argsRep_norm hargs)⟩

def TyAll (P : Program) (args : List AV) : Prop := ∀ x ∈ args, ∃ n, Ty P n x.ty x.d

theorem argsRep_ty {w : World} {ok : Nat → Prop} : ∀ {xs : List AV} {vs : List Value}, ArgsRep P w ok xs vs → TyAll P xs
  | [], [], _, x, hx => by cases hx
  | y :: xs, v :: vs, h, x, hx => by
    rcases List.mem_cons.1 hx with rfl | hx
    · obtain ⟨⟨n, hn⟩, _⟩ := h.1.2
      exact ⟨n, hn.ty⟩
    · exact argsRep_ty h.2 x hx
  | [], _ :: _, h, _, _ => h.elim
  | _ :: _, [], h, _, _ => h.elim

/-- A contract may lean on its arguments' types. -/
theorem CallOK.typed {f : FuncId} {args : List AV} {r : AV} (hfn : ∃ fn c, P.funcs[f]? = some fn ∧ fn.body = some c ∧ (fn.name == "runtime.NumGoroutine") = false) (ht : r.tag = 1 ∨ r.tag = 6)
    (h : TyAll P args → CallOK P f args r) : CallOK P f args r :=
  ⟨hfn, ht, fun w okA vs htb hok hargs => (h (argsRep_ty hargs)).call w okA vs htb hok hargs⟩

def f0 (F : Option D) : List D → Option D | [] => F | _ => none
def f1 (F : D → Option D) : List D → Option D | [x] => F x | _ => none
def f2 (F : D → D → Option D) : List D → Option D | [x, y] => F x y | _ => none
def f3 (F : D → D → D → Option D) : List D → Option D | [x, y, z] => F x y z | _ => none

/-- The function is there. -/
def FnOK (P : Program) (f : FuncId) (fn : Func) : Prop := P.funcs[f]? = some fn ∧ fn.body.isSome = true ∧ (fn.name == "runtime.NumGoroutine") = false

theorem FnOK.ex {f : FuncId} {fn : Func} (h : FnOK P f fn) : ∃ fn c, P.funcs[f]? = some fn ∧ fn.body = some c ∧ (fn.name == "runtime.NumGoroutine") = false := by
  obtain ⟨h1, h2, h3⟩ := h
  obtain ⟨c, hc⟩ := Option.isSome_iff_exists.1 h2
  exact ⟨fn, c, h1, hc, h3⟩

theorem mk_tag (t : TypeId) (d : D) : (mkRes P t d).tag = 1 ∨ (mkRes P t d).tag = 6 := mkRes_tag t d

theorem fn_ok (hm : P.follows .mixedOrders = true) {env : Env} (henv : EnvOK P env) {hh : Hints} {fuel : Nat} {f : FuncId} {fn : Func} {args : List AV} {t : TypeId} {d : D} (hf : FnOK P f fn)
    (h : evFn P env hh fuel fn args = some (mkRes P t d)) : CallOK P f args (mkRes P t d) :=
  evFn_sound hm henv hf.1 hf.2.2 h (mk_tag t d)

theorem ent0 {f : FuncId} {t : TypeId} {F : Option D} (h : ∀ d, F = some d → CallOK P f [] (mkRes P t d)) :
    ∀ args d, ent [] (f0 F) args = some d → CallOK P f args (mkRes P t d) :=
  ent_ok fun ds d hl hd => match ds, hl, hd with
    | [], _, hd => h d hd
theorem ent1 {f : FuncId} {fn : Func} {t t1 : TypeId} {F : D → Option D} (hf : FnOK P f fn) (h : ∀ x d, F x = some d → (∃ n, Ty P n t1 x) → CallOK P f [dat t1 (normD P t1 x)] (mkRes P t d)) :
    ∀ args d, ent [t1] (f1 F) args = some d → CallOK P f args (mkRes P t d) :=
  ent_ok fun ds d hl hd => match ds, hl, hd with
    | [x], _, hd => CallOK.typed hf.ex (mk_tag t d) fun hty => (h x d hd (hty (dat t1 x) (by simp))).norm
theorem ent2 {f : FuncId} {fn : Func} {t t1 t2 : TypeId} {F : D → D → Option D} (hf : FnOK P f fn) (h : ∀ x y d, F x y = some d → (∃ n, Ty P n t1 x) → (∃ n, Ty P n t2 y) → CallOK P f [dat t1 (normD P t1 x), dat t2 (normD P t2 y)] (mkRes P t d)) :
    ∀ args d, ent [t1, t2] (f2 F) args = some d → CallOK P f args (mkRes P t d) :=
  ent_ok fun ds d hl hd => match ds, hl, hd with
    | [x, y], _, hd => CallOK.typed hf.ex (mk_tag t d) fun hty => (h x y d hd (hty (dat t1 x) (by simp)) (hty (dat t2 y) (by simp))).norm
theorem ent3 {f : FuncId} {fn : Func} {t t1 t2 t3 : TypeId} {F : D → D → D → Option D} (hf : FnOK P f fn) (h : ∀ x y z d, F x y z = some d → (∃ n, Ty P n t1 x) → (∃ n, Ty P n t2 y) → (∃ n, Ty P n t3 z) →
      CallOK P f [dat t1 (normD P t1 x), dat t2 (normD P t2 y), dat t3 (normD P t3 z)] (mkRes P t d)) :
    ∀ args d, ent [t1, t2, t3] (f3 F) args = some d → CallOK P f args (mkRes P t d) :=
  ent_ok fun ds d hl hd => match ds, hl, hd with
    | [x, y, z], _, hd => CallOK.typed hf.ex (mk_tag t d) fun hty => (h x y z d hd (hty (dat t1 x) (by simp)) (hty (dat t2 y) (by simp)) (hty (dat t3 z) (by simp))).norm

end
end Go.Ev
