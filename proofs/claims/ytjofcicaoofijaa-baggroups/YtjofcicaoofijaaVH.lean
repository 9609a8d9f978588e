/- Tables of functions that are handed boxes. Nothing here is trusted. -/
import Derived.Test.YtjofcicaoofijaaVA
namespace Go.Ev
set_option linter.unusedVariables false
set_option linter.unusedSimpArgs false

abbrev HRes := Option (AV × List (Option Ent))
def entH (ta : List AV) (th : List Ent) (G : List D → List D → HRes) (args : List AV) (h : List Ent) : HRes := bif allA ta args && allE th h then G (args.map (·.d)) (h.map (·.d)) else none
def preH (ta : List AV) (th : List Ent) (q : List D → List D → Bool) (args : List AV) (h : List Ent) : Bool := allA ta args && allE th h && q (args.map (·.d)) (h.map (·.d))
def tmplA (ta : List AV) : Bool := ta.all fun t => t.tag == 1 || isNilD t.d
def tmplE (th : List Ent) : Bool := th.all fun t => match t.c with | some a => isNilD a.d && isNilD t.d | none => true

theorem entH_ok {P : Program} {f : FuncId} {ta : List AV} {th : List Ent} {q : List D → List D → Bool} {G : List D → List D → HRes} (h1 : tmplA ta = true) (h2 : tmplE th = true)
    (h : ∀ ds es r h', q ds es = true → G ds es = some (r, h') → HCallOK P f (fillA ta ds) (fillE th es) r h') :
    ∀ args hh r h', preH ta th q args hh = true → entH ta th G args hh = some (r, h') → HCallOK P f args hh r h' := by
  intro args hh r h' hp hd
  unfold preH at hp
  unfold entH at hd
  rw [Bool.and_eq_true] at hp
  rw [hp.1, cond_true] at hd
  rw [Bool.and_eq_true] at hp
  have ea := allA_eq hp.1.1 (fun t ht hn => by
    unfold tmplA at h1
    rw [List.all_eq_true] at h1
    have := h1 t ht
    rw [Bool.or_eq_true] at this
    rcases this with h | h
    · exact absurd (by simpa using h) hn
    · exact isNilD_eq h)
  have ee := allE_eq hp.1.2 (fun t ht a ha => by
    unfold tmplE at h2
    rw [List.all_eq_true] at h2
    have := h2 t ht
    rw [ha] at this
    simp only [Bool.and_eq_true] at this
    exact ⟨isNilD_eq this.1, isNilD_eq this.2⟩)
  rw [ea, ee]
  exact h _ _ r h' hp.2 hd

/-- A contract may lean on the types of what is handed over. -/
theorem HCallOK.typed {P : Program} {f : FuncId} {args : List AV} {h : List Ent} {r : AV} {h' : List (Option Ent)} (hfn : ∃ fn c, P.funcs[f]? = some fn ∧ fn.body = some c ∧ (fn.name == "runtime.NumGoroutine") = false)
    (H : (∀ x ∈ args, x.tag = 1 → ∃ n, Ty P n x.ty x.d) → (∀ e ∈ h, e.row = 0 → e.c = none → ∃ n, Ty P n e.ty e.d) → HCallOK P f args h r h') : HCallOK P f args h r h' := by
  refine ⟨hfn, fun w okA β vs hok hH hargs => ?_⟩
  refine (H ?_ ?_).call w okA β vs hok hH hargs
  · have key : ∀ (xs : List AV) (vs : List Value), ArgsRepH P w okA β (bxOf h) xs vs → ∀ x ∈ xs, x.tag = 1 → ∃ n, Ty P n x.ty x.d := by
      intro xs
      induction xs with
      | nil => intro vs _ x hx; cases hx
      | cons y xs ih =>
        intro vs hv x hx ht
        cases vs with
        | nil => exact hv.elim
        | cons v vs =>
          rcases List.mem_cons.1 hx with rfl | hx
          · obtain ⟨⟨n, hn⟩, _⟩ := hv.1.2.1.d1 ht
            exact ⟨n, hn.ty⟩
          · exact ih vs hv.2 x hx ht
    exact key args vs hargs
  · intro e he h0 hc
    obtain ⟨k, hk⟩ := List.getElem?_of_mem he
    have hb : bxOf h (OID + k) = some e := by
      unfold bxOf
      rw [if_neg (by omega), Nat.add_sub_cancel_left]
      exact hk
    obtain ⟨cs, _, n, hn⟩ := hH.box _ e hb h0 hc
    exact ⟨n, hn.ty⟩

/-- .. and on what is in rows. -/
theorem HCallOK.typedR {P : Program} {f : FuncId} {args : List AV} {h : List Ent} {r : AV} {h' : List (Option Ent)} (hfn : ∃ fn c, P.funcs[f]? = some fn ∧ fn.body = some c ∧ (fn.name == "runtime.NumGoroutine") = false)
    (H : (∀ x ∈ args, x.tag = 1 → ∃ n, Ty P n x.ty x.d) → (∀ e ∈ h, e.row = 0 → e.c = none → ∃ n, Ty P n e.ty e.d) →
      (∀ e ∈ h, e.row ≠ 0 → ∃ el es, P.underlying e.ty = some (.slice el) ∧ e.d = .slice es [] ∧ es.length ≤ maxLen ∧ ∀ y ∈ es, ∃ n, Ty P n el y) → HCallOK P f args h r h') : HCallOK P f args h r h' := by
  refine HCallOK.typed hfn fun h1 h2 => ⟨hfn, fun w okA β vs hok hH hargs => ?_⟩
  refine (H h1 h2 ?_).call w okA β vs hok hH hargs
  intro e he h0
  obtain ⟨k, hk⟩ := List.getElem?_of_mem he
  have hb : bxOf h (OID + k) = some e := by
    unfold bxOf
    rw [if_neg (by omega), Nat.add_sub_cancel_left]
    exact hk
  obtain ⟨el, g1, g2, g3, ⟨es, g4⟩, g5⟩ := hH.row _ e hb h0
  have hes : elemsD e.d = es := by rw [g4]; rfl
  refine ⟨el, es, g1, g4, ?_, ?_⟩
  · cases hl : e.live with
    | true => obtain ⟨_, _, _, q1, q2, _⟩ := g5 hl; rw [hes] at q1; omega
    | false => have := not_live hl; rw [hes] at this; subst this; exact Nat.zero_le _
  · intro y hy
    cases hl : e.live with
    | true =>
      obtain ⟨_, n, _, _, _, _, q⟩ := g5 hl
      obtain ⟨i, hi⟩ := List.getElem?_of_mem hy
      exact ⟨n, (q i y (by rw [hes]; exact hi)).ty⟩
    | false => have := not_live hl; rw [hes] at this; subst this; cases hy

/-- Functions that only look at what they have captured. -/
def entR (ta : List AV) (th : List Ent) (G : List D → List D → Option D) (args : List AV) (h : List Ent) : Option D := bif allA ta args && allE th h then G (args.map (·.d)) (h.map (·.d)) else none
theorem entR_ok {P : Program} {f : FuncId} {t : TypeId} {ta : List AV} {th : List Ent} {q : List D → List D → Bool} {G : List D → List D → Option D} (h1 : tmplA ta = true) (h2 : tmplE th = true)
    (h : ∀ ds es d, q ds es = true → G ds es = some d → HCallOK P f (fillA ta ds) (fillE th es) (mkRes P t d) ((fillE th es).map some)) :
    ∀ args hh d, preH ta th q args hh = true → entR ta th G args hh = some d → HCallOK P f args hh (mkRes P t d) (hh.map some) := by
  intro args hh d hp hd
  unfold preH at hp
  unfold entR at hd
  rw [Bool.and_eq_true] at hp
  rw [hp.1, cond_true] at hd
  rw [Bool.and_eq_true] at hp
  have ea := allA_eq hp.1.1 (fun t ht hn => by
    unfold tmplA at h1
    rw [List.all_eq_true] at h1
    have := h1 t ht
    rw [Bool.or_eq_true] at this
    rcases this with h | h
    · exact absurd (by simpa using h) hn
    · exact isNilD_eq h)
  have ee := allE_eq hp.1.2 (fun t ht a ha => by
    unfold tmplE at h2
    rw [List.all_eq_true] at h2
    have := h2 t ht
    rw [ha] at this
    simp only [Bool.and_eq_true] at this
    exact ⟨isNilD_eq this.1, isNilD_eq this.2⟩)
  rw [ea, ee]
  exact h _ _ d hp.2 hd

theorem fnH_ok {P : Program} (hm : P.follows .mixedOrders = true) {env : Env} (henv : EnvOK P env) {hh : Hints} {fuel : Nat} {f : FuncId} {fn : Func} {args : List AV} {h : List Ent} {r : AV} {h' : List (Option Ent)} (hf : FnOK P f fn)
    (hev : evFnH P env hh fuel fn args h = some (r, h')) : HCallOK P f args h r h' := evFnH_sound hm henv hf.1 hf.2.2 hev

end Go.Ev
