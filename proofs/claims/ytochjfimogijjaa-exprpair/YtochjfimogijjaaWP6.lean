/- Layer 2: May and Cols. Nothing here is trusted. -/
import Derived.Test.YtochjfimogijjaaWT6
namespace Go.Proofs.Ytochjfimogijjaa
open Go.Ev
set_option linter.unusedVariables false
set_option linter.unusedSimpArgs false

theorem k12 : FnOK Try.prog 12 Try.f12 := ⟨Try.func12, rfl, by kernel_rfl⟩
theorem c12 : ∀ args d, e12.2.2.2 args = some d → CallOK Try.prog 12 args (mkRes Try.prog 4 d) :=
  ent1 k12 fun x d h _ => by
    cases h
    rw [n26]
    refine fn_ok hm envH3 k12 ((t12 1 x).trans ?_)
    rw [m4]
    rfl
theorem envU3 : EnvOK Try.prog (envH U3 []) := envOK_cons envU2 c12
theorem envU3H4 : EnvOK Try.prog (envH U3 H4) := envOK_cons envH4 c12

/-! ### What may be has columns that are few -/
theorem goL_count {g : D → Int → Bool × Int} {c : D → List D} (hg : ∀ p m, (g p m).1 = true → m + ((c p).length : Int) ≤ (g p m).2) : ∀ (l : List D) (m : Int), (goL g l m).1 = true → m + ((l.flatMap c).length : Int) ≤ (goL g l m).2
  | [], m, _ => by simp [goL]
  | p :: l, m, h => by
    rw [goL_cons] at h ⊢
    cases hp : (g p m).1 with
    | false => rw [hp] at h; cases h
    | true =>
      rw [hp, cond_true] at h
      rw [cond_true, List.flatMap_cons, List.length_append]
      have h1 := hg p m hp
      have h2 := goL_count hg l _ h
      omega
theorem goL_all {g : D → Int → Bool × Int} : ∀ (l : List D) (m : Int), (goL g l m).1 = true → ∀ p ∈ l, ∃ k, (g p k).1 = true
  | [], m, _ => by simp
  | p :: l, m, h => by
    rw [goL_cons] at h
    cases hp : (g p m).1 with
    | false => rw [hp] at h; cases h
    | true =>
      rw [hp, cond_true] at h
      intro q hq
      rcases List.mem_cons.1 hq with rfl | hq
      · exact ⟨m, hp⟩
      · exact goL_all l _ h q hq
theorem mayAll_ok : ∀ (K : Nat) (e : D) (deep n : Int), (mayAll K e deep n).1 = true → okK K e = true
  | 0, e, deep, n, h => by cases h
  | K + 1, e, deep, n, h => by
    rw [mayAll_succ] at h
    cases hs : seeMay e deep n with
    | false => rw [hs] at h; cases h
    | true =>
      rw [hs, cond_true] at h
      rw [okK_succ, (see_true hs).2.2, Bool.true_and, List.all_eq_true]
      intro p hp
      obtain ⟨k, hk⟩ := goL_all _ _ h p hp
      exact mayAll_ok K p _ k hk
theorem mayAll_count : ∀ (K : Nat) (e : D) (deep n : Int), (mayAll K e deep n).1 = true → n + ((colsK K e).length : Int) ≤ (mayAll K e deep n).2
  | 0, e, deep, n, h => by cases h
  | K + 1, e, deep, n, h => by
    rw [mayAll_succ] at h ⊢
    cases hs : seeMay e deep n with
    | false => rw [hs] at h; cases h
    | true =>
      rw [hs, cond_true] at h
      rw [cond_true, colsK_succ, List.length_append]
      have h1 := goL_count (c := colsK K) (fun p m => mayAll_count K p (deep + 1) m) _ _ h
      have h2 : (bif opI e == 1 then [litI (colI e)] else []).length ≤ 1 := by cases (opI e == 1) <;> simp
      omega
theorem mayE_ok {e : D} (h : mayE e = true) : okK 7 e = true := mayAll_ok 7 e 1 0 h
theorem mayE_cols {e : D} (h : mayE e = true) : (colsK 7 e).length ≤ 30 := by
  have h1 := mayAll_count 7 e 1 0 h
  have h2 := mayAll_bound 7 e 1 0 (by omega) (by omega) h
  omega
theorem mayE_pre {e : D} (h : mayE e = true) : colsPre 7 e 1 [] = true := by
  simp only [colsPre, Bool.and_eq_true, decide_eq_true_eq]
  have := mayE_cols h
  exact ⟨⟨⟨mayE_ok h, by omega⟩, by omega⟩, by simp; omega⟩

def e17 : FuncId × TypeId × (List AV → Bool) × (List AV → Option D) := (17, 27, yes, ent [26] (f1 fun x => some (.slice (colsE x) [])))
theorem k17 : FnOK Try.prog 17 Try.f17 := ⟨Try.func17, rfl, by kernel_rfl⟩
theorem c17 : ∀ args d, e17.2.2.2 args = some d → CallOK Try.prog 17 args (mkRes Try.prog 27 d) :=
  ent1 k17 fun x d h _ => by
    cases h
    rw [n26]
    refine fn_ok hm envU3H4 k17 ((t17 1 x).trans ?_)
    rw [m27]
    unfold colsE
    cases hmay : mayE x with
    | false => rfl
    | true =>
      have hl := mayE_cols hmay
      have hd : decide (([] ++ colsK 7 x).length ≤ 1000000) = true := by simp; omega
      rw [mayE_pre hmay, hd]
      rfl
def U4 : Tab := e17 :: U3
theorem envU4 : EnvOK Try.prog (envH U4 []) := envOK_cons envU3 c17

/-! ### Eval, by levels -/
def a37 : List AV := [dat 26 .nil, bxp OID 27, bxp (OID + 1) 28, bxp (OID + 2) 50]
def b37 : List Ent := [⟨27, .nil, 0, none⟩, ⟨28, .nil, 0, none⟩, ⟨50, .nil, 0, some (clo 50 37 [OID, OID + 1, OID + 2])⟩]
def q37 (K : Nat) : List D → List D → Bool := fun ds es => okK K (ds.getD 0 .nil)
def g37 (K : Nat) : List D → List D → HRes
  | [e, _, _, _], [c, r, _] => some (dat 23 (evalK (elemsD c) (elemsD r) K e), [some ⟨27, c, 0, none⟩, some ⟨28, r, 0, none⟩, some ⟨50, .nil, 0, some (clo 50 37 [OID, OID + 1, OID + 2])⟩])
  | _, _ => none
def h37 (K : Nat) : HEnt := (37, 23, preH a37 b37 (q37 K), entH a37 b37 (g37 K))
def H5 (K : Nat) : HTab := [h37 K]
theorem g37_inv {K : Nat} {ds es : List D} {r : AV} {h' : List (Option Ent)} (hg : g37 K ds es = some (r, h')) : ∃ e y1 y2 y3 c v u, ds = [e, y1, y2, y3] ∧ es = [c, v, u] ∧ r = dat 23 (evalK (elemsD c) (elemsD v) K e) ∧
    h' = [some ⟨27, c, 0, none⟩, some ⟨28, v, 0, none⟩, some ⟨50, .nil, 0, some (clo 50 37 [OID, OID + 1, OID + 2])⟩] := by
  unfold g37 at hg
  split at hg
  · injection hg with hg
    injection hg with h1 h2
    exact ⟨_, _, _, _, _, _, _, rfl, rfl, h1.symm, h2.symm⟩
  · cases hg

end Go.Proofs.Ytochjfimogijjaa
