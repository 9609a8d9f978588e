/- What the evaluator comes to, function by function: by the kernel. Nothing here is trusted. -/
import Derived.Test.YtjgnknkbohlopaaWB
namespace Go.Proofs.Ytjgnknkbohlopaa
namespace X
open Go.Ev
set_option linter.unusedVariables false
/- roadbook/expr.through -/
def t37_m_h : Hints := fun _ =>  none
theorem t37_m (N : Nat) (x0 : D) (q : Int) : evFnH Try.prog (envH U2 (H2 7)) t37_m_h N Try.f37 [dat 40 x0, clo 59 43 [1000000]] [⟨3, .lit (.int .i64 q), 0, none⟩] =
  bif mayPre 7 1 q then
    some (dat 4 (.lit (.bool ((mayAll 7 x0 1 q).1))), [some ⟨3, .lit (.int .i64 ((mayAll 7 x0 1 q).2)), 0, none⟩])
  else none := by kernel_rfl

/- roadbook/expr.through -/
def t37_c_h : Hints := fun _ =>  none
theorem t37_c (N : Nat) (x0 : D) (es : List D) : evFnH Try.prog (envH U2 (H2 7)) t37_c_h N Try.f37 [dat 40 x0, clo 59 38 [1000000]] [⟨25, .nil, 0, some (bxp 1000001 25)⟩, ⟨25, .slice es [], 4, none⟩] =
  bif colsPre 7 x0 1 es then
    some (dat 4 (.lit (.bool true)), [some ⟨25, .nil, 0, some (bxp 1000001 25)⟩, some ⟨25, .slice (es ++ colsK 7 x0) [], 1, none⟩])
  else none := by kernel_rfl

end X
end Go.Proofs.Ytjgnknkbohlopaa

namespace Go.Proofs.Ytjgnknkbohlopaa
namespace X
open Go.Ev
set_option linter.unusedVariables false
set_option linter.unusedSimpArgs false

def a37m : List AV := [dat 40 .nil, clo 59 43 [OID]]
def a37c : List AV := [dat 40 .nil, clo 59 38 [OID]]
def b37m : List Ent := [⟨3, .nil, 0, none⟩]
def b37c : List Ent := [⟨25, .nil, 0, some (bxp (OID + 1) 25)⟩, ⟨25, .nil, 4, none⟩]
def q37m : List D → List D → Bool := fun ds es => mayPre 7 1 (intD (es.getD 0 .nil))
def q37c : List D → List D → Bool := fun ds es => colsPre 7 (ds.getD 0 .nil) 1 (elemsD (es.getD 1 .nil))
def g37m : List D → List D → HRes
  | [e, _], [n] => some (dat 4 (.lit (.bool (mayAll 7 e 1 (intD n)).1)), [some ⟨3, .lit (.int .i64 (mayAll 7 e 1 (intD n)).2), 0, none⟩])
  | _, _ => none
def g37c : List D → List D → HRes
  | [e, _], [_, l] => some (dat 4 (.lit (.bool true)), [some ⟨25, .nil, 0, some (bxp (OID + 1) 25)⟩, some ⟨25, .slice (elemsD l ++ colsK 7 e) [], 1, none⟩])
  | _, _ => none
def h37 : HEnt := (37, 4, fun args h => bif h.length == 1 then preH a37m b37m q37m args h else preH a37c b37c q37c args h, fun args h => bif h.length == 1 then entH a37m b37m g37m args h else entH a37c b37c g37c args h)
def H3 : HTab := h37 :: H2 7
theorem k37 : FnOK Try.prog 37 Try.f37 := ⟨Try.func37, rfl, by kernel_rfl⟩

theorem g37m_inv {ds es : List D} {r : AV} {h' : List (Option Ent)} (hg : g37m ds es = some (r, h')) : ∃ e y n, ds = [e, y] ∧ es = [n] ∧ r = dat 4 (.lit (.bool (mayAll 7 e 1 (intD n)).1)) ∧
    h' = [some ⟨3, .lit (.int .i64 (mayAll 7 e 1 (intD n)).2), 0, none⟩] := by
  unfold g37m at hg
  split at hg
  · injection hg with hg
    injection hg with h1 h2
    exact ⟨_, _, _, rfl, rfl, h1.symm, h2.symm⟩
  · cases hg
theorem g37c_inv {ds es : List D} {r : AV} {h' : List (Option Ent)} (hg : g37c ds es = some (r, h')) : ∃ e y u l, ds = [e, y] ∧ es = [u, l] ∧ r = dat 4 (.lit (.bool true)) ∧
    h' = [some ⟨25, .nil, 0, some (bxp (OID + 1) 25)⟩, some ⟨25, .slice (elemsD l ++ colsK 7 e) [], 1, none⟩] := by
  unfold g37c at hg
  split at hg
  · injection hg with hg
    injection hg with h1 h2
    exact ⟨_, _, _, _, rfl, rfl, h1.symm, h2.symm⟩
  · cases hg

theorem c37m : ∀ args hh r h', preH a37m b37m q37m args hh = true → entH a37m b37m g37m args hh = some (r, h') → HCallOK Try.prog 37 args hh r h' :=
  entH_ok rfl rfl fun ds es r h' hq hg => by
    obtain ⟨e, y, n, rfl, rfl, rfl, rfl⟩ := g37m_inv hg
    refine HCallOK.typed k37.ex fun ht he => ?_
    obtain ⟨_, t2⟩ := he ⟨3, n, 0, none⟩ (by simp [fillE, b37m]) rfl rfl
    obtain ⟨q, rfl, hq2⟩ := ty3' t2
    have hpre : mayPre 7 1 q = true := hq
    refine fnH_ok hm (envH2 7) k37 ((t37_m 1 e q).trans ?_)
    rw [hpre]
    rfl
theorem c37c : ∀ args hh r h', preH a37c b37c q37c args hh = true → entH a37c b37c g37c args hh = some (r, h') → HCallOK Try.prog 37 args hh r h' :=
  entH_ok rfl rfl fun ds es r h' hq hg => by
    obtain ⟨e, y, u, l, rfl, rfl, rfl, rfl⟩ := g37c_inv hg
    refine row_slice k37.ex (e := ⟨25, l, 4, none⟩) (by simp [fillE, b37c]) (by simp) ?_
    rintro ⟨es, hes⟩
    have hes : l = .slice es [] := hes
    subst hes
    have hpre : colsPre 7 e 1 es = true := hq
    refine fnH_ok hm (envH2 7) k37 ((t37_c 1 e es).trans ?_)
    rw [hpre]
    rfl
theorem envH3 : EnvOK Try.prog (envH U2 H3) := envOK_consH (envH2 7) (fun args hh r h' hp hd => by
      have hp : (bif hh.length == 1 then preH a37m b37m q37m args hh else preH a37c b37c q37c args hh) = true := hp
      have hd : (bif hh.length == 1 then entH a37m b37m g37m args hh else entH a37c b37c g37c args hh) = some (r, h') := hd
      cases hlen : (hh.length == 1) with
      | true =>
        rw [hlen, cond_true] at hp hd
        exact c37m args hh r h' hp hd
      | false =>
        rw [hlen, cond_false] at hp hd
        exact c37c args hh r h' hp hd)

/-! ### Sort and compact -/
def a39 : List AV := [bxp OID 25]
def q39 (args : List AV) (h : List Ent) : Bool := allA a39 args && (match h with | [e] => e.ty == 25 && e.c.isNone && (e.row == 3 || e.row == 4) | _ => false)
def h39 : HEnt := (39, 0, fun args h => q39 args h && decide ((elemsD (h.getD 0 ⟨0, .nil, 0, none⟩).d).length ≤ 1000000), fun args h => match h with | [e] => some (tupA [] (.agg []), [some ⟨25, .slice (sortD (elemsD e.d)) [], e.row, none⟩]) | _ => none)
def h40 : HEnt := (40, 25, fun args h => q39 args h, fun args h => match h with | [e] => some (bxp OID 25, [some ⟨25, .slice (compD (elemsD e.d)) [], if e.row == 3 then 2 else 1, none⟩]) | _ => none)
theorem k39 : FnOK Try.prog 39 Try.f39 := ⟨Try.func39, rfl, by kernel_rfl⟩
theorem k40 : FnOK Try.prog 40 Try.f40 := ⟨Try.func40, rfl, by kernel_rfl⟩
theorem cells27 : Try.prog.cellsOf 25 = 1 := by kernel_rfl
theorem cells3 : Try.prog.cellsOf 3 = 1 := by kernel_rfl
theorem q39_inv {args : List AV} {h : List Ent} (hq : q39 args h = true) : args = [bxp OID 25] ∧ ∃ e : Ent, h = [e] ∧ e.ty = 25 ∧ e.c = none ∧ (e.row = 3 ∨ e.row = 4) := by
  unfold q39 at hq
  rw [Bool.and_eq_true] at hq
  refine ⟨?_, ?_⟩
  · have ha := allA_eq hq.1 (fun t ht _ => by
      rcases List.mem_singleton.1 ht with rfl
      rfl)
    have hl : args.length = 1 := by
      have h1 := hq.1
      match args, h1 with
      | [], h1 => cases h1
      | [_], _ => rfl
      | _ :: _ :: _, h1 => simp [allA, a39] at h1
    match args, hl with
    | [x], _ => exact ha
  · match h, hq.2 with
    | [e], h2 =>
      simp only [Bool.and_eq_true, beq_iff_eq, Bool.or_eq_true, Option.isNone_iff_eq_none] at h2
      exact ⟨e, rfl, h2.1.1, h2.1.2, h2.2⟩
theorem c39 : ∀ args hh r h', h39.2.2.1 args hh = true → h39.2.2.2 args hh = some (r, h') → HCallOK Try.prog 39 args hh r h' := by
  intro args hh r h' hp hd
  have hp : (q39 args hh && decide ((elemsD (hh.getD 0 ⟨0, .nil, 0, none⟩).d).length ≤ 1000000)) = true := hp
  rw [Bool.and_eq_true] at hp
  obtain ⟨rfl, e, rfl, h1, h2, h3⟩ := q39_inv hp.1
  have hlen : (elemsD e.d).length ≤ 1000000 := by
    have := hp.2
    simpa using this
  have hd : some (tupA [] (.agg []), [some (⟨25, .slice (sortD (elemsD e.d)) [], e.row, none⟩ : Ent)]) = some (r, h') := hd
  rw [Option.some.injEq, Prod.mk.injEq] at hd
  rw [← hd.1, ← hd.2]
  exact sort_ok k39.ex (fun blk off cap zs w a b c => Try.slices_Sort_int blk off cap zs w a b c) (fun p cap w => Try.slices_Sort_int_none p cap w) u27 cells27 u3 cells3 h1 h2 h3 hlen
theorem c40 : ∀ args hh r h', h40.2.2.1 args hh = true → h40.2.2.2 args hh = some (r, h') → HCallOK Try.prog 40 args hh r h' := by
  intro args hh r h' hp hd
  have hp : q39 args hh = true := hp
  obtain ⟨rfl, e, rfl, h1, h2, h3⟩ := q39_inv hp
  have hd : some (bxp OID 25, [some (⟨25, .slice (compD (elemsD e.d)) [], if e.row == 3 then 2 else 1, none⟩ : Ent)]) = some (r, h') := hd
  rw [Option.some.injEq, Prod.mk.injEq] at hd
  rw [← hd.1, ← hd.2]
  exact compact_ok k40.ex (fun blk off cap zs w a b c => Try.slices_Compact_int blk off cap zs w a b c) (fun p cap w => Try.slices_Compact_int_empty p cap w) u27 cells27 u3 cells3 h1 h2 h3
def H4 : HTab := h40 :: h39 :: H3
theorem envH4 : EnvOK Try.prog (envH U2 H4) := envOK_consH (envOK_consH envH3 c39) c40

def e21 : FuncId × TypeId × (List AV → Bool) × (List AV → Option D) := (21, 4, yes, ent [40] (f1 fun x => some (.lit (.bool (mayE x)))))
def U3 : Tab := e21 :: U2
end X
end Go.Proofs.Ytjgnknkbohlopaa

namespace Go.Proofs.Ytjgnknkbohlopaa
namespace X
open Go.Ev
set_option linter.unusedVariables false
/- roadbook/expr.May -/
def t21_h : Hints := fun _ =>  none
theorem t21 (N : Nat) (x0 : D) : evFn Try.prog (envH U2 H3) t21_h N Try.f21 [dat 40 x0] =
  bif mayPre 7 1 0 then
    some (dat 4 (.lit (.bool ((mayAll 7 x0 1 0).1))))
  else none := by kernel_rfl

/- roadbook/expr.Cols -/
def t16_h : Hints := fun _ =>  none
theorem t16 (N : Nat) (x0 : D) : evFn Try.prog (envH U3 H4) t16_h N Try.f16 [dat 40 x0] =
  bif (!(mayE x0)) then
    some (dat 25 (.slice [] []))
  else bif colsPre 7 x0 1 [] then
      bif decide (([] ++ colsK 7 x0).length ≤ 1000000) then
        some (dat 25 (.slice (compD (sortD ([] ++ colsK 7 x0))) []))
      else none
    else none := by kernel_rfl

end X
end Go.Proofs.Ytjgnknkbohlopaa

namespace Go.Proofs.Ytjgnknkbohlopaa
namespace X
open Go.Ev
set_option linter.unusedVariables false
set_option linter.unusedSimpArgs false

theorem k21 : FnOK Try.prog 21 Try.f21 := ⟨Try.func21, rfl, by kernel_rfl⟩
theorem c21 : ∀ args d, e21.2.2.2 args = some d → CallOK Try.prog 21 args (mkRes Try.prog 4 d) :=
  ent1 k21 fun x d h _ => by
    cases h
    rw [n26]
    refine fn_ok hm envH3 k21 ((t21 1 x).trans ?_)
    rw [m4]
    rfl
theorem envU3 : EnvOK Try.prog (envH U3 []) := envOK_cons envU2 c21
theorem envU3H4 : EnvOK Try.prog (envH U3 H4) := envOK_cons envH4 c21

/-! ### What may be has columns that are few -/
theorem goL_count {g : D → Int → Bool × Int} {c : D → List D} (hg : ∀ p m, (g p m).1 = true → m + ((c p).length : Int) ≤ (g p m).2) : ∀ (l : List D) (m : Int), (goL g l m).1 = true → m + ((l.flatMap c).length : Int) ≤ (goL g l m).2
  | [], m, _ => by simp [goL]
  | p :: l, m, h => by
    rw [goL_cons] at h ⊢
    cases hp : (g p m).1 with
    | false => rw [hp] at h; cases h
    | true =>
      rw [hp, cond_true] at h
      rw [cond_true, List.flatMap_cons, List.length_append]
      have h1 := hg p m hp
      have h2 := goL_count hg l _ h
      omega
theorem goL_all {g : D → Int → Bool × Int} : ∀ (l : List D) (m : Int), (goL g l m).1 = true → ∀ p ∈ l, ∃ k, (g p k).1 = true
  | [], m, _ => by simp
  | p :: l, m, h => by
    rw [goL_cons] at h
    cases hp : (g p m).1 with
    | false => rw [hp] at h; cases h
    | true =>
      rw [hp, cond_true] at h
      intro q hq
      rcases List.mem_cons.1 hq with rfl | hq
      · exact ⟨m, hp⟩
      · exact goL_all l _ h q hq
theorem mayAll_ok : ∀ (K : Nat) (e : D) (deep n : Int), (mayAll K e deep n).1 = true → okK K e = true
  | 0, e, deep, n, h => by cases h
  | K + 1, e, deep, n, h => by
    rw [mayAll_succ] at h
    cases hs : seeMay e deep n with
    | false => rw [hs] at h; cases h
    | true =>
      rw [hs, cond_true] at h
      rw [okK_succ, (see_true hs).2.2, Bool.true_and, List.all_eq_true]
      intro p hp
      obtain ⟨k, hk⟩ := goL_all _ _ h p hp
      exact mayAll_ok K p _ k hk
theorem mayAll_count : ∀ (K : Nat) (e : D) (deep n : Int), (mayAll K e deep n).1 = true → n + ((colsK K e).length : Int) ≤ (mayAll K e deep n).2
  | 0, e, deep, n, h => by cases h
  | K + 1, e, deep, n, h => by
    rw [mayAll_succ] at h ⊢
    cases hs : seeMay e deep n with
    | false => rw [hs] at h; cases h
    | true =>
      rw [hs, cond_true] at h
      rw [cond_true, colsK_succ, List.length_append]
      have h1 := goL_count (c := colsK K) (fun p m => mayAll_count K p (deep + 1) m) _ _ h
      have h2 : (bif opI e == 1 then [litI (colI e)] else []).length ≤ 1 := by cases (opI e == 1) <;> simp
      omega
theorem mayE_ok {e : D} (h : mayE e = true) : okK 7 e = true := mayAll_ok 7 e 1 0 h
theorem mayE_cols {e : D} (h : mayE e = true) : (colsK 7 e).length ≤ 30 := by
  have h1 := mayAll_count 7 e 1 0 h
  have h2 := mayAll_bound 7 e 1 0 (by omega) (by omega) h
  omega
theorem mayE_pre {e : D} (h : mayE e = true) : colsPre 7 e 1 [] = true := by
  simp only [colsPre, Bool.and_eq_true, decide_eq_true_eq]
  have := mayE_cols h
  exact ⟨⟨⟨mayE_ok h, by omega⟩, by omega⟩, by simp; omega⟩

def e16 : FuncId × TypeId × (List AV → Bool) × (List AV → Option D) := (16, 25, yes, ent [40] (f1 fun x => some (.slice (colsE x) [])))
theorem k16 : FnOK Try.prog 16 Try.f16 := ⟨Try.func16, rfl, by kernel_rfl⟩
theorem c16 : ∀ args d, e16.2.2.2 args = some d → CallOK Try.prog 16 args (mkRes Try.prog 25 d) :=
  ent1 k16 fun x d h _ => by
    cases h
    rw [n26]
    refine fn_ok hm envU3H4 k16 ((t16 1 x).trans ?_)
    rw [m27]
    unfold colsE
    cases hmay : mayE x with
    | false => rfl
    | true =>
      have hl := mayE_cols hmay
      have hd : decide (([] ++ colsK 7 x).length ≤ 1000000) = true := by simp; omega
      rw [mayE_pre hmay, hd]
      rfl
def U4 : Tab := e16 :: U3
theorem envU4 : EnvOK Try.prog (envH U4 []) := envOK_cons envU3 c16

/-! ### Eval, by levels -/
end X
end Go.Proofs.Ytjgnknkbohlopaa
