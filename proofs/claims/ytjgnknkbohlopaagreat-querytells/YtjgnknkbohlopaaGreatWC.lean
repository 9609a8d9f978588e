/- What the evaluator comes to, function by function: by the kernel. Nothing here is trusted. -/
import Derived.Test.YtjgnknkbohlopaaGreatWB
namespace Go.Proofs.YtjgnknkbohlopaaGreat
namespace X
open Go.Ev
set_option linter.unusedVariables false
/- roadbook/expr.through -/
def t50_m_h : Hints := fun _ =>  none
theorem t50_m (N : Nat) (x0 : D) (q : Int) : evFnH Tryz.prog (envH U2 (H2 7)) t50_m_h N Tryz.f50 [dat 35 x0, clo 54 51 [1000000]] [⟨3, .lit (.int .i64 q), 0, none⟩] =
  bif mayPre 7 1 q then
    some (dat 4 (.lit (.bool ((mayAll 7 x0 1 q).1))), [some ⟨3, .lit (.int .i64 ((mayAll 7 x0 1 q).2)), 0, none⟩])
  else none := by kernel_rfl

/- roadbook/expr.through -/
def t50_c_h : Hints := fun _ =>  none
theorem t50_c (N : Nat) (x0 : D) (es : List D) : evFnH Tryz.prog (envH U2 (H2 7)) t50_c_h N Tryz.f50 [dat 35 x0, clo 54 54 [1000000]] [⟨25, .nil, 0, some (bxp 1000001 25)⟩, ⟨25, .slice es [], 4, none⟩] =
  bif colsPre 7 x0 1 es then
    some (dat 4 (.lit (.bool true)), [some ⟨25, .nil, 0, some (bxp 1000001 25)⟩, some ⟨25, .slice (es ++ colsK 7 x0) [], 1, none⟩])
  else none := by kernel_rfl

end X
end Go.Proofs.YtjgnknkbohlopaaGreat

namespace Go.Proofs.YtjgnknkbohlopaaGreat
namespace X
open Go.Ev
set_option linter.unusedVariables false
set_option linter.unusedSimpArgs false

def a50m : List AV := [dat 35 .nil, clo 54 51 [OID]]
def a50c : List AV := [dat 35 .nil, clo 54 54 [OID]]
def b50m : List Ent := [⟨3, .nil, 0, none⟩]
def b50c : List Ent := [⟨25, .nil, 0, some (bxp (OID + 1) 25)⟩, ⟨25, .nil, 4, none⟩]
def q50m : List D → List D → Bool := fun ds es => mayPre 7 1 (intD (es.getD 0 .nil))
def q50c : List D → List D → Bool := fun ds es => colsPre 7 (ds.getD 0 .nil) 1 (elemsD (es.getD 1 .nil))
def g50m : List D → List D → HRes
  | [e, _], [n] => some (dat 4 (.lit (.bool (mayAll 7 e 1 (intD n)).1)), [some ⟨3, .lit (.int .i64 (mayAll 7 e 1 (intD n)).2), 0, none⟩])
  | _, _ => none
def g50c : List D → List D → HRes
  | [e, _], [_, l] => some (dat 4 (.lit (.bool true)), [some ⟨25, .nil, 0, some (bxp (OID + 1) 25)⟩, some ⟨25, .slice (elemsD l ++ colsK 7 e) [], 1, none⟩])
  | _, _ => none
def h50 : HEnt := (50, 4, fun args h => bif h.length == 1 then preH a50m b50m q50m args h else preH a50c b50c q50c args h, fun args h => bif h.length == 1 then entH a50m b50m g50m args h else entH a50c b50c g50c args h)
def H3 : HTab := h50 :: H2 7
theorem k50 : FnOK Tryz.prog 50 Tryz.f50 := ⟨Tryz.func50, rfl, by kernel_rfl⟩

theorem g50m_inv {ds es : List D} {r : AV} {h' : List (Option Ent)} (hg : g50m ds es = some (r, h')) : ∃ e y n, ds = [e, y] ∧ es = [n] ∧ r = dat 4 (.lit (.bool (mayAll 7 e 1 (intD n)).1)) ∧
    h' = [some ⟨3, .lit (.int .i64 (mayAll 7 e 1 (intD n)).2), 0, none⟩] := by
  unfold g50m at hg
  split at hg
  · injection hg with hg
    injection hg with h1 h2
    exact ⟨_, _, _, rfl, rfl, h1.symm, h2.symm⟩
  · cases hg
theorem g50c_inv {ds es : List D} {r : AV} {h' : List (Option Ent)} (hg : g50c ds es = some (r, h')) : ∃ e y u l, ds = [e, y] ∧ es = [u, l] ∧ r = dat 4 (.lit (.bool true)) ∧
    h' = [some ⟨25, .nil, 0, some (bxp (OID + 1) 25)⟩, some ⟨25, .slice (elemsD l ++ colsK 7 e) [], 1, none⟩] := by
  unfold g50c at hg
  split at hg
  · injection hg with hg
    injection hg with h1 h2
    exact ⟨_, _, _, _, rfl, rfl, h1.symm, h2.symm⟩
  · cases hg

theorem c50m : ∀ args hh r h', preH a50m b50m q50m args hh = true → entH a50m b50m g50m args hh = some (r, h') → HCallOK Tryz.prog 50 args hh r h' :=
  entH_ok rfl rfl fun ds es r h' hq hg => by
    obtain ⟨e, y, n, rfl, rfl, rfl, rfl⟩ := g50m_inv hg
    refine HCallOK.typed k50.ex fun ht he => ?_
    obtain ⟨_, t2⟩ := he ⟨3, n, 0, none⟩ (by simp [fillE, b50m]) rfl rfl
    obtain ⟨q, rfl, hq2⟩ := ty3' t2
    have hpre : mayPre 7 1 q = true := hq
    refine fnH_ok hm (envH2 7) k50 ((t50_m 1 e q).trans ?_)
    rw [hpre]
    rfl
theorem c50c : ∀ args hh r h', preH a50c b50c q50c args hh = true → entH a50c b50c g50c args hh = some (r, h') → HCallOK Tryz.prog 50 args hh r h' :=
  entH_ok rfl rfl fun ds es r h' hq hg => by
    obtain ⟨e, y, u, l, rfl, rfl, rfl, rfl⟩ := g50c_inv hg
    refine row_slice k50.ex (e := ⟨25, l, 4, none⟩) (by simp [fillE, b50c]) (by simp) ?_
    rintro ⟨es, hes⟩
    have hes : l = .slice es [] := hes
    subst hes
    have hpre : colsPre 7 e 1 es = true := hq
    refine fnH_ok hm (envH2 7) k50 ((t50_c 1 e es).trans ?_)
    rw [hpre]
    rfl
theorem envH3 : EnvOK Tryz.prog (envH U2 H3) := envOK_consH (envH2 7) (fun args hh r h' hp hd => by
      have hp : (bif hh.length == 1 then preH a50m b50m q50m args hh else preH a50c b50c q50c args hh) = true := hp
      have hd : (bif hh.length == 1 then entH a50m b50m g50m args hh else entH a50c b50c g50c args hh) = some (r, h') := hd
      cases hlen : (hh.length == 1) with
      | true =>
        rw [hlen, cond_true] at hp hd
        exact c50m args hh r h' hp hd
      | false =>
        rw [hlen, cond_false] at hp hd
        exact c50c args hh r h' hp hd)

/-! ### Sort and compact -/
def a48 : List AV := [bxp OID 25]
def q48 (args : List AV) (h : List Ent) : Bool := allA a48 args && (match h with | [e] => e.ty == 25 && e.c.isNone && (e.row == 3 || e.row == 4) | _ => false)
def h48 : HEnt := (48, 0, fun args h => q48 args h && decide ((elemsD (h.getD 0 ⟨0, .nil, 0, none⟩).d).length ≤ 1000000), fun args h => match h with | [e] => some (tupA [] (.agg []), [some ⟨25, .slice (sortD (elemsD e.d)) [], e.row, none⟩]) | _ => none)
def h49 : HEnt := (49, 25, fun args h => q48 args h, fun args h => match h with | [e] => some (bxp OID 25, [some ⟨25, .slice (compD (elemsD e.d)) [], if e.row == 3 then 2 else 1, none⟩]) | _ => none)
theorem k48 : FnOK Tryz.prog 48 Tryz.f48 := ⟨Tryz.func48, rfl, by kernel_rfl⟩
theorem k49 : FnOK Tryz.prog 49 Tryz.f49 := ⟨Tryz.func49, rfl, by kernel_rfl⟩
theorem cells27 : Tryz.prog.cellsOf 25 = 1 := by kernel_rfl
theorem cells3 : Tryz.prog.cellsOf 3 = 1 := by kernel_rfl
theorem q48_inv {args : List AV} {h : List Ent} (hq : q48 args h = true) : args = [bxp OID 25] ∧ ∃ e : Ent, h = [e] ∧ e.ty = 25 ∧ e.c = none ∧ (e.row = 3 ∨ e.row = 4) := by
  unfold q48 at hq
  rw [Bool.and_eq_true] at hq
  refine ⟨?_, ?_⟩
  · have ha := allA_eq hq.1 (fun t ht _ => by
      rcases List.mem_singleton.1 ht with rfl
      rfl)
    have hl : args.length = 1 := by
      have h1 := hq.1
      match args, h1 with
      | [], h1 => cases h1
      | [_], _ => rfl
      | _ :: _ :: _, h1 => simp [allA, a48] at h1
    match args, hl with
    | [x], _ => exact ha
  · match h, hq.2 with
    | [e], h2 =>
      simp only [Bool.and_eq_true, beq_iff_eq, Bool.or_eq_true, Option.isNone_iff_eq_none] at h2
      exact ⟨e, rfl, h2.1.1, h2.1.2, h2.2⟩
theorem c48 : ∀ args hh r h', h48.2.2.1 args hh = true → h48.2.2.2 args hh = some (r, h') → HCallOK Tryz.prog 48 args hh r h' := by
  intro args hh r h' hp hd
  have hp : (q48 args hh && decide ((elemsD (hh.getD 0 ⟨0, .nil, 0, none⟩).d).length ≤ 1000000)) = true := hp
  rw [Bool.and_eq_true] at hp
  obtain ⟨rfl, e, rfl, h1, h2, h3⟩ := q48_inv hp.1
  have hlen : (elemsD e.d).length ≤ 1000000 := by
    have := hp.2
    simpa using this
  have hd : some (tupA [] (.agg []), [some (⟨25, .slice (sortD (elemsD e.d)) [], e.row, none⟩ : Ent)]) = some (r, h') := hd
  rw [Option.some.injEq, Prod.mk.injEq] at hd
  rw [← hd.1, ← hd.2]
  exact sort_ok k48.ex (fun blk off cap zs w a b c => Tryz.slices_Sort_int blk off cap zs w a b c) (fun p cap w => Tryz.slices_Sort_int_none p cap w) u27 cells27 u3 cells3 h1 h2 h3 hlen
theorem c49 : ∀ args hh r h', h49.2.2.1 args hh = true → h49.2.2.2 args hh = some (r, h') → HCallOK Tryz.prog 49 args hh r h' := by
  intro args hh r h' hp hd
  have hp : q48 args hh = true := hp
  obtain ⟨rfl, e, rfl, h1, h2, h3⟩ := q48_inv hp
  have hd : some (bxp OID 25, [some (⟨25, .slice (compD (elemsD e.d)) [], if e.row == 3 then 2 else 1, none⟩ : Ent)]) = some (r, h') := hd
  rw [Option.some.injEq, Prod.mk.injEq] at hd
  rw [← hd.1, ← hd.2]
  exact compact_ok k49.ex (fun blk off cap zs w a b c => Tryz.slices_Compact_int blk off cap zs w a b c) (fun p cap w => Tryz.slices_Compact_int_empty p cap w) u27 cells27 u3 cells3 h1 h2 h3
def H4 : HTab := h49 :: h48 :: H3
theorem envH4 : EnvOK Tryz.prog (envH U2 H4) := envOK_consH (envOK_consH envH3 c48) c49

def e25 : FuncId × TypeId × (List AV → Bool) × (List AV → Option D) := (25, 4, yes, ent [35] (f1 fun x => some (.lit (.bool (mayE x)))))
def U3 : Tab := e25 :: U2
end X
end Go.Proofs.YtjgnknkbohlopaaGreat

namespace Go.Proofs.YtjgnknkbohlopaaGreat
namespace X
open Go.Ev
set_option linter.unusedVariables false
/- roadbook/expr.May -/
def t25_h : Hints := fun _ =>  none
theorem t25 (N : Nat) (x0 : D) : evFn Tryz.prog (envH U2 H3) t25_h N Tryz.f25 [dat 35 x0] =
  bif mayPre 7 1 0 then
    some (dat 4 (.lit (.bool ((mayAll 7 x0 1 0).1))))
  else none := by kernel_rfl

/- roadbook/expr.Cols -/
def t28_h : Hints := fun _ =>  none
theorem t28 (N : Nat) (x0 : D) : evFn Tryz.prog (envH U3 H4) t28_h N Tryz.f28 [dat 35 x0] =
  bif (!(mayE x0)) then
    some (dat 25 (.slice [] []))
  else bif colsPre 7 x0 1 [] then
      bif decide (([] ++ colsK 7 x0).length ≤ 1000000) then
        some (dat 25 (.slice (compD (sortD ([] ++ colsK 7 x0))) []))
      else none
    else none := by kernel_rfl

end X
end Go.Proofs.YtjgnknkbohlopaaGreat

namespace Go.Proofs.YtjgnknkbohlopaaGreat
namespace X
open Go.Ev
set_option linter.unusedVariables false
set_option linter.unusedSimpArgs false

theorem k25 : FnOK Tryz.prog 25 Tryz.f25 := ⟨Tryz.func25, rfl, by kernel_rfl⟩
theorem c25 : ∀ args d, e25.2.2.2 args = some d → CallOK Tryz.prog 25 args (mkRes Tryz.prog 4 d) :=
  ent1 k25 fun x d h _ => by
    cases h
    rw [n26]
    refine fn_ok hm envH3 k25 ((t25 1 x).trans ?_)
    rw [m4]
    rfl
theorem envU3 : EnvOK Tryz.prog (envH U3 []) := envOK_cons envU2 c25
theorem envU3H4 : EnvOK Tryz.prog (envH U3 H4) := envOK_cons envH4 c25

/-! ### What may be has columns that are few -/
theorem goL_count {g : D → Int → Bool × Int} {c : D → List D} (hg : ∀ p m, (g p m).1 = true → m + ((c p).length : Int) ≤ (g p m).2) : ∀ (l : List D) (m : Int), (goL g l m).1 = true → m + ((l.flatMap c).length : Int) ≤ (goL g l m).2
  | [], m, _ => by simp [goL]
  | p :: l, m, h => by
    rw [goL_cons] at h ⊢
    cases hp : (g p m).1 with
    | false => rw [hp] at h; cases h
    | true =>
      rw [hp, cond_true] at h
      rw [cond_true, List.flatMap_cons, List.length_append]
      have h1 := hg p m hp
      have h2 := goL_count hg l _ h
      omega
theorem goL_all {g : D → Int → Bool × Int} : ∀ (l : List D) (m : Int), (goL g l m).1 = true → ∀ p ∈ l, ∃ k, (g p k).1 = true
  | [], m, _ => by simp
  | p :: l, m, h => by
    rw [goL_cons] at h
    cases hp : (g p m).1 with
    | false => rw [hp] at h; cases h
    | true =>
      rw [hp, cond_true] at h
      intro q hq
      rcases List.mem_cons.1 hq with rfl | hq
      · exact ⟨m, hp⟩
      · exact goL_all l _ h q hq
theorem mayAll_ok : ∀ (K : Nat) (e : D) (deep n : Int), (mayAll K e deep n).1 = true → okK K e = true
  | 0, e, deep, n, h => by cases h
  | K + 1, e, deep, n, h => by
    rw [mayAll_succ] at h
    cases hs : seeMay e deep n with
    | false => rw [hs] at h; cases h
    | true =>
      rw [hs, cond_true] at h
      rw [okK_succ, (see_true hs).2.2, Bool.true_and, List.all_eq_true]
      intro p hp
      obtain ⟨k, hk⟩ := goL_all _ _ h p hp
      exact mayAll_ok K p _ k hk
theorem mayAll_count : ∀ (K : Nat) (e : D) (deep n : Int), (mayAll K e deep n).1 = true → n + ((colsK K e).length : Int) ≤ (mayAll K e deep n).2
  | 0, e, deep, n, h => by cases h
  | K + 1, e, deep, n, h => by
    rw [mayAll_succ] at h ⊢
    cases hs : seeMay e deep n with
    | false => rw [hs] at h; cases h
    | true =>
      rw [hs, cond_true] at h
      rw [cond_true, colsK_succ, List.length_append]
      have h1 := goL_count (c := colsK K) (fun p m => mayAll_count K p (deep + 1) m) _ _ h
      have h2 : (bif opI e == 1 then [litI (colI e)] else []).length ≤ 1 := by cases (opI e == 1) <;> simp
      omega
theorem mayE_ok {e : D} (h : mayE e = true) : okK 7 e = true := mayAll_ok 7 e 1 0 h
theorem mayE_cols {e : D} (h : mayE e = true) : (colsK 7 e).length ≤ 30 := by
  have h1 := mayAll_count 7 e 1 0 h
  have h2 := mayAll_bound 7 e 1 0 (by omega) (by omega) h
  omega
theorem mayE_pre {e : D} (h : mayE e = true) : colsPre 7 e 1 [] = true := by
  simp only [colsPre, Bool.and_eq_true, decide_eq_true_eq]
  have := mayE_cols h
  exact ⟨⟨⟨mayE_ok h, by omega⟩, by omega⟩, by simp; omega⟩

def e28 : FuncId × TypeId × (List AV → Bool) × (List AV → Option D) := (28, 25, yes, ent [35] (f1 fun x => some (.slice (colsE x) [])))
theorem k28 : FnOK Tryz.prog 28 Tryz.f28 := ⟨Tryz.func28, rfl, by kernel_rfl⟩
theorem c28 : ∀ args d, e28.2.2.2 args = some d → CallOK Tryz.prog 28 args (mkRes Tryz.prog 25 d) :=
  ent1 k28 fun x d h _ => by
    cases h
    rw [n26]
    refine fn_ok hm envU3H4 k28 ((t28 1 x).trans ?_)
    rw [m27]
    unfold colsE
    cases hmay : mayE x with
    | false => rfl
    | true =>
      have hl := mayE_cols hmay
      have hd : decide (([] ++ colsK 7 x).length ≤ 1000000) = true := by simp; omega
      rw [mayE_pre hmay, hd]
      rfl
def U4 : Tab := e28 :: U3
theorem envU4 : EnvOK Tryz.prog (envH U4 []) := envOK_cons envU3 c28

/-! ### Eval, by levels -/
end X
end Go.Proofs.YtjgnknkbohlopaaGreat
