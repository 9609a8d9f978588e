/- Layer 2: through. Nothing here is trusted. -/
import Derived.Test.YtochjfimogijjaaWT5
namespace Go.Proofs.Ytochjfimogijjaa
open Go.Ev
set_option linter.unusedVariables false
set_option linter.unusedSimpArgs false

def a27m : List AV := [dat 26 .nil, clo 30 28 [OID]]
def a27c : List AV := [dat 26 .nil, clo 30 34 [OID]]
def b27m : List Ent := [⟨3, .nil, 0, none⟩]
def b27c : List Ent := [⟨27, .nil, 0, some (bxp (OID + 1) 27)⟩, ⟨27, .nil, 4, none⟩]
def q27m : List D → List D → Bool := fun ds es => mayPre 7 1 (intD (es.getD 0 .nil))
def q27c : List D → List D → Bool := fun ds es => colsPre 7 (ds.getD 0 .nil) 1 (elemsD (es.getD 1 .nil))
def g27m : List D → List D → HRes
  | [e, _], [n] => some (dat 4 (.lit (.bool (mayAll 7 e 1 (intD n)).1)), [some ⟨3, .lit (.int .i64 (mayAll 7 e 1 (intD n)).2), 0, none⟩])
  | _, _ => none
def g27c : List D → List D → HRes
  | [e, _], [_, l] => some (dat 4 (.lit (.bool true)), [some ⟨27, .nil, 0, some (bxp (OID + 1) 27)⟩, some ⟨27, .slice (elemsD l ++ colsK 7 e) [], 1, none⟩])
  | _, _ => none
def h27 : HEnt := (27, 4, fun args h => bif h.length == 1 then preH a27m b27m q27m args h else preH a27c b27c q27c args h, fun args h => bif h.length == 1 then entH a27m b27m g27m args h else entH a27c b27c g27c args h)
def H3 : HTab := h27 :: H2 7
theorem k27 : FnOK Try.prog 27 Try.f27 := ⟨Try.func27, rfl, by kernel_rfl⟩

theorem g27m_inv {ds es : List D} {r : AV} {h' : List (Option Ent)} (hg : g27m ds es = some (r, h')) : ∃ e y n, ds = [e, y] ∧ es = [n] ∧ r = dat 4 (.lit (.bool (mayAll 7 e 1 (intD n)).1)) ∧
    h' = [some ⟨3, .lit (.int .i64 (mayAll 7 e 1 (intD n)).2), 0, none⟩] := by
  unfold g27m at hg
  split at hg
  · injection hg with hg
    injection hg with h1 h2
    exact ⟨_, _, _, rfl, rfl, h1.symm, h2.symm⟩
  · cases hg
theorem g27c_inv {ds es : List D} {r : AV} {h' : List (Option Ent)} (hg : g27c ds es = some (r, h')) : ∃ e y u l, ds = [e, y] ∧ es = [u, l] ∧ r = dat 4 (.lit (.bool true)) ∧
    h' = [some ⟨27, .nil, 0, some (bxp (OID + 1) 27)⟩, some ⟨27, .slice (elemsD l ++ colsK 7 e) [], 1, none⟩] := by
  unfold g27c at hg
  split at hg
  · injection hg with hg
    injection hg with h1 h2
    exact ⟨_, _, _, _, rfl, rfl, h1.symm, h2.symm⟩
  · cases hg

theorem c27m : ∀ args hh r h', preH a27m b27m q27m args hh = true → entH a27m b27m g27m args hh = some (r, h') → HCallOK Try.prog 27 args hh r h' :=
  entH_ok rfl rfl fun ds es r h' hq hg => by
    obtain ⟨e, y, n, rfl, rfl, rfl, rfl⟩ := g27m_inv hg
    refine HCallOK.typed k27.ex fun ht he => ?_
    obtain ⟨_, t2⟩ := he ⟨3, n, 0, none⟩ (by simp [fillE, b27m]) rfl rfl
    obtain ⟨q, rfl, hq2⟩ := ty3' t2
    have hpre : mayPre 7 1 q = true := hq
    refine fnH_ok hm (envH2 7) k27 ((t27_m 1 e q).trans ?_)
    rw [hpre]
    rfl
theorem c27c : ∀ args hh r h', preH a27c b27c q27c args hh = true → entH a27c b27c g27c args hh = some (r, h') → HCallOK Try.prog 27 args hh r h' :=
  entH_ok rfl rfl fun ds es r h' hq hg => by
    obtain ⟨e, y, u, l, rfl, rfl, rfl, rfl⟩ := g27c_inv hg
    refine row_slice k27.ex (e := ⟨27, l, 4, none⟩) (by simp [fillE, b27c]) (by simp) ?_
    rintro ⟨es, hes⟩
    have hes : l = .slice es [] := hes
    subst hes
    have hpre : colsPre 7 e 1 es = true := hq
    refine fnH_ok hm (envH2 7) k27 ((t27_c 1 e es).trans ?_)
    rw [hpre]
    rfl
theorem envH3 : EnvOK Try.prog (envH U2 H3) := envOK_consH (envH2 7) (fun args hh r h' hp hd => by
      have hp : (bif hh.length == 1 then preH a27m b27m q27m args hh else preH a27c b27c q27c args hh) = true := hp
      have hd : (bif hh.length == 1 then entH a27m b27m g27m args hh else entH a27c b27c g27c args hh) = some (r, h') := hd
      cases hlen : (hh.length == 1) with
      | true =>
        rw [hlen, cond_true] at hp hd
        exact c27m args hh r h' hp hd
      | false =>
        rw [hlen, cond_false] at hp hd
        exact c27c args hh r h' hp hd)

/-! ### Sort and compact -/
def a35 : List AV := [bxp OID 27]
def q35 (args : List AV) (h : List Ent) : Bool := allA a35 args && (match h with | [e] => e.ty == 27 && e.c.isNone && (e.row == 3 || e.row == 4) | _ => false)
def h35 : HEnt := (35, 0, fun args h => q35 args h && decide ((elemsD (h.getD 0 ⟨0, .nil, 0, none⟩).d).length ≤ 1000000), fun args h => match h with | [e] => some (tupA [] (.agg []), [some ⟨27, .slice (sortD (elemsD e.d)) [], e.row, none⟩]) | _ => none)
def h36 : HEnt := (36, 27, fun args h => q35 args h, fun args h => match h with | [e] => some (bxp OID 27, [some ⟨27, .slice (compD (elemsD e.d)) [], if e.row == 3 then 2 else 1, none⟩]) | _ => none)
theorem k35 : FnOK Try.prog 35 Try.f35 := ⟨Try.func35, rfl, by kernel_rfl⟩
theorem k36 : FnOK Try.prog 36 Try.f36 := ⟨Try.func36, rfl, by kernel_rfl⟩
theorem cells27 : Try.prog.cellsOf 27 = 1 := by kernel_rfl
theorem cells3 : Try.prog.cellsOf 3 = 1 := by kernel_rfl
theorem q35_inv {args : List AV} {h : List Ent} (hq : q35 args h = true) : args = [bxp OID 27] ∧ ∃ e : Ent, h = [e] ∧ e.ty = 27 ∧ e.c = none ∧ (e.row = 3 ∨ e.row = 4) := by
  unfold q35 at hq
  rw [Bool.and_eq_true] at hq
  refine ⟨?_, ?_⟩
  · have ha := allA_eq hq.1 (fun t ht _ => by
      rcases List.mem_singleton.1 ht with rfl
      rfl)
    have hl : args.length = 1 := by
      have h1 := hq.1
      match args, h1 with
      | [], h1 => cases h1
      | [_], _ => rfl
      | _ :: _ :: _, h1 => simp [allA, a35] at h1
    match args, hl with
    | [x], _ => exact ha
  · match h, hq.2 with
    | [e], h2 =>
      simp only [Bool.and_eq_true, beq_iff_eq, Bool.or_eq_true, Option.isNone_iff_eq_none] at h2
      exact ⟨e, rfl, h2.1.1, h2.1.2, h2.2⟩
theorem c35 : ∀ args hh r h', h35.2.2.1 args hh = true → h35.2.2.2 args hh = some (r, h') → HCallOK Try.prog 35 args hh r h' := by
  intro args hh r h' hp hd
  have hp : (q35 args hh && decide ((elemsD (hh.getD 0 ⟨0, .nil, 0, none⟩).d).length ≤ 1000000)) = true := hp
  rw [Bool.and_eq_true] at hp
  obtain ⟨rfl, e, rfl, h1, h2, h3⟩ := q35_inv hp.1
  have hlen : (elemsD e.d).length ≤ 1000000 := by
    have := hp.2
    simpa using this
  have hd : some (tupA [] (.agg []), [some (⟨27, .slice (sortD (elemsD e.d)) [], e.row, none⟩ : Ent)]) = some (r, h') := hd
  rw [Option.some.injEq, Prod.mk.injEq] at hd
  rw [← hd.1, ← hd.2]
  exact sort_ok k35.ex (fun blk off cap zs w a b c => Try.slices_Sort_int blk off cap zs w a b c) (fun p cap w => Try.slices_Sort_int_none p cap w) u27 cells27 u3 cells3 h1 h2 h3 hlen
theorem c36 : ∀ args hh r h', h36.2.2.1 args hh = true → h36.2.2.2 args hh = some (r, h') → HCallOK Try.prog 36 args hh r h' := by
  intro args hh r h' hp hd
  have hp : q35 args hh = true := hp
  obtain ⟨rfl, e, rfl, h1, h2, h3⟩ := q35_inv hp
  have hd : some (bxp OID 27, [some (⟨27, .slice (compD (elemsD e.d)) [], if e.row == 3 then 2 else 1, none⟩ : Ent)]) = some (r, h') := hd
  rw [Option.some.injEq, Prod.mk.injEq] at hd
  rw [← hd.1, ← hd.2]
  exact compact_ok k36.ex (fun blk off cap zs w a b c => Try.slices_Compact_int blk off cap zs w a b c) (fun p cap w => Try.slices_Compact_int_empty p cap w) u27 cells27 u3 cells3 h1 h2 h3
def H4 : HTab := h36 :: h35 :: H3
theorem envH4 : EnvOK Try.prog (envH U2 H4) := envOK_consH (envOK_consH envH3 c35) c36

def e12 : FuncId × TypeId × (List AV → Bool) × (List AV → Option D) := (12, 4, yes, ent [26] (f1 fun x => some (.lit (.bool (mayE x)))))
def U3 : Tab := e12 :: U2
end Go.Proofs.Ytochjfimogijjaa
