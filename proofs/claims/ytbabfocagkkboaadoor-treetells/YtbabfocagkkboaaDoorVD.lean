/- What the functions of layer 4 answer, in plain data. Nothing here is trusted. -/
import Derived.Test.YtbabfocagkkboaaDoorV2
namespace Go.Ev
set_option linter.unusedVariables false
set_option linter.unusedSimpArgs false

/-! ### Types, read -/
section
variable {P : Program}
theorem ty_slice {n : Nat} {t e : TypeId} {x : D} (h : Ty P n t x) (hu : P.underlying t = some (.slice e)) : ∃ m es, x = .slice es [] ∧ es.length ≤ maxLen ∧ ∀ y ∈ es, Ty P m e y := by
  cases n with
  | zero => exact h.elim
  | succ n =>
    unfold Ty at h
    rw [hu] at h
    split at h <;> try (exact h.elim)
    all_goals try (simp_all; done)
    rename_i e es sp heq
    cases heq
    obtain ⟨rfl, hl, hp⟩ := h
    exact ⟨n, es, rfl, hl, hp⟩
theorem ty_struct1 {n : Nat} {t : TypeId} {f : Field} {x : D} (h : Ty P n t x) (hu : P.underlying t = some (.struct #[f])) : ∃ m a, x = .agg [a] ∧ Ty P m f.type a := by
  cases n with
  | zero => exact h.elim
  | succ n =>
    unfold Ty at h
    rw [hu] at h
    split at h <;> try (exact h.elim)
    all_goals try (simp_all; done)
    rename_i fs ps heq
    cases heq
    obtain ⟨hl, hp⟩ := h
    have h0 := hp 0 f rfl
    match ps, hl, h0 with
    | [a], _, h0 => exact ⟨n, a, rfl, h0⟩
theorem ty_struct2 {n : Nat} {t : TypeId} {f g : Field} {x : D} (h : Ty P n t x) (hu : P.underlying t = some (.struct #[f, g])) : ∃ m a b, x = .agg [a, b] ∧ Ty P m f.type a ∧ Ty P m g.type b := by
  cases n with
  | zero => exact h.elim
  | succ n =>
    unfold Ty at h
    rw [hu] at h
    split at h <;> try (exact h.elim)
    all_goals try (simp_all; done)
    rename_i fs ps heq
    cases heq
    obtain ⟨hl, hp⟩ := h
    have h0 := hp 0 f rfl
    have h1 := hp 1 g rfl
    match ps, hl, h0, h1 with
    | [a, b], _, h0, h1 => exact ⟨n, a, b, rfl, h0, h1⟩
/-- Whichever structs are held field by field: what is known of functions is the same. -/
theorem envOK_S {env : Env} (h : EnvOK P env) (l : List (Nat × Nat)) : EnvOK P (envS env l) := ⟨h.p, h.h, h.r, h.f⟩
def f4 (F : D → D → D → D → Option D) : List D → Option D | [x, y, z, u] => F x y z u | _ => none
theorem ent4 {f : FuncId} {fn : Func} {t t1 t2 t3 t4 : TypeId} {F : D → D → D → D → Option D} (hf : FnOK P f fn) (h : ∀ x y z u d, F x y z u = some d → (∃ n, Ty P n t1 x) → (∃ n, Ty P n t2 y) → (∃ n, Ty P n t3 z) → (∃ n, Ty P n t4 u) →
      CallOK P f [dat t1 (normD P t1 x), dat t2 (normD P t2 y), dat t3 (normD P t3 z), dat t4 (normD P t4 u)] (mkRes P t d)) :
    ∀ args d, ent [t1, t2, t3, t4] (f4 F) args = some d → CallOK P f args (mkRes P t d) :=
  ent_ok fun ds d hl hd => match ds, hl, hd with
    | [x, y, z, u], _, hd => CallOK.typed hf.ex (mk_tag t d) fun hty => (h x y z u d hd (hty (dat t1 x) (by simp)) (hty (dat t2 y) (by simp)) (hty (dat t3 z) (by simp)) (hty (dat t4 u) (by simp))).norm
end

/-! ### Small words -/
def emptyL (l : List D) : Bool := l.isEmpty
theorem emptyL_eq {l : List D} (h : emptyL l = true) : l = [] := List.isEmpty_iff.1 h
theorem lt_not (a b : Int) : decide (a < b) = !decide (b ≤ a) := by by_cases h : b ≤ a <;> simp [h] <;> omega
theorem gt_not (a b : Int) : decide (a > b) = !decide (a ≤ b) := by by_cases h : a ≤ b <;> simp [h] <;> omega
theorem ge_not (a b : Int) : decide (a ≥ b) = decide (b ≤ a) := rfl
theorem dT {p : Prop} [Decidable p] (h : p) : decide p = true := decide_eq_true h
theorem dF {p : Prop} [Decidable p] (h : ¬ p) : decide p = false := decide_eq_false h

def belowB (n e : Int) : Bool := decide (0 ≤ n) && decide (n < e)
theorem below_iff {n e : Int} : belowB n e = true ↔ 0 ≤ n ∧ n < e := by unfold belowB; rw [Bool.and_eq_true, decide_eq_true_eq, decide_eq_true_eq]
theorem below_not {n e : Int} : belowB n e = false ↔ ¬ (0 ≤ n ∧ n < e) := by rw [← below_iff, Bool.not_eq_true]
def defC (t : D) : Int := intD (fieldD t 0)
def defR (t : D) : Int := intD (fieldD t 1)
def defD (c r : Int) : D := .agg [litI c, litI r]
def mayDef (t : D) : Bool := decide (1 ≤ defC t) && decide (defC t ≤ 4) && decide (1 ≤ defR t) && decide (defR t ≤ 1000000)
theorem mayDef_iff {t : D} : mayDef t = true ↔ 1 ≤ defC t ∧ defC t ≤ 4 ∧ 1 ≤ defR t ∧ defR t ≤ 1000000 := by
  unfold mayDef
  simp only [Bool.and_eq_true, decide_eq_true_eq, and_assoc]
def orZeroD (t : D) : D := bif mayDef t then t else defD 0 0
theorem orZero_zero (t : D) : ((intD (fieldD (orZeroD t) 0) == 0) && ((intD (fieldD (orZeroD t) 1) == 0) && true)) = !mayDef t := by
  unfold orZeroD
  cases h : mayDef t with
  | false => rfl
  | true =>
    have := (mayDef_iff.1 h).1
    have e : (intD (fieldD t 0) == 0) = false := by
      rw [beq_eq_false_iff_ne]
      unfold defC at this
      omega
    rw [cond_true, e]
    rfl
/-- What a table is asked, one by one. -/
theorem mayDef_tree {ρ : Type} (t : D) (A B : ρ) :
    (bif ((decide ((intD (fieldD t 0)) < 1)) == false) then
      bif ((decide ((intD (fieldD t 0)) > 4)) == false) then
        bif ((decide ((intD (fieldD t 1)) < 1)) == false) then
          bif decide ((intD (fieldD t 1)) > 1000000) then A else B
        else A
      else A
    else A) = bif !mayDef t then A else B := by
  unfold mayDef defC defR
  rw [lt_not, gt_not, lt_not, gt_not]
  generalize decide (1 ≤ intD (fieldD t 0)) = a
  generalize decide (intD (fieldD t 0) ≤ 4) = b
  generalize decide (1 ≤ intD (fieldD t 1)) = c
  generalize decide (intD (fieldD t 1) ≤ 1000000) = d
  cases a <;> cases b <;> cases c <;> cases d <;> rfl
def catD (ts : List D) : D := .agg [.slice ts []]
def tabs (c : D) : List D := elemsD (fieldD c 0)
theorem tabs_cat (ts : List D) : elemsD (fieldD (catD ts) 0) = ts := rfl
def mayCat (c : D) : Bool := decide (1 ≤ (tabs c).length) && decide ((tabs c).length ≤ 4) && (tabs c).all mayDef
theorem mayCat_iff {c : D} : mayCat c = true ↔ 1 ≤ (tabs c).length ∧ (tabs c).length ≤ 4 ∧ ∀ t ∈ tabs c, mayDef t = true := by
  unfold mayCat
  simp only [Bool.and_eq_true, decide_eq_true_eq, List.all_eq_true, and_assoc]
def catTwo : D := catD [defD 2 100, defD 1 10]
def dataTwo : D := catD [.slice [.slice [vv 0 1, vv 0 2] [], .slice [vv 0 3, vv 0 4] []] [], .slice [.slice [vv 0 4] []] []]
def fewRow (r : D) : Bool := decide (((elemsD r).length : Int) ≤ 20)
def fewRows (t : D) : Bool := decide (((elemsD t).length : Int) ≤ 20) && (elemsD t).all fewRow
def fewData (d : D) : Bool := decide (((tabs d).length : Int) ≤ 10) && (tabs d).all fewRows
def colN (occ col : Int) : Int := bif belowB occ 4 && belowB col 4 then occ * 4 + col else -1
theorem colN_in {a b : Int} (h1 : 0 ≤ a ∧ a < 4) (h2 : 0 ≤ b ∧ b < 4) : colN a b = a * 4 + b := by
  unfold colN
  rw [below_iff.2 h1, below_iff.2 h2]
  rfl
theorem colN_out {a b : Int} (h : ¬ ((0 ≤ a ∧ a < 4) ∧ (0 ≤ b ∧ b < 4))) : colN a b = -1 := by
  unfold colN
  have : (belowB a 4 && belowB b 4) = false := by
    rw [← Bool.not_eq_true, Bool.and_eq_true, below_iff, below_iff]
    exact h
  rw [this]
  rfl
def splitA (id : Int) : Int := bif belowB id 16 then id.tdiv 4 else 0
def splitB (id : Int) : Int := bif belowB id 16 then id.tmod 4 else 0
theorem split_in {z : Int} (h : 0 ≤ z ∧ z < 16) : splitA z = z / 4 ∧ splitB z = z % 4 := by
  unfold splitA splitB
  rw [below_iff.2 h, cond_true, cond_true, Int.tdiv_eq_ediv_of_nonneg h.1, Int.tmod_eq_emod_of_nonneg h.1]
  exact ⟨rfl, rfl⟩
theorem split_out {z : Int} (h : ¬ (0 ≤ z ∧ z < 16)) : splitA z = 0 ∧ splitB z = 0 := by
  unfold splitA splitB
  rw [below_not.2 h]
  exact ⟨rfl, rfl⟩
def newCat (ts : List D) : D := bif mayCat (catD ts) then catD ts else catD []
def sameCat (a b : D) : Bool := (tabs a).map pairI == (tabs b).map pairI
def keepAll (b : D) : D := bagD (bCols b) (bRows b)
def seenCol (occ : Int) (i : Nat) : D := litI (colN occ (i : Int))
def seenCols (n : Nat) (occ : Int) : List D := (List.range n).map (seenCol occ)
def seenBag (t : D) (rows : List D) (occ : Int) : D := bagD (seenCols (defC t).toNat occ) rows
def fitsRow (t r : D) : Bool := ((elemsD r).length == (defC t).toNat) && (elemsD r).all mayB
def fitsTab (t rows : D) : Bool := decide (((elemsD rows).length : Int) ≤ 8) && (elemsD rows).all (fitsRow t)
def fitsD (c d : D) : Bool := mayCat c && (((tabs d).length == (tabs c).length) && !(List.range' 0 (tabs c).length).any fun i => !fitsTab ((tabs c).getD i .nil) ((tabs d).getD i .nil))
theorem fits_iff {c d : D} : fitsD c d = true ↔ mayCat c = true ∧ (tabs d).length = (tabs c).length ∧ ∀ i, i < (tabs c).length → fitsTab ((tabs c).getD i .nil) ((tabs d).getD i .nil) = true := by
  unfold fitsD
  rw [Bool.and_eq_true, Bool.and_eq_true, beq_iff_eq, Bool.not_eq_true', ← Bool.not_eq_true, List.any_eq_true]
  refine and_congr Iff.rfl (and_congr Iff.rfl ⟨fun h i hi => ?_, fun h ⟨i, hi, hh⟩ => ?_⟩)
  · cases hf : fitsTab ((tabs c).getD i .nil) ((tabs d).getD i .nil) with
    | true => rfl
    | false => exact absurd ⟨i, by simpa using hi, by rw [hf]; rfl⟩ h
  · rw [h i (by simpa using hi)] at hh
    cases hh
def ofOK (c d : D) (table occ : Int) : Bool := fitsD c d && (belowB table ((tabs c).length : Int) && belowB occ 4)
def ofBag (c d : D) (table occ : Int) : D := bif ofOK c d table occ then seenBag ((tabs c).getD table.toNat .nil) (elemsD ((tabs d).getD table.toNat .nil)) occ else bagD [] []

theorem seenCols_len (n : Nat) (occ : Int) : (seenCols n occ).length = n := by unfold seenCols; simp
/-- An occurrence's columns may be. -/
theorem seen_cols {n : Nat} {occ : Int} (hn : n ≤ 4) (h : 0 ≤ occ ∧ occ < 4) : colsMayB (seenCols n occ) = true := by
  have hn' : n = 0 ∨ n = 1 ∨ n = 2 ∨ n = 3 ∨ n = 4 := by omega
  have ho : occ = 0 ∨ occ = 1 ∨ occ = 2 ∨ occ = 3 := by omega
  rcases hn' with rfl | rfl | rfl | rfl | rfl <;> rcases ho with rfl | rfl | rfl | rfl <;> decide
/-- Rows that fit a table make a bag that may be, and others none. -/
theorem seen_may {t : D} {rows : List D} {occ : Int} (ht : mayDef t = true) (hr : rows.length ≤ 8) (h : 0 ≤ occ ∧ occ < 4) : mayBagB (seenBag t rows occ) = rows.all (fitsRow t) := by
  obtain ⟨h1, h2, _, _⟩ := mayDef_iff.1 ht
  unfold mayBagB
  have e1 : colsMayB (bCols (seenBag t rows occ)) = true := seen_cols (by omega) h
  have e2 : decide ((bRows (seenBag t rows occ)).length ≤ 5000) = true := dT (show rows.length ≤ 5000 by omega)
  rw [e1, e2, Bool.true_and, Bool.true_and]
  unfold rowsMayB
  show rows.all (fun r => ((elemsD r).length == (seenCols (defC t).toNat occ).length) && (elemsD r).all mayB) = _
  rw [seenCols_len]
  rfl
theorem seen_sort {t : D} {rows : List D} {occ : Int} (ht : mayDef t = true) (hr : fitsTab t (.slice rows []) = true) : sortOK (seenBag t rows occ) = true := by
  obtain ⟨h1, h2, _, _⟩ := mayDef_iff.1 ht
  unfold fitsTab at hr
  rw [Bool.and_eq_true, decide_eq_true_eq, List.all_eq_true] at hr
  obtain ⟨a, b⟩ := hr
  have a : (rows.length : Int) ≤ 8 := a
  simp only [sortOK, Bool.and_eq_true, decide_eq_true_eq, List.all_eq_true]
  refine ⟨⟨?_, ?_⟩, fun r hm => ?_⟩
  · show rows.length ≤ _
    omega
  · show (seenCols _ _).length ≤ _
    rw [seenCols_len]
    omega
  · have := b r hm
    unfold fitsRow at this
    rw [Bool.and_eq_true, beq_iff_eq] at this
    omega

end Go.Ev
