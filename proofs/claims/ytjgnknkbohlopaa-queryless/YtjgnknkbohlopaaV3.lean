/- What the functions of layer 5 answer, in plain data. Nothing here is trusted. -/
import Derived.Test.YtjgnknkbohlopaaVX
import Derived.Test.YtjgnknkbohlopaaVD
namespace Go.Ev
set_option linter.unusedVariables false
set_option linter.unusedSimpArgs false

def qOcc (q : D) : List D := elemsD (fieldD q 0)
def qP (q : D) : List D := elemsD (fieldD q 1)
def qBy (q : D) : Int := intD (fieldD q 2)
def qSums (q : D) : List D := elemsD (fieldD q 3)
def qOut (q : D) : List D := elemsD (fieldD q 4)
def qOrd (q : D) : Int := intD (fieldD q 5)

/-! ### Sets -/
def hasS (s p : Int) : Bool := andNotI .i64 p s == 0
def aloneI (o : Int) : Int := shlI .i64 1 o
def ofColI (c : Int) : Int := aloneI (splitA c)
def ofFrom (s : Int) : List D → Int
  | [] => s
  | c :: l => ofFrom (orI .i64 s (ofColI (intD c))) l
def ofE (e : D) : Int := ofFrom 0 (colsE e)
def newB (a b s : Int) : Bool := hasS (orI .i64 a b) s && !hasS a s && !hasS b s
/-- The places of those that are asked for. -/
def plc (f : D → Bool) : List D → Nat → List D
  | [], _ => []
  | e :: es, i => (bif f e then [litI (i : Int)] else []) ++ plc f es (i + 1)
def ownL (q : D) (s : Int) : List D := plc (fun e => hasS s (ofE e)) (qP q) 0
def newL (q : D) (a b : Int) : List D := plc (fun e => newB a b (ofE e)) (qP q) 0
def halfN : Nat → Int → Int
  | 0, s => s
  | n + 1, s => halfN n (Int.fdiv s (2 ^ min (1 : Int).toNat (IntKind.bits .i64)))
def bitB (set occ : Int) : Bool := andI .i64 (halfN occ.toNat set) 1 == 1

/-! ### What may be asked -/
def tabC (c q : D) (o : Int) : Int := defC ((tabs c).getD (intD ((qOcc q).getD o.toNat .nil)).toNat .nil)
def occMayB (c q : D) : Bool := decide (1 ≤ (qOcc q).length) && decide ((qOcc q).length ≤ 4) && (qOcc q).all fun o => belowB (intD o) ((tabs c).length : Int)
def isColB (c q : D) (x : Int) : Bool := belowB x 16 && (decide (splitA x < ((qOcc q).length : Int)) && decide (splitB x < tabC c q (splitA x)))
def areColB (c q : D) (l : List D) : Bool := l.all fun x => isColB c q (intD x)
def exprB (c q e : D) : Bool := !(colsE e).isEmpty && areColB c q (colsE e)
def exprMayB (c q : D) : Bool := decide ((qP q).length ≤ 6) && (qP q).all (exprB c q)
def dupB (l : List D) : Bool := (List.range' 0 l.length).any fun i => hasB (l.take i) (intD (l.getD i .nil))
def toldB (c q : D) : Bool := (qSums q).isEmpty && (decide (1 ≤ (qOut q).length) && (decide ((qOut q).length ≤ 8) && (areColB c q (qOut q) && (!dupB (qOut q) && (qOrd q == -1 || hasB (qOut q) (qOrd q))))))
def groupsB (c q : D) : Bool := isColB c q (qBy q) && (decide ((qSums q).length ≤ 4) && (areColB c q (qSums q) && ((qOut q).isEmpty && (qOrd q == -1 || qOrd q == qBy q))))
def endB (c q : D) : Bool := bif qBy q == -1 then toldB c q else groupsB c q
def mayQ (c q : D) : Bool := mayCat c && (occMayB c q && (exprMayB c q && endB c q))
def occColsL (c q : D) (set : Int) (o : Nat) : List D := bif hasS set (aloneI (o : Int)) then seenCols (tabC c q (o : Int)).toNat (o : Int) else []
def colsQ (c q : D) (set : Int) : List D := bif mayQ c q then (List.range (qOcc q).length).flatMap (occColsL c q set) else []

/-! ### The examples -/
def colX (c : Int) : D := .agg [litI 1, litI c, .agg [litI 0, litI 0], .slice [] []]
def pairQ : D := .agg [litI 6, litI 0, .agg [litI 0, litI 0], .slice [colX 0, colX 5] []]
def belQ : D := .agg [litI 7, litI 0, .agg [litI 0, litI 0], .slice [colX 8, .agg [litI 0, litI 0, .agg [litI 0, litI 5], .slice [] []]] []]
def oneQ : D := .agg [.slice [litI 0, litI 0, litI 1] [], .slice [pairQ, belQ] [], litI (-1), .slice [] [], .slice [litI 0, litI 8] [], litI 8]
/-! ### Pairs and orders -/
def pairD (x y : Int) : D := .agg [litI x, litI y]
def pairOf (a b : Int) (e : D) : List D :=
  bif pairE e then bif hasS a (ofColI (pairA e)) && hasS b (ofColI (pairB e)) then [pairD (pairA e) (pairB e)]
    else bif hasS a (ofColI (pairB e)) && hasS b (ofColI (pairA e)) then [pairD (pairB e) (pairA e)] else [] else []
def pairsL (q : D) (a b : Int) : List D := (newL q a b).flatMap fun i => pairOf a b ((qP q).getD (intD i).toNat .nil)
def ordOf (e : D) : List D := bif pairE e then [litI (pairA e), litI (pairB e)] else []
def ordCol (c : Int) : List D := bif belowB c 16 then [litI c] else []
def ordRaw (q : D) : List D := [litI (-1)] ++ (qP q).flatMap ordOf ++ ordCol (qBy q) ++ ordCol (qOrd q)
def ordersL (q : D) : List D := compD (sortD (ordRaw q))
def fewQ (fewE : D → Int → Bool) (c q : D) : Bool := decide ((tabs c).length ≤ 10) && decide ((qOcc q).length ≤ 20) && decide ((qP q).length ≤ 8) && decide ((qSums q).length ≤ 20) && decide ((qOut q).length ≤ 20) && (qP q).all fun e => fewE e 60
end Go.Ev

namespace Go.Ev
set_option linter.unusedVariables false
set_option linter.unusedSimpArgs false

def inS (s : Int) (i : Nat) : Bool := (BitVec.ofInt 64 s).getLsbD i
theorem bv_wrap (n : Int) : BitVec.ofInt 64 (IntKind.wrap .i64 n) = BitVec.ofInt 64 n := by
  apply BitVec.eq_of_toInt_eq
  rw [BitVec.toInt_ofInt, BitVec.toInt_ofInt, wrap64_eq]
  simp only [Int.bmod]
  omega
theorem bv_nat (x : BitVec 64) : BitVec.ofInt 64 (x.toNat : Int) = x := by
  rw [BitVec.ofInt_natCast, BitVec.ofNat_toNat, BitVec.setWidth_eq]
theorem inS_and (a b : Int) (i : Nat) : inS (andI .i64 a b) i = (inS a i && inS b i) := by
  unfold inS andI
  rw [bv_wrap]
  show (BitVec.ofInt 64 ((BitVec.ofInt 64 a &&& BitVec.ofInt 64 b).toNat : Int)).getLsbD i = _
  rw [bv_nat, BitVec.getLsbD_and]
theorem inS_or (a b : Int) (i : Nat) : inS (orI .i64 a b) i = (inS a i || inS b i) := by
  unfold inS orI
  rw [bv_wrap]
  show (BitVec.ofInt 64 ((BitVec.ofInt 64 a ||| BitVec.ofInt 64 b).toNat : Int)).getLsbD i = _
  rw [bv_nat, BitVec.getLsbD_or]
theorem inS_zero (i : Nat) : inS 0 i = false := by
  unfold inS
  rw [show BitVec.ofInt 64 0 = 0#64 from rfl, BitVec.getLsbD_zero]
theorem wrap_zero {x : BitVec 64} : IntKind.wrap .i64 (x.toNat : Int) = 0 ↔ x = 0#64 := by
  have h := x.isLt
  rw [wrap64_eq]
  constructor
  · intro hh
    apply BitVec.eq_of_toNat_eq
    simp only [BitVec.toNat_ofNat, Nat.zero_mod]
    omega
  · intro hh
    rw [hh]
    simp
theorem bv_all {x : BitVec 64} : x = 0#64 ↔ ∀ i, x.getLsbD i = false := by
  constructor
  · rintro rfl i
    exact BitVec.getLsbD_zero
  · intro h
    apply BitVec.eq_of_getLsbD_eq
    intro i _
    rw [h i, BitVec.getLsbD_zero]
/-- Is one set a part of the other? -/
theorem hasS_iff {s p : Int} : hasS s p = true ↔ ∀ i, inS p i = true → inS s i = true := by
  unfold hasS andNotI
  rw [beq_iff_eq]
  show IntKind.wrap .i64 ((BitVec.ofInt 64 p &&& ~~~ (BitVec.ofInt 64 s)).toNat : Int) = 0 ↔ _
  rw [wrap_zero, bv_all]
  unfold inS
  refine forall_congr' fun i => ?_
  rw [BitVec.getLsbD_and, BitVec.getLsbD_not]
  by_cases hi : i < 64
  · cases (BitVec.ofInt 64 p).getLsbD i <;> cases (BitVec.ofInt 64 s).getLsbD i <;> simp [hi]
  · have h1 : (BitVec.ofInt 64 p).getLsbD i = false := BitVec.getLsbD_of_ge _ _ (by omega)
    rw [h1]
    simp
/-- Have two sets nothing in common? -/
theorem and_zero {a b : Int} : andI .i64 a b = 0 ↔ ∀ i, ¬ (inS a i = true ∧ inS b i = true) := by
  unfold andI
  show IntKind.wrap .i64 ((BitVec.ofInt 64 a &&& BitVec.ofInt 64 b).toNat : Int) = 0 ↔ _
  rw [wrap_zero, bv_all]
  unfold inS
  refine forall_congr' fun i => ?_
  rw [BitVec.getLsbD_and]
  cases (BitVec.ofInt 64 a).getLsbD i <;> cases (BitVec.ofInt 64 b).getLsbD i <;> simp
theorem inS_alone {o : Int} (h : 0 ≤ o ∧ o < 4) (i : Nat) : inS (aloneI o) i = decide (o = (i : Int)) := by
  have ho : o = 0 ∨ o = 1 ∨ o = 2 ∨ o = 3 := by omega
  unfold inS
  rcases ho with rfl | rfl | rfl | rfl
  · rw [show BitVec.ofInt 64 (aloneI 0) = BitVec.twoPow 64 0 from by decide, BitVec.getLsbD_twoPow, Bool.eq_iff_iff]; simp; omega
  · rw [show BitVec.ofInt 64 (aloneI 1) = BitVec.twoPow 64 1 from by decide, BitVec.getLsbD_twoPow, Bool.eq_iff_iff]; simp; omega
  · rw [show BitVec.ofInt 64 (aloneI 2) = BitVec.twoPow 64 2 from by decide, BitVec.getLsbD_twoPow, Bool.eq_iff_iff]; simp; omega
  · rw [show BitVec.ofInt 64 (aloneI 3) = BitVec.twoPow 64 3 from by decide, BitVec.getLsbD_twoPow, Bool.eq_iff_iff]; simp; omega
theorem split_lt (z : Int) : 0 ≤ splitA z ∧ splitA z < 4 := by
  by_cases h : 0 ≤ z ∧ z < 16
  · rw [(split_in h).1]; omega
  · rw [(split_out h).1]; omega
theorem inS_col (z : Int) (i : Nat) : inS (ofColI z) i = decide (splitA z = (i : Int)) := inS_alone (split_lt z) i
theorem has_alone {s o : Int} (h : 0 ≤ o ∧ o < 4) : hasS s (aloneI o) = inS s o.toNat := by
  rw [Bool.eq_iff_iff, hasS_iff]
  constructor
  · intro hh
    refine hh o.toNat ?_
    rw [inS_alone h, decide_eq_true_eq]
    omega
  · intro hh i hi
    rw [inS_alone h, decide_eq_true_eq] at hi
    have : o.toNat = i := by omega
    rw [← this]
    exact hh
theorem has_col (s z : Int) : hasS s (ofColI z) = inS s (splitA z).toNat := has_alone (split_lt z)
theorem inS_from : ∀ (l : List D) (s : Int) (i : Nat), inS (ofFrom s l) i = (inS s i || l.any fun c => decide (splitA (intD c) = (i : Int)))
  | [], s, i => by simp [ofFrom]
  | c :: l, s, i => by
    unfold ofFrom
    rw [inS_from l, inS_or, inS_col, List.any_cons, Bool.or_assoc]
theorem inS_of (e : D) (i : Nat) : inS (ofE e) i = (colsE e).any fun c => decide (splitA (intD c) = (i : Int)) := by
  unfold ofE
  rw [inS_from, inS_zero, Bool.false_or]
theorem or_small : ∀ (s : Fin 16) (o : Fin 4), 1 ≤ orI .i64 ((s.val : Nat) : Int) (aloneI ((o.val : Nat) : Int)) ∧ orI .i64 ((s.val : Nat) : Int) (aloneI ((o.val : Nat) : Int)) ≤ 15 := by decide
theorem bit_small : ∀ (s : Fin 16) (o : Fin 4), bitB ((s.val : Nat) : Int) ((o.val : Nat) : Int) = inS ((s.val : Nat) : Int) o.val := by decide
theorem all_small : ∀ (s : Fin 16) (o : Fin 4), inS (15 - ((s.val : Nat) : Int)) o.val = !inS ((s.val : Nat) : Int) o.val := by decide
theorem or_in {s z : Int} (h : 0 ≤ s ∧ s ≤ 15) : 1 ≤ orI .i64 s (ofColI z) ∧ orI .i64 s (ofColI z) ≤ 15 := by
  have h2 := split_lt z
  have := or_small ⟨s.toNat, by omega⟩ ⟨(splitA z).toNat, by omega⟩
  have e1 : ((s.toNat : Nat) : Int) = s := by omega
  have e2 : (((splitA z).toNat : Nat) : Int) = splitA z := by omega
  simp only [e1, e2] at this
  exact this
theorem bit_in {s o : Int} (h : 0 ≤ s ∧ s ≤ 15) (ho : 0 ≤ o ∧ o < 4) : bitB s o = inS s o.toNat := by
  have := bit_small ⟨s.toNat, by omega⟩ ⟨o.toNat, by omega⟩
  have e1 : ((s.toNat : Nat) : Int) = s := by omega
  have e2 : ((o.toNat : Nat) : Int) = o := by omega
  simp only [e1, e2] at this
  exact this
theorem all_in {s : Int} {o : Nat} (h : 0 ≤ s ∧ s ≤ 15) (ho : o < 4) : inS (15 - s) o = !inS s o := by
  have := all_small ⟨s.toNat, by omega⟩ ⟨o, ho⟩
  have e1 : ((s.toNat : Nat) : Int) = s := by omega
  simp only [e1] at this
  exact this
theorem from_in : ∀ (l : List D) (s : Int), 0 ≤ s ∧ s ≤ 15 → 0 ≤ ofFrom s l ∧ ofFrom s l ≤ 15
  | [], s, h => h
  | c :: l, s, h => from_in l _ (by have := or_in (z := intD c) h; omega)
theorem from_pos : ∀ (l : List D) (s : Int), 1 ≤ s ∧ s ≤ 15 → 1 ≤ ofFrom s l
  | [], s, h => h.1
  | c :: l, s, h => from_pos l _ (or_in (z := intD c) (by omega))
theorem of_in (e : D) : 0 ≤ ofE e ∧ ofE e ≤ 15 := from_in _ 0 (by omega)
theorem of_pos {e : D} (h : (colsE e).isEmpty = false) : 1 ≤ ofE e := by
  unfold ofE
  cases hl : colsE e with
  | nil => rw [hl] at h; cases h
  | cons c l => exact from_pos l _ (or_in (z := intD c) (by omega))
theorem has_all (e : D) : hasS 15 (ofE e) = true := by
  rw [hasS_iff]
  intro i hi
  rw [inS_of, List.any_eq_true] at hi
  obtain ⟨c, _, hc⟩ := hi
  rw [decide_eq_true_eq] at hc
  have := split_lt (intD c)
  have h4 : i = 0 ∨ i = 1 ∨ i = 2 ∨ i = 3 := by omega
  rcases h4 with rfl | rfl | rfl | rfl <;> decide
theorem of_ex {e : D} (h : (colsE e).isEmpty = false) : ∃ i, inS (ofE e) i = true := by
  cases hl : colsE e with
  | nil => rw [hl] at h; cases h
  | cons c l =>
    have := split_lt (intD c)
    refine ⟨(splitA (intD c)).toNat, ?_⟩
    rw [inS_of, hl, List.any_cons, Bool.or_eq_true]
    left
    rw [decide_eq_true_eq]
    omega
theorem has_none {e : D} (h : (colsE e).isEmpty = false) : hasS 0 (ofE e) = false := by
  rw [← Bool.not_eq_true, hasS_iff]
  intro hh
  obtain ⟨i, hi⟩ := of_ex h
  have := hh i hi
  rw [inS_zero] at this
  cases this

/-! ### Places -/
theorem plc_len (f : D → Bool) : ∀ (es : List D) (i : Nat), (plc f es i).length = es.countP f
  | [], i => rfl
  | e :: es, i => by
    unfold plc
    rw [List.length_append, plc_len f es (i + 1), List.countP_cons]
    cases f e <;> simp <;> omega
theorem plc_congr {f g : D → Bool} : ∀ (es : List D) (i : Nat), (∀ e ∈ es, f e = g e) → plc f es i = plc g es i
  | [], i, h => rfl
  | e :: es, i, h => by
    unfold plc
    rw [h e (List.mem_cons_self ..), plc_congr es (i + 1) fun e' he => h e' (List.mem_cons_of_mem _ he)]
theorem plc_mem {f : D → Bool} {x : D} : ∀ {es : List D} {i : Nat}, x ∈ plc f es i ↔ ∃ k, k < es.length ∧ x = litI ((i + k : Nat) : Int) ∧ f (es.getD k .nil) = true
  | [], i => by simp [plc]
  | e :: es, i => by
    unfold plc
    rw [List.mem_append, plc_mem (es := es) (i := i + 1)]
    constructor
    · rintro (h | ⟨k, hk, hx, hf⟩)
      · cases he : f e with
        | true => rw [he, cond_true, List.mem_singleton] at h; exact ⟨0, by simp, h, he⟩
        | false => rw [he, cond_false] at h; cases h
      · refine ⟨k + 1, by simp; omega, ?_, by simpa using hf⟩
        rw [hx]
        congr 2
        omega
    · rintro ⟨k, hk, hx, hf⟩
      cases k with
      | zero =>
        left
        have hf : f e = true := hf
        rw [hf, cond_true, List.mem_singleton]
        exact hx
      | succ k =>
        right
        refine ⟨k, by simpa using hk, ?_, by simpa using hf⟩
        rw [hx]
        congr 2
        omega
theorem count3 {f g h k : D → Bool} : ∀ (es : List D), (∀ e ∈ es, (bif f e then 1 else 0) + (bif g e then 1 else 0) + (bif h e then 1 else 0) = (bif k e then 1 else 0)) → es.countP f + es.countP g + es.countP h = es.countP k
  | [], _ => rfl
  | e :: es, H => by
    have h1 := H e (List.mem_cons_self ..)
    have h2 := count3 es fun e' he => H e' (List.mem_cons_of_mem _ he)
    rw [List.countP_cons, List.countP_cons, List.countP_cons, List.countP_cons]
    revert h1
    cases f e <;> cases g e <;> cases h e <;> cases k e <;> simp <;> omega
theorem count4 {f g h k : D → Bool} : ∀ (es : List D), (∀ e ∈ es, (bif f e then 1 else 0) + (bif g e then 1 else 0) = (bif h e then 1 else 0) + (bif k e then 1 else 0)) → es.countP f + es.countP g = es.countP h + es.countP k
  | [], _ => rfl
  | e :: es, H => by
    have h1 := H e (List.mem_cons_self ..)
    have h2 := count4 es fun e' he => H e' (List.mem_cons_of_mem _ he)
    rw [List.countP_cons, List.countP_cons, List.countP_cons, List.countP_cons]
    revert h1
    cases f e <;> cases g e <;> cases h e <;> cases k e <;> simp <;> omega
end Go.Ev
namespace Go.Ev
/-! ### Functions bound ahead -/
def bndIs (f t : Nat) : D → Bool
  | .agg [.held (.func (.func g) _ _), .lit (.int _ u), _] => g == f && u == (t : Int)
  | _ => false
def bndArg : D → D
  | .agg [_, _, x] => x
  | _ => .nil
theorem ty_bnd {P : Program} {n : Nat} {t : TypeId} {x : D} {p q : Array TypeId} {r : Bool} {f u : Nat} (hu : P.underlying t = some (.func p q r)) (h : Ty P n t x) (hb : bndIs f u x = true) : ∃ m y, x = bndD f u y ∧ Ty P m u y := by
  cases n with
  | zero => exact h.elim
  | succ n =>
    unfold Ty at h
    rw [hu] at h
    split at h <;> try (exact h.elim)
    all_goals try (simp_all; done)
    · simp [bndIs] at hb
    · obtain ⟨g, t0, y, rfl, hy⟩ := h
      simp only [bndIs, Bool.and_eq_true, beq_iff_eq] at hb
      obtain ⟨rfl, h2⟩ := hb
      have h3 : t0 = u := by first | exact Int.ofNat_inj.1 h2 | exact h2 | simpa using h2
      subst h3
      exact ⟨n, y, rfl, hy⟩
theorem plc_cons (f : D → Bool) (e : D) (es : List D) (i : Nat) : plc f (e :: es) i = (bif f e then [litI (i : Int)] else []) ++ plc f es (i + 1) := rfl
end Go.Ev

namespace Go.Ev
set_option linter.unusedVariables false
set_option linter.unusedSimpArgs false

def b2 (b : Bool) : Nat := bif b then 1 else 0
theorem has_orl {a b s : Int} (h : hasS a s = true) : hasS (orI .i64 a b) s = true := by
  rw [hasS_iff] at h ⊢
  intro i hi
  rw [inS_or, h i hi, Bool.true_or]
theorem has_orr {a b s : Int} (h : hasS b s = true) : hasS (orI .i64 a b) s = true := by
  rw [hasS_iff] at h ⊢
  intro i hi
  rw [inS_or, h i hi, Bool.or_true]
theorem has_not {a b s : Int} (hd : andI .i64 a b = 0) (hs : ∃ i, inS s i = true) (h1 : hasS a s = true) (h2 : hasS b s = true) : False := by
  obtain ⟨i, hi⟩ := hs
  exact and_zero.1 hd i ⟨hasS_iff.1 h1 i hi, hasS_iff.1 h2 i hi⟩
theorem has_orc (a b s : Int) : hasS (orI .i64 a b) s = hasS (orI .i64 b a) s := by
  rw [Bool.eq_iff_iff, hasS_iff, hasS_iff]
  refine forall_congr' fun i => ?_
  rw [inS_or, inS_or, Bool.or_comm]
theorem has_ora (a b d s : Int) : hasS (orI .i64 (orI .i64 a b) d) s = hasS (orI .i64 a (orI .i64 b d)) s := by
  rw [Bool.eq_iff_iff, hasS_iff, hasS_iff]
  refine forall_congr' fun i => ?_
  rw [inS_or, inS_or, inS_or, inS_or, Bool.or_assoc]
theorem and_or {a b d : Int} (h1 : andI .i64 a d = 0) (h2 : andI .i64 b d = 0) : andI .i64 (orI .i64 a b) d = 0 := by
  rw [and_zero] at *
  intro i ⟨h3, h4⟩
  rw [inS_or, Bool.or_eq_true] at h3
  rcases h3 with h3 | h3
  · exact h1 i ⟨h3, h4⟩
  · exact h2 i ⟨h3, h4⟩
theorem and_or' {a b d : Int} (h1 : andI .i64 a b = 0) (h2 : andI .i64 a d = 0) : andI .i64 a (orI .i64 b d) = 0 := by
  rw [and_zero] at *
  intro i ⟨h3, h4⟩
  rw [inS_or, Bool.or_eq_true] at h4
  rcases h4 with h4 | h4
  · exact h1 i ⟨h3, h4⟩
  · exact h2 i ⟨h3, h4⟩
theorem own_new {a b s : Int} (hd : andI .i64 a b = 0) (hs : ∃ i, inS s i = true) : (bif hasS a s then 1 else 0) + (bif hasS b s then 1 else 0) + (bif newB a b s then 1 else 0) = (bif hasS (orI .i64 a b) s then 1 else 0) := by
  have f1 : hasS a s = true → hasS (orI .i64 a b) s = true := has_orl
  have f2 : hasS b s = true → hasS (orI .i64 a b) s = true := has_orr
  have f3 := fun h1 h2 => has_not hd hs h1 h2
  unfold newB
  revert f1 f2 f3
  cases hasS a s <;> cases hasS b s <;> cases hasS (orI .i64 a b) s <;> simp
theorem new_new {a b d s : Int} (h1 : andI .i64 a b = 0) (h2 : andI .i64 a d = 0) (h3 : andI .i64 b d = 0) (hs : ∃ i, inS s i = true) :
    (bif newB a b s then 1 else 0) + (bif newB (orI .i64 a b) d s then 1 else 0) = (bif newB b d s then 1 else 0) + (bif newB a (orI .i64 b d) s then 1 else 0) := by
  have f1 : hasS a s = true → hasS (orI .i64 a b) s = true := has_orl
  have f2 : hasS b s = true → hasS (orI .i64 a b) s = true := has_orr
  have f3 : hasS b s = true → hasS (orI .i64 b d) s = true := has_orl
  have f4 : hasS d s = true → hasS (orI .i64 b d) s = true := has_orr
  have f5 : hasS (orI .i64 a b) s = true → hasS (orI .i64 a (orI .i64 b d)) s = true := fun h => by rw [← has_ora]; exact has_orl h
  have f6 : hasS (orI .i64 b d) s = true → hasS (orI .i64 a (orI .i64 b d)) s = true := has_orr
  have g1 := fun x y => has_not (s := s) (and_or h2 h3) hs x y
  have g2 := fun x y => has_not (s := s) (and_or' h1 h2) hs x y
  unfold newB
  rw [has_ora]
  revert f1 f2 f3 f4 f5 f6 g1 g2
  cases hasS a s <;> cases hasS b s <;> cases hasS d s <;> cases hasS (orI .i64 a b) s <;> cases hasS (orI .i64 b d) s <;> cases hasS (orI .i64 a (orI .i64 b d)) s <;> simp
theorem new_comm (a b s : Int) : newB a b s = newB b a s := by
  unfold newB
  rw [has_orc]
  cases hasS (orI .i64 b a) s <;> cases hasS a s <;> cases hasS b s <;> rfl
theorem intsB_refl (l : List D) : intsB l l = true := by unfold intsB; exact beq_self_eq_true _
theorem expr_ne {c q : D} (h : exprMayB c q = true) {e : D} (he : e ∈ qP q) : (colsE e).isEmpty = false ∧ areColB c q (colsE e) = true := by
  unfold exprMayB at h
  rw [Bool.and_eq_true, List.all_eq_true] at h
  have := h.2 e he
  unfold exprB at this
  rw [Bool.and_eq_true, Bool.not_eq_true'] at this
  exact this
theorem few_len {f : D → Int → Bool} {c q : D} (h : fewQ f c q = true) : (qP q).length ≤ 8 ∧ (qOcc q).length ≤ 20 ∧ (tabs c).length ≤ 10 ∧ (qSums q).length ≤ 20 ∧ (qOut q).length ≤ 20 := by
  unfold fewQ at h
  simp only [Bool.and_eq_true, decide_eq_true_eq] at h
  omega
/-! ### Lengths of what is put together -/
theorem flat3 {α : Type} {f g h : α → List D} : ∀ (l : List α), (∀ x ∈ l, (f x).length + (g x).length = (h x).length) → (l.flatMap f).length + (l.flatMap g).length = (l.flatMap h).length
  | [], _ => rfl
  | x :: l, H => by
    have h1 := H x (List.mem_cons_self ..)
    have h2 := flat3 l fun y hy => H y (List.mem_cons_of_mem _ hy)
    rw [List.flatMap_cons, List.flatMap_cons, List.flatMap_cons, List.length_append, List.length_append, List.length_append]
    omega
theorem flat_le {α : Type} {f : α → List D} {k : Nat} : ∀ (l : List α), (∀ x ∈ l, (f x).length ≤ k) → (l.flatMap f).length ≤ k * l.length
  | [], _ => Nat.zero_le _
  | x :: l, H => by
    have h1 := H x (List.mem_cons_self ..)
    have h2 := flat_le l fun y hy => H y (List.mem_cons_of_mem _ hy)
    rw [List.flatMap_cons, List.length_append, List.length_cons, Nat.mul_add, Nat.mul_one]
    omega
/-- Two sets of the same bits are the same number. -/
theorem set_ext {x y : Int} (hx : inR x = true) (hy : inR y = true) (h : ∀ i, inS x i = inS y i) : x = y := by
  have hb : BitVec.ofInt 64 x = BitVec.ofInt 64 y := BitVec.eq_of_getLsbD_eq fun i _ => h i
  have h1 := congrArg BitVec.toInt hb
  rw [BitVec.toInt_ofInt, BitVec.toInt_ofInt] at h1
  rw [inR_iff] at hx hy
  simp only [Int.bmod] at h1
  omega
theorem countP_not {f : D → Bool} : ∀ (l : List D), (∀ e ∈ l, f e = false) → l.countP f = 0
  | [], _ => rfl
  | e :: l, h => by rw [List.countP_cons, h e (List.mem_cons_self ..), countP_not l fun x hx => h x (List.mem_cons_of_mem _ hx)]; rfl
theorem countP_all {f : D → Bool} : ∀ (l : List D), (∀ e ∈ l, f e = true) → l.countP f = l.length
  | [], _ => rfl
  | e :: l, h => by rw [List.countP_cons, h e (List.mem_cons_self ..), countP_all l fun x hx => h x (List.mem_cons_of_mem _ hx)]; rfl
end Go.Ev

namespace Go.Ev
set_option linter.unusedVariables false
set_option linter.unusedSimpArgs false

def plI (f : D → Bool) (es : List D) (i : Nat) : List Int := (plc f es i).map intD
theorem plI_cons (f : D → Bool) (e : D) (es : List D) (i : Nat) : plI f (e :: es) i = (bif f e then [(i : Int)] else []) ++ plI f es (i + 1) := by
  unfold plI
  rw [plc_cons, List.map_append]
  cases f e <;> rfl
theorem plI_ge {f : D → Bool} : ∀ {es : List D} {i : Nat} {z : Int}, z ∈ plI f es i → (i : Int) ≤ z
  | [], i, z, h => by cases h
  | e :: es, i, z, h => by
    rw [plI_cons, List.mem_append] at h
    rcases h with h | h
    · cases hf : f e with
      | true => rw [hf, cond_true, List.mem_singleton] at h; omega
      | false => rw [hf, cond_false] at h; cases h
    · have := plI_ge h
      omega
theorem plI_count {f : D → Bool} {es : List D} {i : Nat} : (plI f es (i + 1)).count (i : Int) = 0 := List.count_eq_zero.2 fun h => by have := plI_ge h; omega
def sumC (l : List Int) : List Int → Nat
  | [] => 0
  | x :: xs => l.count x + sumC l xs
theorem sumC_append (l : List Int) : ∀ (a b : List Int), sumC l (a ++ b) = sumC l a + sumC l b
  | [], b => by simp [sumC]
  | x :: a, b => by rw [List.cons_append, sumC, sumC, sumC_append l a b]; omega
theorem sumC_skip {l : List Int} {z : Int} : ∀ (xs : List Int), z ∉ xs → sumC (z :: l) xs = sumC l xs
  | [], _ => rfl
  | x :: xs, h => by
    rw [List.mem_cons, not_or] at h
    rw [sumC, sumC, sumC_skip xs h.2, List.count_cons]
    have : (z == x) = false := by rw [beq_eq_false_iff_ne]; exact h.1
    rw [this]
    rfl
theorem sum_part {f g : D → Bool} : ∀ (es : List D) (i : Nat), (∀ e ∈ es, f e = true → g e = true) → sumC (plI f es i) (plI g es i) = (plI f es i).length
  | [], i, _ => rfl
  | e :: es, i, h => by
    have ih := sum_part es (i + 1) fun x hx => h x (List.mem_cons_of_mem _ hx)
    have hfg := h e (List.mem_cons_self ..)
    have hn : (i : Int) ∉ plI g es (i + 1) := fun hh => by have := plI_ge hh; omega
    rw [plI_cons, plI_cons, sumC_append]
    cases hf : f e with
    | false =>
      rw [cond_false, List.nil_append, ih]
      cases hg : g e with
      | false => rw [cond_false]; simp [sumC]
      | true => rw [cond_true]; simp [sumC, plI_count]
    | true =>
      rw [hfg hf, cond_true, List.singleton_append, sumC_skip _ hn, ih]
      simp [sumC, plI_count]
      omega
theorem own_int (q : D) (s : Int) : (ownL q s).map intD = plI (fun e => hasS s (ofE e)) (qP q) 0 := rfl
theorem own_sum (q : D) (a b : Int) : sumC ((ownL q a).map intD) ((ownL q (orI .i64 a b)).map intD) = (ownL q a).length := by
  rw [own_int, own_int, sum_part _ _ fun e _ h => has_orl h]
  simp [plI, ownL]
/-- What is new is not own. -/
theorem own_fresh {q : D} {a b : Int} {x y : D} (hx : x ∈ ownL q a) (hy : y ∈ newL q a b) : (intD x == intD y) = false := by
  unfold ownL at hx
  unfold newL at hy
  obtain ⟨k, hk, rfl, h1⟩ := plc_mem.1 hx
  obtain ⟨j, hj, rfl, h2⟩ := plc_mem.1 hy
  rw [beq_eq_false_iff_ne]
  intro he
  have he : ((0 + k : Nat) : Int) = ((0 + j : Nat) : Int) := he
  have : k = j := by omega
  subst this
  unfold newB at h2
  rw [h1] at h2
  simp at h2
theorem sumC_take (l : List Int) (b : List D) {i : Nat} (h : i < b.length) : sumC l ((b.take (i + 1)).map intD) = sumC l ((b.take i).map intD) + l.count (intD (b.getD i .nil)) := by
  rw [List.take_add_one, List.map_append, sumC_append]
  have : b[i]?.toList = [b.getD i .nil] := by
    rw [List.getD_eq_getElem?_getD]
    simp [h]
  rw [this]
  simp [sumC]
theorem sumC_le (l : List Int) : ∀ (xs : List Int), sumC l xs ≤ l.length * xs.length
  | [] => Nat.zero_le _
  | x :: xs => by
    have h1 := List.count_le_length (a := x) (l := l)
    have h2 := sumC_le l xs
    rw [sumC, List.length_cons, Nat.mul_add, Nat.mul_one]
    omega
end Go.Ev
namespace Go.Ev
/-! ### Pairs, turned -/
def swapD (d : D) : D := pairD (intD (fieldD d 1)) (intD (fieldD d 0))
theorem has_cols_not {a b z : Int} (h : andI .i64 a b = 0) (h1 : hasS a (ofColI z) = true) (h2 : hasS b (ofColI z) = true) : False := by
  rw [has_col] at h1 h2
  exact and_zero.1 h _ ⟨h1, h2⟩
theorem pairOf_turn {a b : Int} (h : andI .i64 a b = 0) (e : D) : pairOf b a e = (pairOf a b e).map swapD := by
  have f1 := fun x y => has_cols_not (z := pairA e) h x y
  have f2 := fun x y => has_cols_not (z := pairB e) h x y
  unfold pairOf
  revert f1 f2
  cases pairE e
  · intros; rfl
  · cases hasS a (ofColI (pairA e)) <;> cases hasS b (ofColI (pairB e)) <;> cases hasS a (ofColI (pairB e)) <;> cases hasS b (ofColI (pairA e)) <;> intro f1 f2 <;> first | rfl | exact (f1 rfl rfl).elim | exact (f2 rfl rfl).elim
theorem flat_map {α : Type} {f : α → List D} {g : D → D} : ∀ (l : List α), (l.flatMap fun x => (f x).map g) = (l.flatMap f).map g
  | [] => rfl
  | x :: l => by rw [List.flatMap_cons, List.flatMap_cons, List.map_append, flat_map l]
theorem pairs_turn {q : D} {a b : Int} (h : andI .i64 a b = 0) : pairsL q b a = (pairsL q a b).map swapD := by
  unfold pairsL
  rw [show newL q b a = newL q a b from plc_congr _ _ fun e _ => new_comm b a (ofE e), ← flat_map]
  congr 1
  funext i
  exact pairOf_turn h _
/-- A pair that is told: of an expression, one column of each set. -/
theorem pairs_mem {q : D} {a b : Int} {x : D} (h : x ∈ pairsL q a b) : ∃ e ∈ qP q, pairE e = true ∧ ∃ u v, x = pairD u v ∧ ((u = pairA e ∧ v = pairB e) ∨ (u = pairB e ∧ v = pairA e)) ∧ hasS a (ofColI u) = true ∧ hasS b (ofColI v) = true := by
  unfold pairsL at h
  rw [List.mem_flatMap] at h
  obtain ⟨i, hi, hx⟩ := h
  unfold newL at hi
  obtain ⟨k, hk, rfl, _⟩ := plc_mem.1 hi
  have e1 : (intD (litI ((0 + k : Nat) : Int))).toNat = k := by
    show (((0 + k : Nat) : Int)).toNat = k
    omega
  rw [e1] at hx
  refine ⟨(qP q).getD k .nil, by rw [l_get hk]; exact List.getElem_mem hk, ?_⟩
  generalize (qP q).getD k .nil = e at hx
  unfold pairOf at hx
  cases hp : pairE e with
  | false => rw [hp, cond_false] at hx; cases hx
  | true =>
    rw [hp, cond_true] at hx
    refine ⟨rfl, ?_⟩
    cases h1 : (hasS a (ofColI (pairA e)) && hasS b (ofColI (pairB e))) with
    | true =>
      rw [h1, cond_true, List.mem_singleton] at hx
      rw [Bool.and_eq_true] at h1
      exact ⟨_, _, hx, .inl ⟨rfl, rfl⟩, h1.1, h1.2⟩
    | false =>
      rw [h1, cond_false] at hx
      cases h2 : (hasS a (ofColI (pairB e)) && hasS b (ofColI (pairA e))) with
      | true =>
        rw [h2, cond_true, List.mem_singleton] at hx
        rw [Bool.and_eq_true] at h2
        exact ⟨_, _, hx, .inr ⟨rfl, rfl⟩, h2.1, h2.2⟩
      | false => rw [h2, cond_false] at hx; cases hx
/-! ### Two of a list, each once -/
theorem count_two {u v : Int} : ∀ (l : List Int), l.Nodup → u ≠ v → l.countP (fun z => z == u || z == v) = (bif l.contains u then 1 else 0) + (bif l.contains v then 1 else 0)
  | [], _, _ => rfl
  | x :: l, hn, huv => by
    rw [List.nodup_cons] at hn
    have ih := count_two l hn.2 huv
    rw [List.countP_cons, ih, List.contains_cons, List.contains_cons]
    by_cases h1 : x = u
    · subst h1
      have e1 : l.contains x = false := by rw [← Bool.not_eq_true, List.contains_iff_mem]; exact hn.1
      have e2 : (v == x) = false := by rw [beq_eq_false_iff_ne]; exact fun h => huv h.symm
      rw [e1, e2, beq_self_eq_true]
      cases l.contains v <;> simp
    · by_cases h2 : x = v
      · subst h2
        have e1 : l.contains x = false := by rw [← Bool.not_eq_true, List.contains_iff_mem]; exact hn.1
        have e2 : (u == x) = false := by rw [beq_eq_false_iff_ne]; exact huv
        rw [e1, e2, beq_self_eq_true, show (x == u) = false by rw [beq_eq_false_iff_ne]; exact h1]
        cases l.contains u <;> simp
      · rw [show (x == u) = false by rw [beq_eq_false_iff_ne]; exact h1, show (x == v) = false by rw [beq_eq_false_iff_ne]; exact h2, show (u == x) = false by rw [beq_eq_false_iff_ne]; exact fun h => h1 h.symm, show (v == x) = false by rw [beq_eq_false_iff_ne]; exact fun h => h2 h.symm]
        simp
theorem ordRaw_len (q : D) : (ordRaw q).length ≤ 3 + 2 * (qP q).length := by
  unfold ordRaw
  have h1 : ((qP q).flatMap ordOf).length ≤ 2 * (qP q).length := flat_le _ fun e _ => by unfold ordOf; cases pairE e <;> simp
  have h2 : (ordCol (qBy q)).length ≤ 1 := by unfold ordCol; cases belowB (qBy q) 16 <;> simp
  have h3 : (ordCol (qOrd q)).length ≤ 1 := by unfold ordCol; cases belowB (qOrd q) 16 <;> simp
  simp only [List.length_append, List.length_singleton]
  omega
end Go.Ev
