/- Trees of functions, and lemmas. Nothing here is trusted. -/
import Derived.Test.YtanjicjomcocmaaDoorZ17
import Derived.Test.YtanjicjomcocmaaDoorZ20
import Derived.Test.YtanjicjomcocmaaDoorZ22
import Derived.Lib.Slices
import Derived.Test.YtanjicjomcocmaaDoorZ21
namespace Go.Ev
set_option linter.unusedVariables false
def opI (e : D) : Int := intD (fieldD e 0)
def colI (e : D) : Int := intD (fieldD e 1)
def kids (e : D) : List D := elemsD (fieldD e 3)
/-- How many parts a part of an op has. -/
def takesN (op n : Int) : Bool := bif op == 10 then n == 1 else bif op == 0 || op == 1 then n == 0 else bif op == 8 || op == 9 then decide (n <= 4) else n == 2
def takesB (f : D) (n : Int) : Bool := bif !isNilF (fieldD f 0) then n == 1 else bif !isNilF (fieldD f 1) then n == 2 else bif !isNilF (fieldD f 2) then decide (n <= 4) else n == 0
def fitsB (e : D) : Bool :=
 decide (0 <= opI e) && decide (opI e < 11) && decide (0 <= colI e) && decide (colI e <= 15) && mayB (fieldD e 2) &&
 (colI e == 0 || opI e == 1) && ((kk (fieldD e 2) == 0 && nn (fieldD e 2) == 0) || opI e == 0) && takesN (opI e) ((kids e).length : Int)
def atD (c : Int) (cols row : List D) : D :=
 bif decide (Lib.idxOf (cols.map intD) c < 0) then vv 2 0 else bif decide (Lib.idxOf (cols.map intD) c >= (row.length : Int)) then vv 2 0
 else bif mayB (row.getD (Lib.idxOf (cols.map intD) c).toNat .nil) then row.getD (Lib.idxOf (cols.map intD) c).toNat .nil else vv 2 0
def opV (op : Int) (l : List D) : D :=
 bif op == 2 then addD (l.getD 0 .nil) (l.getD 1 .nil) else bif op == 3 then subD (l.getD 0 .nil) (l.getD 1 .nil) else bif op == 4 then mulD (l.getD 0 .nil) (l.getD 1 .nil)
 else bif op == 5 then divD (l.getD 0 .nil) (l.getD 1 .nil) else bif op == 6 then eqV (l.getD 0 .nil) (l.getD 1 .nil) else bif op == 7 then ltV (l.getD 0 .nil) (l.getD 1 .nil)
 else bif op == 8 then andD l else bif op == 9 then orD l else notD (l.getD 0 .nil)

/-! ### Through all parts -/
def goL (g : D -> Int -> Bool × Int) : List D -> Int -> Bool × Int
 | [], n => (true, n)
 | p :: l, n => bif (g p n).1 then goL g l (g p n).2 else (false, (g p n).2)
def seeMay (e : D) (deep n : Int) : Bool := bif decide (n + 1 <= 30) then bif decide (deep <= 6) then fitsB e else false else false
def mayAll : Nat -> D -> Int -> Int -> Bool × Int
 | 0, _, _, n => (false, n)
 | k + 1, e, deep, n => bif seeMay e deep n then goL (fun p m => mayAll k p (deep + 1) m) (kids e) (n + 1) else (false, n + 1)
def mayE (e : D) : Bool := (mayAll 7 e 1 0).1
def okK : Nat -> D -> Bool
 | 0, _ => false
 | k + 1, e => fitsB e && (kids e).all (okK k)
def colsK : Nat -> D -> List D
 | 0, _ => []
 | k + 1, e => (bif opI e == 1 then [litI (colI e)] else []) ++ (kids e).flatMap (colsK k)
def colsE (e : D) : List D := bif mayE e then compD (sortD (colsK 7 e)) else []
def evalK (cols row : List D) : Nat -> D -> D
 | 0, _ => vv 2 0
 | k + 1, e => bif opI e == 0 then fieldD e 2 else bif opI e == 1 then atD (colI e) cols row else opV (opI e) ((kids e).map (evalK cols row k))
def evalE (e : D) (cols row : List D) : D := bif mayE e then evalK cols row 7 e else vv 2 0
def keepsE (e : D) (cols row : List D) : Bool := isTru (evalE e cols row)

/-! ### The document's own: how many parts, and has it a column -/
def sizeL (g : D -> Int -> Int) (most : Int) : List D -> Int -> Int
 | [], n => n
 | p :: l, n => bif decide (n <= most) then sizeL g most l (n + g p (most - n)) else n
def sizeK : Nat -> D -> Int -> Int
 | 0, _, _ => 1
 | k + 1, e, most => sizeL (sizeK k) most (kids e) 1
def hasK : Nat -> D -> Int -> Bool
 | 0, _, _ => false
 | k + 1, e, c => (opI e == 1 && colI e == c) || (kids e).any fun p => hasK k p c
def pairE (e : D) : Bool := mayE e && (opI e == 6 && (opI ((kids e).getD 0 .nil) == 1 && (opI ((kids e).getD 1 .nil) == 1 && !(colI ((kids e).getD 0 .nil) == colI ((kids e).getD 1 .nil)))))
def pairA (e : D) : Int := bif pairE e then colI ((kids e).getD 0 .nil) else 0
def pairB (e : D) : Int := bif pairE e then colI ((kids e).getD 1 .nil) else 0
theorem fits_op {e : D} (h : fitsB e = true) : 0 <= opI e /\ opI e < 11 /\ 0 <= colI e /\ colI e <= 15 /\ mayB (fieldD e 2) = true /\ takesN (opI e) ((kids e).length : Int) = true := by
 simp only [fitsB, Bool.and_eq_true, decide_eq_true_eq] at h
 obtain ⟨⟨⟨⟨⟨⟨⟨a, b⟩, c⟩, d⟩, e1⟩, _⟩, _⟩, f⟩ := h
 exact ⟨a, b, c, d, e1, f⟩
section
set_option linter.unusedSimpArgs false
def qOcc (q : D) : List D := elemsD (fieldD q 0)
def qP (q : D) : List D := elemsD (fieldD q 1)
def qBy (q : D) : Int := intD (fieldD q 2)
def qSums (q : D) : List D := elemsD (fieldD q 3)
def qOut (q : D) : List D := elemsD (fieldD q 4)
def qOrd (q : D) : Int := intD (fieldD q 5)

/-! ### Sets -/
def hasS (s p : Int) : Bool := andNotI .i64 p s == 0
def aloneI (o : Int) : Int := shlI .i64 1 o
def ofColI (c : Int) : Int := aloneI (splitA c)
def ofFrom (s : Int) : List D -> Int
 | [] => s
 | c :: l => ofFrom (orI .i64 s (ofColI (intD c))) l
def ofE (e : D) : Int := ofFrom 0 (colsE e)
def newB (a b s : Int) : Bool := hasS (orI .i64 a b) s && !hasS a s && !hasS b s
/-- The places of those that are asked for. -/
def plc (f : D -> Bool) : List D -> Nat -> List D
 | [], _ => []
 | e :: es, i => (bif f e then [litI (i : Int)] else []) ++ plc f es (i + 1)
def ownL (q : D) (s : Int) : List D := plc (fun e => hasS s (ofE e)) (qP q) 0
def newL (q : D) (a b : Int) : List D := plc (fun e => newB a b (ofE e)) (qP q) 0
def halfN : Nat -> Int -> Int
 | 0, s => s
 | n + 1, s => halfN n (Int.fdiv s (2 ^ min (1 : Int).toNat (IntKind.bits .i64)))
def bitB (set occ : Int) : Bool := andI .i64 (halfN occ.toNat set) 1 == 1

/-! ### What may be asked -/
def tabC (c q : D) (o : Int) : Int := defC ((tabs c).getD (intD ((qOcc q).getD o.toNat .nil)).toNat .nil)
def occMayB (c q : D) : Bool := decide (1 <= (qOcc q).length) && decide ((qOcc q).length <= 4) && (qOcc q).all fun o => belowB (intD o) ((tabs c).length : Int)
def isColB (c q : D) (x : Int) : Bool := belowB x 16 && (decide (splitA x < ((qOcc q).length : Int)) && decide (splitB x < tabC c q (splitA x)))
def areColB (c q : D) (l : List D) : Bool := l.all fun x => isColB c q (intD x)
def exprB (c q e : D) : Bool := !(colsE e).isEmpty && areColB c q (colsE e)
def exprMayB (c q : D) : Bool := decide ((qP q).length <= 6) && (qP q).all (exprB c q)
def dupB (l : List D) : Bool := (List.range' 0 l.length).any fun i => hasB (l.take i) (intD (l.getD i .nil))
def toldB (c q : D) : Bool := (qSums q).isEmpty && (decide (1 <= (qOut q).length) && (decide ((qOut q).length <= 8) && (areColB c q (qOut q) && (!dupB (qOut q) && (qOrd q == -1 || hasB (qOut q) (qOrd q))))))
def groupsB (c q : D) : Bool := isColB c q (qBy q) && (decide ((qSums q).length <= 4) && (areColB c q (qSums q) && ((qOut q).isEmpty && (qOrd q == -1 || qOrd q == qBy q))))
def endB (c q : D) : Bool := bif qBy q == -1 then toldB c q else groupsB c q
def mayQ (c q : D) : Bool := mayCat c && (occMayB c q && (exprMayB c q && endB c q))
def occColsL (c q : D) (set : Int) (o : Nat) : List D := bif hasS set (aloneI (o : Int)) then seenCols (tabC c q (o : Int)).toNat (o : Int) else []
def colsQ (c q : D) (set : Int) : List D := bif mayQ c q then (List.range (qOcc q).length).flatMap (occColsL c q set) else []

/-! ### The examples -/
def colX (c : Int) : D := .agg [litI 1, litI c, .agg [litI 0, litI 0], .slice [] []]
def pairQ : D := .agg [litI 6, litI 0, .agg [litI 0, litI 0], .slice [colX 0, colX 5] []]
def belQ : D := .agg [litI 7, litI 0, .agg [litI 0, litI 0], .slice [colX 8, .agg [litI 0, litI 0, .agg [litI 0, litI 5], .slice [] []]] []]
def oneQ : D := .agg [.slice [litI 0, litI 0, litI 1] [], .slice [pairQ, belQ] [], litI (-1), .slice [] [], .slice [litI 0, litI 8] [], litI 8]
/-! ### Pairs and orders -/
def pairD (x y : Int) : D := .agg [litI x, litI y]
def pairOf (a b : Int) (e : D) : List D :=
 bif pairE e then bif hasS a (ofColI (pairA e)) && hasS b (ofColI (pairB e)) then [pairD (pairA e) (pairB e)]
  else bif hasS a (ofColI (pairB e)) && hasS b (ofColI (pairA e)) then [pairD (pairB e) (pairA e)] else [] else []
def pairsL (q : D) (a b : Int) : List D := (newL q a b).flatMap fun i => pairOf a b ((qP q).getD (intD i).toNat .nil)
def ordOf (e : D) : List D := bif pairE e then [litI (pairA e), litI (pairB e)] else []
def ordCol (c : Int) : List D := bif belowB c 16 then [litI c] else []
def ordRaw (q : D) : List D := [litI (-1)] ++ (qP q).flatMap ordOf ++ ordCol (qBy q) ++ ordCol (qOrd q)
def ordersL (q : D) : List D := compD (sortD (ordRaw q))
def fewQ (fewE : D -> Int -> Bool) (c q : D) : Bool := decide ((tabs c).length <= 10) && decide ((qOcc q).length <= 20) && decide ((qP q).length <= 8) && decide ((qSums q).length <= 20) && decide ((qOut q).length <= 20) && (qP q).all fun e => fewE e 60
end
end Go.Ev
namespace Go.Ev
set_option linter.unusedVariables false
set_option linter.unusedSimpArgs false

def inS (s : Int) (i : Nat) : Bool := (BitVec.ofInt 64 s).getLsbD i
theorem bv_wrap (n : Int) : BitVec.ofInt 64 (IntKind.wrap .i64 n) = BitVec.ofInt 64 n := by
 apply BitVec.eq_of_toInt_eq
 rw [BitVec.toInt_ofInt, BitVec.toInt_ofInt, wrap64_eq]
 simp only [Int.bmod]
 omega
theorem bv_nat (x : BitVec 64) : BitVec.ofInt 64 (x.toNat : Int) = x := by
 rw [BitVec.ofInt_natCast, BitVec.ofNat_toNat, BitVec.setWidth_eq]
theorem inS_and (a b : Int) (i : Nat) : inS (andI .i64 a b) i = (inS a i && inS b i) := by
 unfold inS andI
 rw [bv_wrap]
 show (BitVec.ofInt 64 ((BitVec.ofInt 64 a &&& BitVec.ofInt 64 b).toNat : Int)).getLsbD i = _
 rw [bv_nat, BitVec.getLsbD_and]
theorem inS_or (a b : Int) (i : Nat) : inS (orI .i64 a b) i = (inS a i || inS b i) := by
 unfold inS orI
 rw [bv_wrap]
 show (BitVec.ofInt 64 ((BitVec.ofInt 64 a ||| BitVec.ofInt 64 b).toNat : Int)).getLsbD i = _
 rw [bv_nat, BitVec.getLsbD_or]
theorem inS_zero (i : Nat) : inS 0 i = false := by
 unfold inS
 rw [show BitVec.ofInt 64 0 = 0#64 from rfl, BitVec.getLsbD_zero]
theorem wrap_zero {x : BitVec 64} : IntKind.wrap .i64 (x.toNat : Int) = 0 ↔ x = 0#64 := by
 have h := x.isLt
 rw [wrap64_eq]
 constructor
 ·intro hh
  apply BitVec.eq_of_toNat_eq
  simp only [BitVec.toNat_ofNat, Nat.zero_mod]
  omega
 ·intro hh
  rw [hh]
  simp
theorem bv_all {x : BitVec 64} : x = 0#64 ↔ ∀ i, x.getLsbD i = false := by
 constructor
 ·rintro rfl i
  exact BitVec.getLsbD_zero
 ·intro h
  apply BitVec.eq_of_getLsbD_eq
  intro i _
  rw [h i, BitVec.getLsbD_zero]
/-- Is one set a part of the other? -/
theorem hasS_iff {s p : Int} : hasS s p = true ↔ ∀ i, inS p i = true -> inS s i = true := by
 unfold hasS andNotI
 rw [beq_iff_eq]
 show IntKind.wrap .i64 ((BitVec.ofInt 64 p &&& ~~~ (BitVec.ofInt 64 s)).toNat : Int) = 0 ↔ _
 rw [wrap_zero, bv_all]
 unfold inS
 refine forall_congr' fun i => ?_
 rw [BitVec.getLsbD_and, BitVec.getLsbD_not]
 by_cases hi : i < 64
 ·cases (BitVec.ofInt 64 p).getLsbD i <;> cases (BitVec.ofInt 64 s).getLsbD i <;> simp [hi]
 ·have h1 : (BitVec.ofInt 64 p).getLsbD i = false := BitVec.getLsbD_of_ge _ _ (by omega)
  rw [h1]
  simp
/-- Have two sets nothing in common? -/
theorem and_zero {a b : Int} : andI .i64 a b = 0 ↔ ∀ i, ¬ (inS a i = true /\ inS b i = true) := by
 unfold andI
 show IntKind.wrap .i64 ((BitVec.ofInt 64 a &&& BitVec.ofInt 64 b).toNat : Int) = 0 ↔ _
 rw [wrap_zero, bv_all]
 unfold inS
 refine forall_congr' fun i => ?_
 rw [BitVec.getLsbD_and]
 cases (BitVec.ofInt 64 a).getLsbD i <;> cases (BitVec.ofInt 64 b).getLsbD i <;> simp
theorem inS_alone {o : Int} (h : 0 <= o /\ o < 4) (i : Nat) : inS (aloneI o) i = decide (o = (i : Int)) := by
 have ho : o = 0 \/ o = 1 \/ o = 2 \/ o = 3 := by omega
 unfold inS
 rcases ho with rfl | rfl | rfl | rfl
 ·rw [show BitVec.ofInt 64 (aloneI 0) = BitVec.twoPow 64 0 from by decide, BitVec.getLsbD_twoPow, Bool.eq_iff_iff]; simp; omega
 ·rw [show BitVec.ofInt 64 (aloneI 1) = BitVec.twoPow 64 1 from by decide, BitVec.getLsbD_twoPow, Bool.eq_iff_iff]; simp; omega
 ·rw [show BitVec.ofInt 64 (aloneI 2) = BitVec.twoPow 64 2 from by decide, BitVec.getLsbD_twoPow, Bool.eq_iff_iff]; simp; omega
 ·rw [show BitVec.ofInt 64 (aloneI 3) = BitVec.twoPow 64 3 from by decide, BitVec.getLsbD_twoPow, Bool.eq_iff_iff]; simp; omega
theorem split_lt (z : Int) : 0 <= splitA z /\ splitA z < 4 := by
 by_cases h : 0 <= z /\ z < 16
 ·rw [(split_in h).1]; omega
 ·rw [(split_out h).1]; omega
theorem inS_col (z : Int) (i : Nat) : inS (ofColI z) i = decide (splitA z = (i : Int)) := inS_alone (split_lt z) i
theorem has_alone {s o : Int} (h : 0 <= o /\ o < 4) : hasS s (aloneI o) = inS s o.toNat := by
 rw [Bool.eq_iff_iff, hasS_iff]
 constructor
 ·intro hh
  refine hh o.toNat ?_
  rw [inS_alone h, decide_eq_true_eq]
  omega
 ·intro hh i hi
  rw [inS_alone h, decide_eq_true_eq] at hi
  have : o.toNat = i := by omega
  rw [<- this]
  exact hh
theorem has_col (s z : Int) : hasS s (ofColI z) = inS s (splitA z).toNat := has_alone (split_lt z)
theorem inS_from : ∀ (l : List D) (s : Int) (i : Nat), inS (ofFrom s l) i = (inS s i || l.any fun c => decide (splitA (intD c) = (i : Int)))
 | [], s, i => by simp [ofFrom]
 | c :: l, s, i => by
  unfold ofFrom
  rw [inS_from l, inS_or, inS_col, List.any_cons, Bool.or_assoc]
theorem inS_of (e : D) (i : Nat) : inS (ofE e) i = (colsE e).any fun c => decide (splitA (intD c) = (i : Int)) := by
 unfold ofE
 rw [inS_from, inS_zero, Bool.false_or]
theorem or_small : ∀ (s : Fin 16) (o : Fin 4), 1 <= orI .i64 ((s.val : Nat) : Int) (aloneI ((o.val : Nat) : Int)) /\ orI .i64 ((s.val : Nat) : Int) (aloneI ((o.val : Nat) : Int)) <= 15 := by decide
theorem bit_small : ∀ (s : Fin 16) (o : Fin 4), bitB ((s.val : Nat) : Int) ((o.val : Nat) : Int) = inS ((s.val : Nat) : Int) o.val := by decide
theorem all_small : ∀ (s : Fin 16) (o : Fin 4), inS (15 - ((s.val : Nat) : Int)) o.val = !inS ((s.val : Nat) : Int) o.val := by decide
theorem or_in {s z : Int} (h : 0 <= s /\ s <= 15) : 1 <= orI .i64 s (ofColI z) /\ orI .i64 s (ofColI z) <= 15 := by
 have h2 := split_lt z
 have := or_small ⟨s.toNat, by omega⟩ ⟨(splitA z).toNat, by omega⟩
 have e1 : ((s.toNat : Nat) : Int) = s := by omega
 have e2 : (((splitA z).toNat : Nat) : Int) = splitA z := by omega
 simp only [e1, e2] at this
 exact this
theorem bit_in {s o : Int} (h : 0 <= s /\ s <= 15) (ho : 0 <= o /\ o < 4) : bitB s o = inS s o.toNat := by
 have := bit_small ⟨s.toNat, by omega⟩ ⟨o.toNat, by omega⟩
 have e1 : ((s.toNat : Nat) : Int) = s := by omega
 have e2 : ((o.toNat : Nat) : Int) = o := by omega
 simp only [e1, e2] at this
 exact this
theorem all_in {s : Int} {o : Nat} (h : 0 <= s /\ s <= 15) (ho : o < 4) : inS (15 - s) o = !inS s o := by
 have := all_small ⟨s.toNat, by omega⟩ ⟨o, ho⟩
 have e1 : ((s.toNat : Nat) : Int) = s := by omega
 simp only [e1] at this
 exact this
theorem from_in : ∀ (l : List D) (s : Int), 0 <= s /\ s <= 15 -> 0 <= ofFrom s l /\ ofFrom s l <= 15
 | [], s, h => h
 | c :: l, s, h => from_in l _ (by have := or_in (z := intD c) h; omega)
theorem from_pos : ∀ (l : List D) (s : Int), 1 <= s /\ s <= 15 -> 1 <= ofFrom s l
 | [], s, h => h.1
 | c :: l, s, h => from_pos l _ (or_in (z := intD c) (by omega))
theorem of_in (e : D) : 0 <= ofE e /\ ofE e <= 15 := from_in _ 0 (by omega)
theorem of_pos {e : D} (h : (colsE e).isEmpty = false) : 1 <= ofE e := by
 unfold ofE
 cases hl : colsE e with
 | nil => rw [hl] at h; cases h
 | cons c l => exact from_pos l _ (or_in (z := intD c) (by omega))
theorem has_all (e : D) : hasS 15 (ofE e) = true := by
 rw [hasS_iff]
 intro i hi
 rw [inS_of, List.any_eq_true] at hi
 obtain ⟨c, _, hc⟩ := hi
 rw [decide_eq_true_eq] at hc
 have := split_lt (intD c)
 have h4 : i = 0 \/ i = 1 \/ i = 2 \/ i = 3 := by omega
 rcases h4 with rfl | rfl | rfl | rfl <;> decide
theorem of_ex {e : D} (h : (colsE e).isEmpty = false) : ∃ i, inS (ofE e) i = true := by
 cases hl : colsE e with
 | nil => rw [hl] at h; cases h
 | cons c l =>
  have := split_lt (intD c)
  refine ⟨(splitA (intD c)).toNat, ?_⟩
  rw [inS_of, hl, List.any_cons, Bool.or_eq_true]
  left
  rw [decide_eq_true_eq]
  omega
theorem has_none {e : D} (h : (colsE e).isEmpty = false) : hasS 0 (ofE e) = false := by
 rw [<- Bool.not_eq_true, hasS_iff]
 intro hh
 obtain ⟨i, hi⟩ := of_ex h
 have := hh i hi
 rw [inS_zero] at this
 cases this

/-! ### Places -/
theorem plc_len (f : D -> Bool) : ∀ (es : List D) (i : Nat), (plc f es i).length = es.countP f
 | [], i => rfl
 | e :: es, i => by
  unfold plc
  rw [List.length_append, plc_len f es (i + 1), List.countP_cons]
  cases f e <;> simp <;> omega
theorem plc_congr {f g : D -> Bool} : ∀ (es : List D) (i : Nat), (∀ e ∈ es, f e = g e) -> plc f es i = plc g es i
 | [], i, h => rfl
 | e :: es, i, h => by
  unfold plc
  rw [h e (List.mem_cons_self ..), plc_congr es (i + 1) fun e' he => h e' (List.mem_cons_of_mem _ he)]
theorem plc_mem {f : D -> Bool} {x : D} : ∀ {es : List D} {i : Nat}, x ∈ plc f es i ↔ ∃ k, k < es.length /\ x = litI ((i + k : Nat) : Int) /\ f (es.getD k .nil) = true
 | [], i => by simp [plc]
 | e :: es, i => by
  unfold plc
  rw [List.mem_append, plc_mem (es := es) (i := i + 1)]
  constructor
  ·rintro (h | ⟨k, hk, hx, hf⟩)
   ·cases he : f e with
    | true => rw [he, cond_true, List.mem_singleton] at h; exact ⟨0, by simp, h, he⟩
    | false => rw [he, cond_false] at h; cases h
   ·refine ⟨k + 1, by simp; omega, ?_, by simpa using hf⟩
    rw [hx]
    congr 2
    omega
  ·rintro ⟨k, hk, hx, hf⟩
   cases k with
   | zero =>
    left
    have hf : f e = true := hf
    rw [hf, cond_true, List.mem_singleton]
    exact hx
   | succ k =>
    right
    refine ⟨k, by simpa using hk, ?_, by simpa using hf⟩
    rw [hx]
    congr 2
    omega
theorem count3 {f g h k : D -> Bool} : ∀ (es : List D), (∀ e ∈ es, (bif f e then 1 else 0) + (bif g e then 1 else 0) + (bif h e then 1 else 0) = (bif k e then 1 else 0)) -> es.countP f + es.countP g + es.countP h = es.countP k
 | [], _ => rfl
 | e :: es, H => by
  have h1 := H e (List.mem_cons_self ..)
  have h2 := count3 es fun e' he => H e' (List.mem_cons_of_mem _ he)
  rw [List.countP_cons, List.countP_cons, List.countP_cons, List.countP_cons]
  revert h1
  cases f e <;> cases g e <;> cases h e <;> cases k e <;> simp <;> omega
theorem count4 {f g h k : D -> Bool} : ∀ (es : List D), (∀ e ∈ es, (bif f e then 1 else 0) + (bif g e then 1 else 0) = (bif h e then 1 else 0) + (bif k e then 1 else 0)) -> es.countP f + es.countP g = es.countP h + es.countP k
 | [], _ => rfl
 | e :: es, H => by
  have h1 := H e (List.mem_cons_self ..)
  have h2 := count4 es fun e' he => H e' (List.mem_cons_of_mem _ he)
  rw [List.countP_cons, List.countP_cons, List.countP_cons, List.countP_cons]
  revert h1
  cases f e <;> cases g e <;> cases h e <;> cases k e <;> simp <;> omega
end Go.Ev
namespace Go.Ev
/-! ### Functions bound ahead -/
def bndIs (f t : Nat) : D -> Bool
 | .agg [.held (.func (.func g) _ _), .lit (.int _ u), _] => g == f && u == (t : Int)
 | _ => false
def bndArg : D -> D
 | .agg [_, _, x] => x
 | _ => .nil
theorem ty_bnd {P : Program} {n : Nat} {t : TypeId} {x : D} {p q : Array TypeId} {r : Bool} {f u : Nat} (hu : P.underlying t = some (.func p q r)) (h : Ty P n t x) (hb : bndIs f u x = true) : ∃ m y, x = bndD f u y /\ Ty P m u y := by
 cases n with
 | zero => exact h.elim
 | succ n =>
  unfold Ty at h
  rw [hu] at h
  split at h <;> try (exact h.elim)
  all_goals try (simp_all; done)
  ·simp [bndIs] at hb
  ·obtain ⟨g, t0, y, rfl, hy⟩ := h
   simp only [bndIs, Bool.and_eq_true, beq_iff_eq] at hb
   obtain ⟨rfl, h2⟩ := hb
   have h3 : t0 = u := by first | exact Int.ofNat_inj.1 h2 | exact h2 | simpa using h2
   subst h3
   exact ⟨n, y, rfl, hy⟩
theorem plc_cons (f : D -> Bool) (e : D) (es : List D) (i : Nat) : plc f (e :: es) i = (bif f e then [litI (i : Int)] else []) ++ plc f es (i + 1) := rfl
end Go.Ev
namespace Go.Ev
set_option linter.unusedVariables false
set_option linter.unusedSimpArgs false
def b2 (b : Bool) : Nat := bif b then 1 else 0
theorem has_orl {a b s : Int} (h : hasS a s = true) : hasS (orI .i64 a b) s = true := by
 rw [hasS_iff] at h ⊢
 intro i hi
 rw [inS_or, h i hi, Bool.true_or]
theorem has_orr {a b s : Int} (h : hasS b s = true) : hasS (orI .i64 a b) s = true := by
 rw [hasS_iff] at h ⊢
 intro i hi
 rw [inS_or, h i hi, Bool.or_true]
theorem has_not {a b s : Int} (hd : andI .i64 a b = 0) (hs : ∃ i, inS s i = true) (h1 : hasS a s = true) (h2 : hasS b s = true) : False := by
 obtain ⟨i, hi⟩ := hs
 exact and_zero.1 hd i ⟨hasS_iff.1 h1 i hi, hasS_iff.1 h2 i hi⟩
theorem has_orc (a b s : Int) : hasS (orI .i64 a b) s = hasS (orI .i64 b a) s := by
 rw [Bool.eq_iff_iff, hasS_iff, hasS_iff]
 refine forall_congr' fun i => ?_
 rw [inS_or, inS_or, Bool.or_comm]
theorem has_ora (a b d s : Int) : hasS (orI .i64 (orI .i64 a b) d) s = hasS (orI .i64 a (orI .i64 b d)) s := by
 rw [Bool.eq_iff_iff, hasS_iff, hasS_iff]
 refine forall_congr' fun i => ?_
 rw [inS_or, inS_or, inS_or, inS_or, Bool.or_assoc]
theorem and_or {a b d : Int} (h1 : andI .i64 a d = 0) (h2 : andI .i64 b d = 0) : andI .i64 (orI .i64 a b) d = 0 := by
 rw [and_zero] at *
 intro i ⟨h3, h4⟩
 rw [inS_or, Bool.or_eq_true] at h3
 rcases h3 with h3 | h3
 ·exact h1 i ⟨h3, h4⟩
 ·exact h2 i ⟨h3, h4⟩
theorem and_or' {a b d : Int} (h1 : andI .i64 a b = 0) (h2 : andI .i64 a d = 0) : andI .i64 a (orI .i64 b d) = 0 := by
 rw [and_zero] at *
 intro i ⟨h3, h4⟩
 rw [inS_or, Bool.or_eq_true] at h4
 rcases h4 with h4 | h4
 ·exact h1 i ⟨h3, h4⟩
 ·exact h2 i ⟨h3, h4⟩
theorem own_new {a b s : Int} (hd : andI .i64 a b = 0) (hs : ∃ i, inS s i = true) : (bif hasS a s then 1 else 0) + (bif hasS b s then 1 else 0) + (bif newB a b s then 1 else 0) = (bif hasS (orI .i64 a b) s then 1 else 0) := by
 have f1 : hasS a s = true -> hasS (orI .i64 a b) s = true := has_orl
 have f2 : hasS b s = true -> hasS (orI .i64 a b) s = true := has_orr
 have f3 := fun h1 h2 => has_not hd hs h1 h2
 unfold newB
 revert f1 f2 f3
 cases hasS a s <;> cases hasS b s <;> cases hasS (orI .i64 a b) s <;> simp
theorem new_new {a b d s : Int} (h1 : andI .i64 a b = 0) (h2 : andI .i64 a d = 0) (h3 : andI .i64 b d = 0) (hs : ∃ i, inS s i = true) :
  (bif newB a b s then 1 else 0) + (bif newB (orI .i64 a b) d s then 1 else 0) = (bif newB b d s then 1 else 0) + (bif newB a (orI .i64 b d) s then 1 else 0) := by
 have f1 : hasS a s = true -> hasS (orI .i64 a b) s = true := has_orl
 have f2 : hasS b s = true -> hasS (orI .i64 a b) s = true := has_orr
 have f3 : hasS b s = true -> hasS (orI .i64 b d) s = true := has_orl
 have f4 : hasS d s = true -> hasS (orI .i64 b d) s = true := has_orr
 have f5 : hasS (orI .i64 a b) s = true -> hasS (orI .i64 a (orI .i64 b d)) s = true := fun h => by rw [<- has_ora]; exact has_orl h
 have f6 : hasS (orI .i64 b d) s = true -> hasS (orI .i64 a (orI .i64 b d)) s = true := has_orr
 have g1 := fun x y => has_not (s := s) (and_or h2 h3) hs x y
 have g2 := fun x y => has_not (s := s) (and_or' h1 h2) hs x y
 unfold newB
 rw [has_ora]
 revert f1 f2 f3 f4 f5 f6 g1 g2
 cases hasS a s <;> cases hasS b s <;> cases hasS d s <;> cases hasS (orI .i64 a b) s <;> cases hasS (orI .i64 b d) s <;> cases hasS (orI .i64 a (orI .i64 b d)) s <;> simp
theorem new_comm (a b s : Int) : newB a b s = newB b a s := by
 unfold newB
 rw [has_orc]
 cases hasS (orI .i64 b a) s <;> cases hasS a s <;> cases hasS b s <;> rfl
theorem intsB_refl (l : List D) : intsB l l = true := by unfold intsB; exact beq_self_eq_true _
theorem expr_ne {c q : D} (h : exprMayB c q = true) {e : D} (he : e ∈ qP q) : (colsE e).isEmpty = false /\ areColB c q (colsE e) = true := by
 unfold exprMayB at h
 rw [Bool.and_eq_true, List.all_eq_true] at h
 have := h.2 e he
 unfold exprB at this
 rw [Bool.and_eq_true, Bool.not_eq_true'] at this
 exact this
theorem few_len {f : D -> Int -> Bool} {c q : D} (h : fewQ f c q = true) : (qP q).length <= 8 /\ (qOcc q).length <= 20 /\ (tabs c).length <= 10 /\ (qSums q).length <= 20 /\ (qOut q).length <= 20 := by
 unfold fewQ at h
 simp only [Bool.and_eq_true, decide_eq_true_eq] at h
 omega
/-! ### Lengths of what is put together -/
theorem flat3 {α : Type} {f g h : α -> List D} : ∀ (l : List α), (∀ x ∈ l, (f x).length + (g x).length = (h x).length) -> (l.flatMap f).length + (l.flatMap g).length = (l.flatMap h).length
 | [], _ => rfl
 | x :: l, H => by
  have h1 := H x (List.mem_cons_self ..)
  have h2 := flat3 l fun y hy => H y (List.mem_cons_of_mem _ hy)
  rw [List.flatMap_cons, List.flatMap_cons, List.flatMap_cons, List.length_append, List.length_append, List.length_append]
  omega
theorem flat_le {α : Type} {f : α -> List D} {k : Nat} : ∀ (l : List α), (∀ x ∈ l, (f x).length <= k) -> (l.flatMap f).length <= k * l.length
 | [], _ => Nat.zero_le _
 | x :: l, H => by
  have h1 := H x (List.mem_cons_self ..)
  have h2 := flat_le l fun y hy => H y (List.mem_cons_of_mem _ hy)
  rw [List.flatMap_cons, List.length_append, List.length_cons, Nat.mul_add, Nat.mul_one]
  omega
/-- Two sets of the same bits are the same number. -/
theorem set_ext {x y : Int} (hx : inR x = true) (hy : inR y = true) (h : ∀ i, inS x i = inS y i) : x = y := by
 have hb : BitVec.ofInt 64 x = BitVec.ofInt 64 y := BitVec.eq_of_getLsbD_eq fun i _ => h i
 have h1 := congrArg BitVec.toInt hb
 rw [BitVec.toInt_ofInt, BitVec.toInt_ofInt] at h1
 rw [inR_iff] at hx hy
 simp only [Int.bmod] at h1
 omega
theorem countP_not {f : D -> Bool} : ∀ (l : List D), (∀ e ∈ l, f e = false) -> l.countP f = 0
 | [], _ => rfl
 | e :: l, h => by rw [List.countP_cons, h e (List.mem_cons_self ..), countP_not l fun x hx => h x (List.mem_cons_of_mem _ hx)]; rfl
theorem countP_all {f : D -> Bool} : ∀ (l : List D), (∀ e ∈ l, f e = true) -> l.countP f = l.length
 | [], _ => rfl
 | e :: l, h => by rw [List.countP_cons, h e (List.mem_cons_self ..), countP_all l fun x hx => h x (List.mem_cons_of_mem _ hx)]; rfl
end Go.Ev
namespace Go.Ev
set_option linter.unusedVariables false
set_option linter.unusedSimpArgs false

def plI (f : D -> Bool) (es : List D) (i : Nat) : List Int := (plc f es i).map intD
theorem plI_cons (f : D -> Bool) (e : D) (es : List D) (i : Nat) : plI f (e :: es) i = (bif f e then [(i : Int)] else []) ++ plI f es (i + 1) := by
 unfold plI
 rw [plc_cons, List.map_append]
 cases f e <;> rfl
theorem plI_ge {f : D -> Bool} : ∀ {es : List D} {i : Nat} {z : Int}, z ∈ plI f es i -> (i : Int) <= z
 | [], i, z, h => by cases h
 | e :: es, i, z, h => by
  rw [plI_cons, List.mem_append] at h
  rcases h with h | h
  ·cases hf : f e with
   | true => rw [hf, cond_true, List.mem_singleton] at h; omega
   | false => rw [hf, cond_false] at h; cases h
  ·have := plI_ge h
   omega
theorem plI_count {f : D -> Bool} {es : List D} {i : Nat} : (plI f es (i + 1)).count (i : Int) = 0 := List.count_eq_zero.2 fun h => by have := plI_ge h; omega
def sumC (l : List Int) : List Int -> Nat
 | [] => 0
 | x :: xs => l.count x + sumC l xs
theorem sumC_append (l : List Int) : ∀ (a b : List Int), sumC l (a ++ b) = sumC l a + sumC l b
 | [], b => by simp [sumC]
 | x :: a, b => by rw [List.cons_append, sumC, sumC, sumC_append l a b]; omega
theorem sumC_skip {l : List Int} {z : Int} : ∀ (xs : List Int), z ∉ xs -> sumC (z :: l) xs = sumC l xs
 | [], _ => rfl
 | x :: xs, h => by
  rw [List.mem_cons, not_or] at h
  rw [sumC, sumC, sumC_skip xs h.2, List.count_cons]
  have : (z == x) = false := by rw [beq_eq_false_iff_ne]; exact h.1
  rw [this]
  rfl
theorem sum_part {f g : D -> Bool} : ∀ (es : List D) (i : Nat), (∀ e ∈ es, f e = true -> g e = true) -> sumC (plI f es i) (plI g es i) = (plI f es i).length
 | [], i, _ => rfl
 | e :: es, i, h => by
  have ih := sum_part es (i + 1) fun x hx => h x (List.mem_cons_of_mem _ hx)
  have hfg := h e (List.mem_cons_self ..)
  have hn : (i : Int) ∉ plI g es (i + 1) := fun hh => by have := plI_ge hh; omega
  rw [plI_cons, plI_cons, sumC_append]
  cases hf : f e with
  | false =>
   rw [cond_false, List.nil_append, ih]
   cases hg : g e with
   | false => rw [cond_false]; simp [sumC]
   | true => rw [cond_true]; simp [sumC, plI_count]
  | true =>
   rw [hfg hf, cond_true, List.singleton_append, sumC_skip _ hn, ih]
   simp [sumC, plI_count]
   omega
theorem own_int (q : D) (s : Int) : (ownL q s).map intD = plI (fun e => hasS s (ofE e)) (qP q) 0 := rfl
theorem own_sum (q : D) (a b : Int) : sumC ((ownL q a).map intD) ((ownL q (orI .i64 a b)).map intD) = (ownL q a).length := by
 rw [own_int, own_int, sum_part _ _ fun e _ h => has_orl h]
 simp [plI, ownL]
/-- What is new is not own. -/
theorem own_fresh {q : D} {a b : Int} {x y : D} (hx : x ∈ ownL q a) (hy : y ∈ newL q a b) : (intD x == intD y) = false := by
 unfold ownL at hx
 unfold newL at hy
 obtain ⟨k, hk, rfl, h1⟩ := plc_mem.1 hx
 obtain ⟨j, hj, rfl, h2⟩ := plc_mem.1 hy
 rw [beq_eq_false_iff_ne]
 intro he
 have he : ((0 + k : Nat) : Int) = ((0 + j : Nat) : Int) := he
 have : k = j := by omega
 subst this
 unfold newB at h2
 rw [h1] at h2
 simp at h2
theorem sumC_take (l : List Int) (b : List D) {i : Nat} (h : i < b.length) : sumC l ((b.take (i + 1)).map intD) = sumC l ((b.take i).map intD) + l.count (intD (b.getD i .nil)) := by
 rw [List.take_add_one, List.map_append, sumC_append]
 have : b[i]?.toList = [b.getD i .nil] := by
  rw [List.getD_eq_getElem?_getD]
  simp [h]
 rw [this]
 simp [sumC]
theorem sumC_le (l : List Int) : ∀ (xs : List Int), sumC l xs <= l.length * xs.length
 | [] => Nat.zero_le _
 | x :: xs => by
  have h1 := List.count_le_length (a := x) (l := l)
  have h2 := sumC_le l xs
  rw [sumC, List.length_cons, Nat.mul_add, Nat.mul_one]
  omega
end Go.Ev
namespace Go.Ev
/-! ### Pairs, turned -/
def swapD (d : D) : D := pairD (intD (fieldD d 1)) (intD (fieldD d 0))
theorem has_cols_not {a b z : Int} (h : andI .i64 a b = 0) (h1 : hasS a (ofColI z) = true) (h2 : hasS b (ofColI z) = true) : False := by
 rw [has_col] at h1 h2
 exact and_zero.1 h _ ⟨h1, h2⟩
theorem pairOf_turn {a b : Int} (h : andI .i64 a b = 0) (e : D) : pairOf b a e = (pairOf a b e).map swapD := by
 have f1 := fun x y => has_cols_not (z := pairA e) h x y
 have f2 := fun x y => has_cols_not (z := pairB e) h x y
 unfold pairOf
 revert f1 f2
 cases pairE e
 ·intros; rfl
 ·cases hasS a (ofColI (pairA e)) <;> cases hasS b (ofColI (pairB e)) <;> cases hasS a (ofColI (pairB e)) <;> cases hasS b (ofColI (pairA e)) <;> intro f1 f2 <;> first | rfl | exact (f1 rfl rfl).elim | exact (f2 rfl rfl).elim
theorem flat_map {α : Type} {f : α -> List D} {g : D -> D} : ∀ (l : List α), (l.flatMap fun x => (f x).map g) = (l.flatMap f).map g
 | [] => rfl
 | x :: l => by rw [List.flatMap_cons, List.flatMap_cons, List.map_append, flat_map l]
theorem pairs_turn {q : D} {a b : Int} (h : andI .i64 a b = 0) : pairsL q b a = (pairsL q a b).map swapD := by
 unfold pairsL
 rw [show newL q b a = newL q a b from plc_congr _ _ fun e _ => new_comm b a (ofE e), <- flat_map]
 congr 1
 funext i
 exact pairOf_turn h _
/-- A pair that is told: of an expression, one column of each set. -/
theorem pairs_mem {q : D} {a b : Int} {x : D} (h : x ∈ pairsL q a b) : ∃ e ∈ qP q, pairE e = true /\ ∃ u v, x = pairD u v /\ ((u = pairA e /\ v = pairB e) \/ (u = pairB e /\ v = pairA e)) /\ hasS a (ofColI u) = true /\ hasS b (ofColI v) = true := by
 unfold pairsL at h
 rw [List.mem_flatMap] at h
 obtain ⟨i, hi, hx⟩ := h
 unfold newL at hi
 obtain ⟨k, hk, rfl, _⟩ := plc_mem.1 hi
 have e1 : (intD (litI ((0 + k : Nat) : Int))).toNat = k := by
  show (((0 + k : Nat) : Int)).toNat = k
  omega
 rw [e1] at hx
 refine ⟨(qP q).getD k .nil, by rw [l_get hk]; exact List.getElem_mem hk, ?_⟩
 generalize (qP q).getD k .nil = e at hx
 unfold pairOf at hx
 cases hp : pairE e with
 | false => rw [hp, cond_false] at hx; cases hx
 | true =>
  rw [hp, cond_true] at hx
  refine ⟨rfl, ?_⟩
  cases h1 : (hasS a (ofColI (pairA e)) && hasS b (ofColI (pairB e))) with
  | true =>
   rw [h1, cond_true, List.mem_singleton] at hx
   rw [Bool.and_eq_true] at h1
   exact ⟨_, _, hx, .inl ⟨rfl, rfl⟩, h1.1, h1.2⟩
  | false =>
   rw [h1, cond_false] at hx
   cases h2 : (hasS a (ofColI (pairB e)) && hasS b (ofColI (pairA e))) with
   | true =>
    rw [h2, cond_true, List.mem_singleton] at hx
    rw [Bool.and_eq_true] at h2
    exact ⟨_, _, hx, .inr ⟨rfl, rfl⟩, h2.1, h2.2⟩
   | false => rw [h2, cond_false] at hx; cases hx
/-! ### Two of a list, each once -/
theorem count_two {u v : Int} : ∀ (l : List Int), l.Nodup -> u ≠ v -> l.countP (fun z => z == u || z == v) = (bif l.contains u then 1 else 0) + (bif l.contains v then 1 else 0)
 | [], _, _ => rfl
 | x :: l, hn, huv => by
  rw [List.nodup_cons] at hn
  have ih := count_two l hn.2 huv
  rw [List.countP_cons, ih, List.contains_cons, List.contains_cons]
  by_cases h1 : x = u
  ·subst h1
   have e1 : l.contains x = false := by rw [<- Bool.not_eq_true, List.contains_iff_mem]; exact hn.1
   have e2 : (v == x) = false := by rw [beq_eq_false_iff_ne]; exact fun h => huv h.symm
   rw [e1, e2, beq_self_eq_true]
   cases l.contains v <;> simp
  ·by_cases h2 : x = v
   ·subst h2
    have e1 : l.contains x = false := by rw [<- Bool.not_eq_true, List.contains_iff_mem]; exact hn.1
    have e2 : (u == x) = false := by rw [beq_eq_false_iff_ne]; exact huv
    rw [e1, e2, beq_self_eq_true, show (x == u) = false by rw [beq_eq_false_iff_ne]; exact h1]
    cases l.contains u <;> simp
   ·rw [show (x == u) = false by rw [beq_eq_false_iff_ne]; exact h1, show (x == v) = false by rw [beq_eq_false_iff_ne]; exact h2, show (u == x) = false by rw [beq_eq_false_iff_ne]; exact fun h => h1 h.symm, show (v == x) = false by rw [beq_eq_false_iff_ne]; exact fun h => h2 h.symm]
    simp
theorem ordRaw_len (q : D) : (ordRaw q).length <= 3 + 2 * (qP q).length := by
 unfold ordRaw
 have h1 : ((qP q).flatMap ordOf).length <= 2 * (qP q).length := flat_le _ fun e _ => by unfold ordOf; cases pairE e <;> simp
 have h2 : (ordCol (qBy q)).length <= 1 := by unfold ordCol; cases belowB (qBy q) 16 <;> simp
 have h3 : (ordCol (qOrd q)).length <= 1 := by unfold ordCol; cases belowB (qOrd q) 16 <;> simp
 simp only [List.length_append, List.length_singleton]
 omega
end Go.Ev
namespace Go.Ev
set_option linter.unusedVariables false
set_option linter.unusedSimpArgs false
/-- A table stays as it is while nothing below is written. -/
theorem tab_keep {P : Program} {w w' : World} {nm : String} {k : IntKind} {zs : List Int} (h : Lib.TabIs P w nm k zs) (hb : BelowX (fun _ => False) w.heap.size w w') : Lib.TabIs P w' nm k zs := by
 unfold Lib.TabIs World.var? at *
 cases hg : P.globalNamed nm with
 | none => rw [hg] at h; cases h
 | some g =>
  rw [hg] at h
  simp only [Option.bind_some] at h ⊢
  have hlt : g < w.heap.size := by
   rcases Nat.lt_or_ge g w.heap.size with hh | hh
   ·exact hh
   ·rw [Array.getElem?_eq_none hh] at h; cases h
  rw [hb.block g hlt (fun h => h)]
  exact h

/-! ### Multiplied -/
def topC : Int := 1099511627776
def capN (n : Nat) : Nat := min 1099511627776 n
def timesC (n b : Int) : Int := bif decide (b <= 0) then 0 else bif decide (n > IntKind.wrap .i64 (topC.tdiv b)) then topC else IntKind.wrap .i64 (n * b)
def timesL : Int -> List D -> Int
 | n, [] => n
 | n, x :: l => timesL (timesC n (intD x)) l
def prodN : List D -> Nat
 | [] => 1
 | x :: l => (intD x).toNat * prodN l

theorem capN_le (n : Nat) : capN n <= 1099511627776 := Nat.min_le_left _ _
theorem capN_mul (a b : Nat) : capN (capN a * b) = capN (a * b) := by
 unfold capN
 by_cases h : a <= 1099511627776
 ·rw [Nat.min_eq_right h]
 ·rw [Nat.min_eq_left (Nat.le_of_lt (Nat.lt_of_not_le h))]
  cases b with
  | zero => rfl
  | succ b =>
   have h1 : 1099511627776 <= 1099511627776 * (b + 1) := Nat.le_mul_of_pos_right _ (Nat.succ_pos b)
   have h2 : 1099511627776 * (b + 1) <= a * (b + 1) := Nat.mul_le_mul_right _ (by omega)
   rw [Nat.min_eq_left h1, Nat.min_eq_left (Nat.le_trans h1 h2)]
theorem capN_mul' (a b : Nat) : capN (a * capN b) = capN (a * b) := by rw [Nat.mul_comm, capN_mul, Nat.mul_comm]
theorem capN_mono {a b : Nat} (h : a <= b) : capN a <= capN b := by unfold capN; omega
theorem capN_small {a : Nat} (h : a <= 1099511627776) : capN a = a := Nat.min_eq_right h
theorem capN_pos {a : Nat} (h : 1 <= a) : 1 <= capN a := by unfold capN; omega

theorem timesC_eq (n : Nat) (hn : n <= 1099511627776) (b : Int) : timesC (n : Int) b = ((capN (n * b.toNat) : Nat) : Int) := by
 unfold timesC
 by_cases hb : b <= 0
 ·rw [decide_eq_true hb, cond_true]
  have : b.toNat = 0 := by omega
  rw [this, Nat.mul_zero]
  rfl
 ·rw [decide_eq_false hb, cond_false]
  obtain ⟨m, rfl⟩ : ∃ m : Nat, b = ((m + 1 : Nat) : Int) := ⟨b.toNat - 1, by omega⟩
  have hq : topC.tdiv ((m + 1 : Nat) : Int) = ((1099511627776 / (m + 1) : Nat) : Int) := by
   show Int.tdiv ((1099511627776 : Nat) : Int) ((m + 1 : Nat) : Int) = _
   rw [Int.ofNat_tdiv]
  have hle : 1099511627776 / (m + 1) <= 1099511627776 := Nat.div_le_self _ _
  have h1 : 1099511627776 / (m + 1) < n ↔ 1099511627776 < n * (m + 1) := Nat.div_lt_iff_lt_mul (Nat.succ_pos m)
  rw [hq, Int.toNat_natCast]
  generalize 1099511627776 / (m + 1) = k at hle h1
  rw [l_wrapI (l_in (by omega) (by omega))]
  by_cases h : k < n
  ·rw [decide_eq_true (show ((n : Int) > (k : Int)) by omega), cond_true]
   have := h1.1 h
   unfold capN
   rw [Nat.min_eq_left (Nat.le_of_lt this)]
   rfl
  ·rw [decide_eq_false (show ¬ ((n : Int) > (k : Int)) by omega), cond_false]
   have h2 : n * (m + 1) <= 1099511627776 := Nat.le_of_not_lt fun hh => h (h1.2 hh)
   rw [capN_small h2]
   have h3 : ((n : Int) * ((m + 1 : Nat) : Int)) = ((n * (m + 1) : Nat) : Int) := by rw [Int.natCast_mul]
   rw [h3]
   generalize n * (m + 1) = z at h2
   rw [l_wrapI (l_in (by omega) (by omega))]
theorem timesL_eq : ∀ (l : List D) (a : Nat), timesL ((capN a : Nat) : Int) l = ((capN (a * prodN l) : Nat) : Int)
 | [], a => by unfold timesL prodN; rw [Nat.mul_one]
 | x :: l, a => by
  unfold timesL prodN
  rw [timesC_eq _ (capN_le a), capN_mul, timesL_eq l, Nat.mul_assoc]
theorem times_eq (l : List D) : timesL 1 l = ((capN (prodN l) : Nat) : Int) := by
 have := timesL_eq l 1
 rw [Nat.one_mul] at this
 exact this
theorem prodN_append : ∀ (l k : List D), prodN (l ++ k) = prodN l * prodN k
 | [], k => by rw [List.nil_append, prodN, Nat.one_mul]
 | x :: l, k => by rw [List.cons_append, prodN, prodN, prodN_append l k, Nat.mul_assoc]
theorem prodN_perm {l k : List D} (h : l.Perm k) : prodN l = prodN k := by
 induction h with
 | nil => rfl
 | cons x _ ih => rw [prodN, prodN, ih]
 | swap x y l => rw [prodN, prodN, prodN, prodN, Nat.mul_left_comm]
 | trans _ _ h1 h2 => exact h1.trans h2
theorem prodN_pos : ∀ (l : List D), (∀ x ∈ l, 1 <= intD x) -> 1 <= prodN l
 | [], _ => Nat.le_refl _
 | x :: l, h => by
  have h1 := h x (List.mem_cons_self ..)
  have h2 := prodN_pos l (fun y hy => h y (List.mem_cons_of_mem _ hy))
  unfold prodN
  exact Nat.mul_pos (by omega) h2
theorem prodN_lit (a b : Int) : prodN [litI a, litI b] = a.toNat * b.toNat := by
 show a.toNat * (b.toNat * 1) = _
 rw [Nat.mul_one]
theorem maxI_eq (x y : Int) : maxI x y = max x y := by unfold maxI; split <;> omega
/-! ### What the functions answer -/
def kindI (e : D) : Int := bif pairE e then 0 else 1
def dv (e : D) : Nat := bif pairE e then 10 else 3
def rowsC (c q : D) (o : Int) : Int := intD (fieldD ((tabs c).getD (intD ((qOcc q).getD o.toNat .nil)).toNat .nil) 1)
def memB (s o : Int) : Bool := andI .i64 (Int.fdiv s (2 ^ min o.toNat (IntKind.bits .i64))) 1 == 1
def basesF (c q : D) (s : Int) (l : List Nat) : List D := l.flatMap fun (o : Nat) => bif memB s (o : Int) then [litI (rowsC c q (o : Int))] else []
def basesL (c q : D) (s : Int) : List D := basesF c q s (List.range (qOcc q).length)
/-- By how much those of a list divide, that are of the set. -/
def divN (s : Int) : List D -> Nat
 | [] => 1
 | e :: l => (bif hasS s (ofE e) then dv e else 1) * divN s l
def divI (q : D) (s : Int) : Int := ((divN s (qP q) : Nat) : Int)
def baseI (c q : D) (o : Int) : Int := bif mayQ c q && (decide (0 <= o) && decide (o < ((qOcc q).length : Int))) then rowsC c q o else 0
def rowsN (c q : D) (s : Int) : Nat := max 1 (capN (prodN (basesL c q s)) / divN s (qP q))
def rowsI (c q : D) (s : Int) : Int := bif mayQ c q then ((rowsN c q s : Nat) : Int) else 0
def groupsI (c q : D) : Int := bif mayQ c q then ((max 1 (rowsN c q 15 / 5) : Nat) : Int) else 0

/-! ### Divisors -/
theorem dv_pos (e : D) : 3 <= dv e /\ dv e <= 10 := by unfold dv; cases pairE e <;> simp
theorem divN_pos (s : Int) : ∀ l : List D, 1 <= divN s l
 | [] => Nat.le_refl _
 | e :: l => by
  have h1 := divN_pos s l
  have h2 := dv_pos e
  unfold divN
  refine Nat.mul_pos ?_ h1
  cases hasS s (ofE e)
  ·exact Nat.le_refl _
  ·show 0 < dv e; omega
theorem divN_le (s : Int) : ∀ l : List D, divN s l <= 10 ^ l.length
 | [] => Nat.le_refl _
 | e :: l => by
  have h1 := divN_le s l
  have h2 := dv_pos e
  unfold divN
  rw [List.length_cons, Nat.pow_succ, Nat.mul_comm (10 ^ l.length)]
  refine Nat.mul_le_mul ?_ h1
  cases hasS s (ofE e)
  ·show 1 <= 10; omega
  ·show dv e <= 10; omega
theorem divN_append (s : Int) : ∀ (l k : List D), divN s (l ++ k) = divN s l * divN s k
 | [], k => by rw [List.nil_append, divN, Nat.one_mul]
 | e :: l, k => by rw [List.cons_append, divN, divN, divN_append s l k, Nat.mul_assoc]
theorem divN_perm (s : Int) {l k : List D} (h : l.Perm k) : divN s l = divN s k := by
 induction h with
 | nil => rfl
 | cons x _ ih => rw [divN, divN, ih]
 | swap x y l => rw [divN, divN, divN, divN, Nat.mul_left_comm]
 | trans _ _ h1 h2 => exact h1.trans h2
theorem divN_none (s : Int) : ∀ l : List D, (∀ e ∈ l, hasS s (ofE e) = false) -> divN s l = 1
 | [], _ => rfl
 | e :: l, h => by
  unfold divN
  rw [h e (List.mem_cons_self ..), divN_none s l (fun x hx => h x (List.mem_cons_of_mem _ hx))]
  rfl
theorem divN_congr {s t : Int} : ∀ l : List D, (∀ e ∈ l, hasS s (ofE e) = hasS t (ofE e)) -> divN s l = divN t l
 | [], _ => rfl
 | e :: l, h => by
  unfold divN
  rw [h e (List.mem_cons_self ..), divN_congr l (fun x hx => h x (List.mem_cons_of_mem _ hx))]
/-- Two sets without a common one. -/
theorem divN_two {a b : Int} (hd : andI .i64 a b = 0) : ∀ l : List D, (∀ e ∈ l, ∃ i, inS (ofE e) i = true) -> divN a l * divN b l <= divN (orI .i64 a b) l
 | [], _ => Nat.le_refl _
 | e :: l, h => by
  have ih := divN_two hd l (fun x hx => h x (List.mem_cons_of_mem _ hx))
  have f1 : hasS a (ofE e) = true -> hasS (orI .i64 a b) (ofE e) = true := has_orl
  have f2 : hasS b (ofE e) = true -> hasS (orI .i64 a b) (ofE e) = true := has_orr
  have f3 := fun h1 h2 => has_not hd (h e (List.mem_cons_self ..)) h1 h2
  have h2 := dv_pos e
  unfold divN
  rw [show ∀ x y z u : Nat, (x * y) * (z * u) = (x * z) * (y * u) from fun x y z u => by rw [Nat.mul_assoc, Nat.mul_left_comm y, <- Nat.mul_assoc]]
  refine Nat.mul_le_mul ?_ ih
  revert f1 f2 f3
  cases hasS a (ofE e) <;> cases hasS b (ofE e) <;> cases hasS (orI .i64 a b) (ofE e) <;> simp <;> omega
/-- What is own of a set, by its places. -/
theorem own_nil {q : D} {s : Int} (h : ownL q s = []) : ∀ e ∈ qP q, hasS s (ofE e) = false := by
 have key : ∀ (l : List D) (i : Nat), plc (fun e => hasS s (ofE e)) l i = [] -> ∀ e ∈ l, hasS s (ofE e) = false := by
  intro l
  induction l with
  | nil => intro i _ e he; cases he
  | cons x l ih =>
   intro i hi e he
   unfold plc at hi
   rw [List.append_eq_nil_iff] at hi
   rcases List.mem_cons.1 he with rfl | he
   ·cases hx : hasS s (ofE e) with
    | false => rfl
    | true => rw [hx, cond_true] at hi; cases hi.1
   ·exact ih (i + 1) hi.2 e he
 exact key _ 0 h

/-! ### The product of a set's tables -/
theorem memB_in {s : Int} {o : Nat} (ho : o < 4) : memB s (o : Int) = inS s o := by
 have key : ∀ x : Int, (andI .i64 x 1 == 1) = (x % 2 == 1) := by
  intro x
  unfold andI
  show (IntKind.wrap .i64 ((BitVec.ofInt 64 x &&& BitVec.ofInt 64 1).toNat : Int) == 1) = _
  rw [show BitVec.ofInt 64 1 = 1#64 from rfl, BitVec.toNat_and, show (1#64).toNat = 1 from rfl, Nat.and_one_is_mod, BitVec.toNat_ofInt]
  have h2 : ((x % ((2 ^ 64 : Nat) : Int)).toNat % 2 : Nat) = (x % 2).toNat := by
   have : ((2 ^ 64 : Nat) : Int) = 18446744073709551616 := by decide
   rw [this]
   omega
  rw [h2]
  have h3 : (x % 2).toNat = 0 \/ (x % 2).toNat = 1 := by omega
  rcases h3 with h3 | h3
  ·rw [h3]
   have : x % 2 = 0 := by omega
   rw [this]; decide
  ·rw [h3]
   have : x % 2 = 1 := by omega
   rw [this]; decide
 have hin : inS s o = ((s / (2 ^ o : Nat)) % 2 == 1) := by
  unfold inS
  rw [BitVec.getLsbD, BitVec.toNat_ofInt, Nat.testBit_eq_decide_div_mod_eq]
  have hp : ((2 ^ 64 : Nat) : Int) = 18446744073709551616 := by decide
  rw [hp, Bool.eq_iff_iff, decide_eq_true_eq, beq_iff_eq]
  have h4 : o = 0 \/ o = 1 \/ o = 2 \/ o = 3 := by omega
  rcases h4 with rfl | rfl | rfl | rfl <;> simp <;> omega
 rw [hin]
 unfold memB
 rw [key]
 have h4 : o = 0 \/ o = 1 \/ o = 2 \/ o = 3 := by omega
 rcases h4 with rfl | rfl | rfl | rfl
 ·show (Int.fdiv s 1 % 2 == 1) = _
  rw [Int.fdiv_eq_ediv_of_nonneg _ (by omega)]; rfl
 ·show (Int.fdiv s 2 % 2 == 1) = _
  rw [Int.fdiv_eq_ediv_of_nonneg _ (by omega)]; rfl
 ·show (Int.fdiv s 4 % 2 == 1) = _
  rw [Int.fdiv_eq_ediv_of_nonneg _ (by omega)]; rfl
 ·show (Int.fdiv s 8 % 2 == 1) = _
  rw [Int.fdiv_eq_ediv_of_nonneg _ (by omega)]; rfl
theorem bases_cons (c q : D) (s : Int) (o : Nat) (l : List Nat) : prodN (basesF c q s (o :: l)) = (bif memB s (o : Int) then (rowsC c q (o : Int)).toNat else 1) * prodN (basesF c q s l) := by
 unfold basesF
 rw [List.flatMap_cons, prodN_append]
 cases memB s (o : Int)
 ·rfl
 ·show (rowsC c q (o : Int)).toNat * 1 * _ = _
  rw [Nat.mul_one]
  rfl
theorem bases_two {c q : D} {a b : Int} (hd : andI .i64 a b = 0) : ∀ l : List Nat, (∀ o ∈ l, o < 4) -> prodN (basesF c q (orI .i64 a b) l) = prodN (basesF c q a l) * prodN (basesF c q b l)
 | [], _ => rfl
 | o :: l, h => by
  have ho := h o (List.mem_cons_self ..)
  rw [bases_cons, bases_cons, bases_cons, bases_two hd l (fun x hx => h x (List.mem_cons_of_mem _ hx)), memB_in ho, memB_in ho, memB_in ho, inS_or]
  rw [show ∀ x y z u : Nat, (x * y) * (z * u) = (x * z) * (y * u) from fun x y z u => by rw [Nat.mul_assoc, Nat.mul_left_comm y, <- Nat.mul_assoc]]
  have hn := and_zero.1 hd o
  revert hn
  cases inS a o <;> cases inS b o <;> simp
theorem flat_congr {f g : Nat -> List D} : ∀ (l : List Nat), (∀ o ∈ l, f o = g o) -> l.flatMap f = l.flatMap g
 | [], _ => rfl
 | o :: l, h => by rw [List.flatMap_cons, List.flatMap_cons, h o (List.mem_cons_self ..), flat_congr l fun x hx => h x (List.mem_cons_of_mem _ hx)]
theorem bases_congr {c q : D} {s t : Int} (l : List Nat) (h : ∀ o ∈ l, memB s (o : Int) = memB t (o : Int)) : basesF c q s l = basesF c q t l :=
 flat_congr l fun o ho => congrArg (fun b => bif b then [litI (rowsC c q (o : Int))] else []) (h o ho)

theorem rowsN_pos (c q : D) (s : Int) : 1 <= rowsN c q s := by unfold rowsN; omega
theorem rowsN_le (c q : D) (s : Int) : rowsN c q s <= 1099511627776 := by
 unfold rowsN
 have h1 := capN_le (prodN (basesL c q s))
 have h2 : capN (prodN (basesL c q s)) / divN s (qP q) <= capN (prodN (basesL c q s)) := Nat.div_le_self _ _
 generalize capN (prodN (basesL c q s)) / divN s (qP q) = k at h2 ⊢
 omega
/-- Two parts, each rounded: the product of what is more than each is more than the whole. -/
theorem parts_less {A B x y d e f : Nat} (hA : 1 <= A) (hB : 1 <= B) (hd : 1 <= d) (he : 1 <= e) (hf : d * e <= f) (hx : capN A / d <= x) (hy : capN B / e <= y) : capN (A * B) / f <= (x + 1) * (y + 1) := by
 have h1 : capN A < (x + 1) * d := by
  have := (Nat.div_lt_iff_lt_mul (show 0 < d by omega)).1 (Nat.lt_succ_of_le hx)
  exact this
 have h2 : capN B < (y + 1) * e := (Nat.div_lt_iff_lt_mul (show 0 < e by omega)).1 (Nat.lt_succ_of_le hy)
 have h3 : capN (A * B) <= capN A * capN B := by
  by_cases hA2 : A <= 1099511627776
  ·by_cases hB2 : B <= 1099511627776
   ·rw [capN_small hA2, capN_small hB2]; unfold capN; omega
   ·have hcB : capN B = 1099511627776 := by unfold capN; omega
    rw [hcB]
    exact Nat.le_trans (capN_le _) (Nat.le_mul_of_pos_left _ (capN_pos hA))
  ·have hcA : capN A = 1099511627776 := by unfold capN; omega
   rw [hcA]
   exact Nat.le_trans (capN_le _) (Nat.le_mul_of_pos_right _ (capN_pos hB))
 have h4 : capN A * capN B <= ((x + 1) * d) * ((y + 1) * e) := Nat.mul_le_mul (Nat.le_of_lt h1) (Nat.le_of_lt h2)
 have h5 : ((x + 1) * d) * ((y + 1) * e) = ((x + 1) * (y + 1)) * (d * e) := by rw [Nat.mul_assoc, Nat.mul_left_comm d, <- Nat.mul_assoc]
 have h6 : capN (A * B) <= ((x + 1) * (y + 1)) * f := Nat.le_trans h3 (Nat.le_trans h4 (by rw [h5]; exact Nat.mul_le_mul_left _ hf))
 exact Nat.div_le_of_le_mul (Nat.le_trans h6 (Nat.le_of_eq (Nat.mul_comm _ _)))

/-! ### What may be asked -/
theorem mayQ_parts {c q : D} (h : mayQ c q = true) : mayCat c = true /\ occMayB c q = true /\ (qP q).length <= 6 /\ ∀ e ∈ qP q, (colsE e).isEmpty = false /\ areColB c q (colsE e) = true := by
 unfold mayQ at h
 simp only [Bool.and_eq_true] at h
 obtain ⟨h1, h2, h3, _⟩ := h
 unfold exprMayB at h3
 rw [Bool.and_eq_true, decide_eq_true_eq, List.all_eq_true] at h3
 refine ⟨h1, h2, h3.1, fun e he => ?_⟩
 have := h3.2 e he
 unfold exprB at this
 rw [Bool.and_eq_true, Bool.not_eq_true'] at this
 exact this
theorem occ_len9 {c q : D} (h : occMayB c q = true) : 1 <= (qOcc q).length /\ (qOcc q).length <= 4 := by
 unfold occMayB at h
 simp only [Bool.and_eq_true, decide_eq_true_eq] at h
 exact h.1
theorem rowsC_in {c q : D} (h1 : mayCat c = true) (h2 : occMayB c q = true) {o : Nat} (ho : o < (qOcc q).length) : 1 <= rowsC c q (o : Int) /\ rowsC c q (o : Int) <= 1000000 := by
 obtain ⟨_, _, h3⟩ := mayCat_iff.1 h1
 unfold occMayB at h2
 simp only [Bool.and_eq_true, List.all_eq_true] at h2
 have hb := h2.2 _ (List.getElem_mem ho)
 unfold belowB at hb
 simp only [Bool.and_eq_true, decide_eq_true_eq] at hb
 unfold rowsC
 rw [Int.toNat_natCast, l_get ho]
 have hlt : (intD (qOcc q)[o]).toNat < (tabs c).length := by omega
 rw [l_get hlt]
 have := mayDef_iff.1 (h3 _ (List.getElem_mem hlt))
 exact ⟨this.2.2.1, this.2.2.2⟩
theorem bases_pos {c q : D} {s : Int} (h1 : mayCat c = true) (h2 : occMayB c q = true) : 1 <= prodN (basesL c q s) := by
 refine prodN_pos _ fun x hx => ?_
 unfold basesL basesF at hx
 rw [List.mem_flatMap] at hx
 obtain ⟨o, ho, hx⟩ := hx
 rw [List.mem_range] at ho
 cases hm : memB s (o : Int) with
 | false => rw [hm] at hx; cases hx
 | true =>
  rw [hm, cond_true, List.mem_singleton] at hx
  rw [hx]
  exact (rowsC_in h1 h2 ho).1
def dvl (ps : List D) : List D -> Nat
 | [] => 1
 | x :: l => dv (ps.getD (intD x).toNat .nil) * dvl ps l
theorem dvl_plc (ps : List D) (s : Int) : ∀ (es : List D) (i : Nat), ps.drop i = es -> dvl ps (plc (fun e => hasS s (ofE e)) es i) = divN s es
 | [], _, _ => rfl
 | e :: es, i, h => by
  have hi : i < ps.length := by
   rcases Nat.lt_or_ge i ps.length with hh | hh
   ·exact hh
   ·rw [List.drop_of_length_le hh] at h; cases h
  rw [List.drop_eq_getElem_cons hi] at h
  injection h with h1 h2
  have ih := dvl_plc ps s es (i + 1) h2
  rw [plc_cons]
  unfold divN
  cases hs : hasS s (ofE e) with
  | false => rw [cond_false, cond_false, Nat.one_mul]; exact ih
  | true =>
   rw [cond_true, cond_true]
   show dv (ps.getD (i : Int).toNat .nil) * dvl ps (plc _ es (i + 1)) = _
   rw [ih, Int.toNat_natCast, l_get hi, h1]
theorem dvl_own (q : D) (s : Int) : dvl (qP q) (ownL q s) = divN s (qP q) := dvl_plc _ s _ 0 rfl
theorem rows_eq (c q : D) (s : Int) : maxI 1 (IntKind.wrap .i64 (Int.tdiv (timesL 1 (basesL c q s)) (divI q s))) = ((rowsN c q s : Nat) : Int) := by
 have h1 := capN_le (prodN (basesL c q s))
 have h2 : capN (prodN (basesL c q s)) / divN s (qP q) <= capN (prodN (basesL c q s)) := Nat.div_le_self _ _
 unfold divI rowsN
 rw [times_eq, <- Int.ofNat_tdiv, maxI_eq]
 generalize capN (prodN (basesL c q s)) / divN s (qP q) = k at h2
 rw [l_wrapI (l_in (by omega) (by omega))]
 omega
theorem cgroups_eq {c q : D} (hm : mayQ c q = true) : maxI 1 (IntKind.wrap .i64 (Int.tdiv (rowsI c q 15) 5)) = ((max 1 (rowsN c q 15 / 5) : Nat) : Int) := by
 have h1 := rowsN_le c q 15
 have h2 : rowsN c q 15 / 5 <= rowsN c q 15 := Nat.div_le_self _ _
 unfold rowsI
 rw [hm, cond_true, show (5 : Int) = ((5 : Nat) : Int) from rfl, <- Int.ofNat_tdiv, l_wrapI (l_in (by omega) (by omega)), maxI_eq]
 omega
/-! ### The example -/
def exP : D := .agg [litI 6, litI 0, .agg [litI 0, litI 0], .slice [colX 0, colX 4] []]
def exQ : D := .agg [.slice [litI 0, litI 1] [], .slice [exP] [], litI (-1), .slice [] [], .slice [litI 0] [], litI (-1)]
theorem exP_cols : colsE exP = [litI 0, litI 4] := by
 have h1 : mayE exP = true := rfl
 have h2 : colsK 7 exP = [litI 0, litI 4] := rfl
 unfold colsE
 rw [h1, h2, cond_true]
 have h3 : sortD [litI 0, litI 4] = [litI 0, litI 4] := by
  unfold sortD sortI
  have : [litI 0, litI 4].map intD = [0, 4] := rfl
  rw [this, List.mergeSort_of_pairwise (by simp)]
  rfl
 rw [h3]
 rfl
theorem exP_of : ofE exP = 3 := by unfold ofE; rw [exP_cols]; decide
theorem exQ_P : qP exQ = [exP] := rfl
theorem exQ_may : mayQ catTwo exQ = true := by
 have h : exprMayB catTwo exQ = true := by
  unfold exprMayB exprB
  rw [exQ_P, List.all_cons, exP_cols]
  decide
 have h2 : mayCat catTwo = true := by decide
 have h3 : occMayB catTwo exQ = true := by decide
 have h4 : endB catTwo exQ = true := by decide
 unfold mayQ
 rw [h, h2, h3, h4]
 rfl
theorem exP_pair : pairE exP = true := rfl
theorem exQ_div (s : Int) : divN s (qP exQ) = (bif hasS s 3 then 10 else 1) * 1 := by
 rw [exQ_P]
 unfold divN divN dv
 rw [exP_of, exP_pair]
 rfl
theorem exQ_rows3 : rowsI catTwo exQ 3 = 100 := by
 unfold rowsI rowsN
 rw [exQ_may, exQ_div, show hasS 3 3 = true by decide]
 decide
theorem exQ_rows1 : rowsI catTwo exQ 1 = 100 := by
 unfold rowsI rowsN
 rw [exQ_may, exQ_div, show hasS 1 3 = false by decide]
 decide
theorem exQ_groups : groupsI catTwo exQ = 20 := by
 unfold groupsI rowsN
 rw [exQ_may, exQ_div, show hasS 15 3 = true by decide]
 decide
theorem exQ_base : baseI catTwo exQ 1 = 10 := by
 unfold baseI
 rw [exQ_may]
 decide
theorem ex_times : timesL 1 [litI 6, litI 7] = 42 := by
 rw [times_eq]
 decide
end Go.Ev
