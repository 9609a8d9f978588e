/- Trees of functions, and lemmas. Nothing here is trusted. -/
import Derived.Test.YtdacippnonhahaaDoorZ17
import Derived.Test.YtdacippnonhahaaDoorZ16
import Derived.Test.YtdacippnonhahaaDoorZ00
import Derived.Lib.Slices
namespace Go.Ev
set_option linter.unusedVariables false
set_option linter.unusedSimpArgs false
def intsB (a b : List D) : Bool := a.map intD == b.map intD
def bCols (b : D) : List D := elemsD (fieldD b 0)
def bRows (b : D) : List D := elemsD (fieldD b 1)
def bagD (cols rows : List D) : D := .agg [.slice cols [], .slice rows []]
def placeI (cols : List D) (c : Int) : Int := Lib.idxOf (cols.map intD) c
/-- What a row is ordered by. -/
def rankD (row : List D) (p : Int) : D :=
 bif decide (p < 0) || decide (p >= (row.length : Int)) then .agg [litI 0, litI 0]
 else bif mayB (row.getD p.toNat .nil) then .agg [litI (kk (row.getD p.toNat .nil)), litI (nn (row.getD p.toNat .nil))] else .agg [litI 2, litI 0]
def valueD (r : D) : D := vv (intD (fieldD r 0)) (intD (fieldD r 1))
def rankEq (a b : D) : Bool := (intD (fieldD a 0) == intD (fieldD b 0)) && ((intD (fieldD a 1) == intD (fieldD b 1)) && true)
def againstI (a b : D) : Int := bif rankEq a b then 0 else bif lessB (valueD a) (valueD b) then -1 else 1
def keyR (r : D) : Key := (kk (readD (valueD r)), nn (readD (valueD r)))
def keyE (e : D) : Key := keyR (fieldD e 0)
/-- No two the same. -/
def nodupI : List Int -> Bool
 | [] => true
 | x :: l => !l.contains x && nodupI l
def colsMayB (l : List D) : Bool := (l.map intD).all (fun c => decide (0 <= c) && decide (c <= 15)) && nodupI (l.map intD)
def rowsMayB (b : D) : Bool := (bRows b).all fun r => ((elemsD r).length == (bCols b).length) && (elemsD r).all mayB
def mayBagB (b : D) : Bool := colsMayB (bCols b) && decide ((bRows b).length <= 5000) && rowsMayB b
def pairI (x : D) : Int × Int := (kk x, nn x)
def rowI (r : D) : List (Int × Int) := (elemsD r).map pairI
def rowEqB (a b : List D) : Bool := a.map pairI == b.map pairI
def likeB (a b : D) : Bool := intsB (bCols a) (bCols b) && ((bRows a).map rowI == (bRows b).map rowI)
def fewBagB (b : D) (most : Int) : Bool := decide (((bRows b).length : Int) <= most) && decide ((bCols b).length <= 20) && (bRows b).all fun r => decide ((elemsD r).length <= 20)
def hasB (l : List D) (c : Int) : Bool := (l.map intD).contains c
def hasAllB (all some : List D) : Bool := (some.map intD).all (fun c => hasB all c)
def alikeN (rows : List D) (p : Int) : Nat := 1 + ((rows.drop 1).takeWhile fun r => rankEq (rankD (elemsD r) p) (rankD (elemsD (rows.getD 0 .nil)) p)).length
def columnL (rows : List D) (p : Int) : List D := rows.map fun r => (elemsD r).getD p.toNat .nil
def colOK (rows : List D) (p : Int) : Bool := decide (0 <= p) && decide (rows.length <= 2147483648) && rows.all fun r => decide (p < ((elemsD r).length : Int))
def summedL (b : D) (p : Int) (sums : List D) : List D :=
 (elemsD ((bRows b).getD 0 .nil)).getD p.toNat .nil :: vv 0 ((bRows b).length : Int) :: sums.map fun c => sumD (columnL (bRows b) (placeI (bCols b) (intD c)))
def sumOK (b : D) (p : Int) (sums : List D) : Bool :=
 decide (0 < (bRows b).length) && decide (sums.length <= 1000) && colOK (bRows b) p && sums.all fun c => colOK (bRows b) (placeI (bCols b) (intD c))
def groupColsL (by_ n : Int) : List D := litI by_ :: (List.range (n.toNat + 1)).map fun (i : Nat) => litI (16 + (i : Int))
def big : Nat := 2147483648
def sortOK (b : D) : Bool := decide ((bRows b).length <= 2147483648) && decide ((bCols b).length <= 2147483648) && (bRows b).all fun r => decide ((elemsD r).length <= 2147483648)
def keyAt (p : Int) (r : D) : Key := keyR (rankD (elemsD r) p)
def sortRows (p : Int) (rows : List D) : List D := sortK (keyAt p) rows
def sortBag (b : D) (c : Int) : D := bagD (bCols b) (sortRows (placeI (bCols b) c) (bRows b))
/-- In order, one by one. -/
def adjB (p : Int) : List D -> Bool
 | x :: y :: l => !klt (keyAt p y) (keyAt p x) && adjB p (y :: l)
 | _ => true
def sortedB (b : D) (c : Int) : Bool := adjB (placeI (bCols b) c) (bRows b)
/-- The groups of rows in order. -/
def grpK (cols : List D) (p : Int) (sums : List D) : Nat -> List D -> List D
 | 0, _ => []
 | _ + 1, [] => []
 | k + 1, rows => .slice (summedL (bagD cols (rows.take (alikeN rows p))) p sums) [] :: grpK cols p sums k (rows.drop (alikeN rows p))
def groupOK (b : D) (by_ : Int) (sums : List D) : Bool := mayBagB b && hasB (bCols b) by_ && hasAllB (bCols b) sums && decide (sums.length <= 4)
def groupBag (b : D) (by_ : Int) (sums : List D) : D :=
 bif groupOK b by_ sums then bagD (groupColsL by_ (sums.length : Int)) (grpK (bCols b) (placeI (bCols b) by_) sums (bRows b).length (sortRows (placeI (bCols b) by_) (bRows b))) else bagD [] []
def threeD : D := bagD [litI 0, litI 1] [.slice [vv 0 1, vv 0 2] [], .slice [vv 0 3, vv 0 4] [], .slice [vv 0 1, vv 0 5] []]
/-- Pieces of a row that is sorted in place. -/
def seg (a b : Nat) (l : List D) : List D := (l.drop a).take (b - a)
def putSeg (a b : Nat) (l m : List D) : List D := l.take a ++ m ++ l.drop b
def insOK (es : List D) (a b : Int) : Bool := decide (0 <= a) && decide (a <= b) && decide (b <= (es.length : Int)) && decide (es.length <= 2147483648)
def insL (es : List D) (a b : Int) : List D := putSeg a.toNat b.toNat es (sortK keyE (seg a.toNat b.toNat es))
def swpOK (es : List D) (a b n : Int) : Bool := decide (0 <= a) && decide (0 <= n) && decide (a + n <= b) && decide (b + n <= (es.length : Int)) && decide (es.length <= 2147483648)
def swpL (es : List D) (a b n : Int) : List D :=
 es.take a.toNat ++ (es.drop b.toNat).take n.toNat ++ (es.drop (a + n).toNat).take (b - (a + n)).toNat ++ (es.drop a.toNat).take n.toNat ++ es.drop (b + n).toNat
def rotOK (es : List D) (a m b : Int) : Bool := decide (0 <= a) && decide (a < m) && decide (m < b) && decide (b <= (es.length : Int)) && decide (es.length <= 2147483648)
def rotL (es : List D) (a m b : Int) : List D := es.take a.toNat ++ (es.drop m.toNat).take (b - m).toNat ++ (es.drop a.toNat).take (m - a).toNat ++ es.drop b.toNat
def srtB : List D -> Bool
 | [] => true
 | x :: l => (l.all fun y => !klt (keyE y) (keyE x)) && srtB l
theorem srtB_iff : ∀ {l : List D}, srtB l = true ↔ Srt keyE l
 | [] => by simp [srtB, Srt]
 | x :: l => by
  have ih := srtB_iff (l := l)
  unfold Srt at ih ⊢
  rw [List.pairwise_cons, srtB, Bool.and_eq_true, ih, List.all_eq_true]
  simp
def symOK (K : Nat) (es : List D) (a m b : Int) : Bool := decide (0 <= a) && decide (a < m) && decide (m < b) && decide (b <= (es.length : Int)) && decide (es.length <= 2147483648) && decide (b - a < (K : Int)) &&
 srtB (seg a.toNat m.toNat es) && srtB (seg m.toNat b.toNat es)
def stbOK (es : List D) (n : Int) : Bool := (n == (es.length : Int)) && decide (es.length <= 2147483648)
section
theorem l_idx {i n : Nat} (h : i < n) : (decide (0 <= (i : Int)) && decide ((i : Int) < (n : Int))) = true := by simp [h]
theorem l_lt {i n : Nat} (h : i < n) : decide ((i : Int) < (n : Int)) = true := by simp [h]
theorem l_ge {i n : Nat} (h : ¬ i < n) : decide ((i : Int) < (n : Int)) = false := by simpa using h
theorem l_wrap {i n : Nat} (hn : n <= maxLen) (h : i < n) : IntKind.wrap .i64 ((i : Int) + 1) = ((i + 1 : Nat) : Int) := by
 rw [wrap_in]
 ·omega
 ·rw [inR_iff]; unfold maxLen at hn; omega
theorem l_wrapI {z : Int} (h : inR z = true) : IntKind.wrap .i64 z = z := wrap_in h
theorem l_in {z : Int} (h1 : -4611686018427387904 <= z) (h2 : z <= 4611686018427387904) : inR z = true := by rw [inR_iff]; omega
theorem l_get {l : List D} {i : Nat} (h : i < l.length) : l.getD i .nil = l[i] := by simp [List.getD, h]
theorem l_nef {a b : Nat} (h : a = b) : ((a : Int) != (b : Int)) = false := by subst h; simp
theorem l_net {a b : Nat} (h : a ≠ b) : ((a : Int) != (b : Int)) = true := by simp; omega
theorem l_eqt {a b : Nat} (h : a = b) : (a == b) = true := by simp [h]
theorem l_eqf {a b : Nat} (h : a ≠ b) : (a == b) = false := by simp [h]
theorem l_nat (i : Nat) : ((i : Int)).toNat = i := Int.toNat_natCast i

/-- A loop that ends at once where p is so. -/
theorem l_loop {ρ : Type} (LP : Nat -> Int -> Option ρ) (L : Nat) (p : Nat -> Bool) (T F : Option ρ)
  (hstep : ∀ (n i : Nat), i < L -> LP (n + 1) (i : Int) = bif p i then T else LP n ((i + 1 : Nat) : Int)) (hend : ∀ n, LP (n + 1) (L : Int) = F) :
  ∀ (n i : Nat), i <= L -> L - i < n -> LP n (i : Int) = bif (List.range' i (L - i)).any p then T else F
 | 0, i, _, h => by omega
 | n + 1, i, hi, h => by
  by_cases hlt : i < L
  ·rw [hstep n i hlt, l_loop LP L p T F hstep hend n (i + 1) (by omega) (by omega)]
   have : L - i = (L - (i + 1)) + 1 := by omega
   rw [this, List.range'_succ, List.any_cons]
   cases p i <;> rfl
  ·have : i = L := by omega
   subst this
   rw [hend]
   simp
theorem l_any (l : List D) (q : D -> Bool) : ∀ k, (List.range' k (l.length - k)).any (fun i => q (l.getD i .nil)) = (l.drop k).any q := by
 intro k
 generalize hm : l.length - k = m
 induction m generalizing k with
 | zero =>
  have : l.drop k = [] := List.drop_of_length_le (by omega)
  rw [this]; rfl
 | succ m ih =>
  have hk : k < l.length := by omega
  rw [List.range'_succ, List.any_cons, ih (k + 1) (by omega), List.drop_eq_getElem_cons hk, List.any_cons, l_get hk]
theorem l_any0 (l : List D) (q : D -> Bool) : (List.range' 0 l.length).any (fun i => q (l.getD i .nil)) = l.any q := by
 have := l_any l q 0
 simpa using this
/-- Two lists, place by place. -/
theorem l_any2 {β : Type} [BEq β] [LawfulBEq β] (f : D -> β) : ∀ (a b : List D), a.length = b.length -> (!(List.range' 0 a.length).any fun i => !(f (a.getD i .nil) == f (b.getD i .nil))) = (a.map f == b.map f) := by
 intro a b hl
 rw [Bool.eq_iff_iff, Bool.not_eq_true', <- Bool.not_eq_true, List.any_eq_true, beq_iff_eq]
 constructor
 ·intro h
  apply List.ext_getElem
  ·simpa using hl
  ·intro i h1 h2
   simp only [List.length_map] at h1 h2
   simp only [List.getElem_map]
   have := fun hh => h ⟨i, List.mem_range'_1.2 ⟨Nat.zero_le _, by omega⟩, hh⟩
   rw [l_get h1, l_get h2] at this
   simpa using this
 ·rintro h ⟨i, hi, hn⟩
  have hi := (List.mem_range'_1.1 hi).2
  have h1 : i < a.length := by omega
  have h2 : i < b.length := by omega
  rw [l_get h1, l_get h2] at hn
  have := congrArg (fun l => l[i]?) h
  simp only [List.getElem?_map, List.getElem?_eq_getElem h1, List.getElem?_eq_getElem h2, Option.map_some, Option.some.injEq] at this
  simp [this] at hn

theorem l_set {α β : Type} (F : α -> β) {ks : List α} {tl : List β} {i : Nat} (h : i < ks.length) (ht : tl.length = ks.length - i) :
  ((ks.take i).map F ++ tl).set i (F ks[i]) = (ks.take (i + 1)).map F ++ tl.drop 1 := by
 cases tl with
 | nil => simp at ht; omega
 | cons b tl =>
  rw [List.set_append_right _ _ (by simp; omega)]
  have : i - ((ks.take i).map F).length = 0 := by simp; omega
  rw [this, List.take_succ_eq_append_getElem h, List.map_append]
  simp

/-! ### Columns that may be -/
def seenD (s : List Int) : D := .agg ((List.range 16).map fun (i : Nat) => .lit (.bool (s.contains (Int.ofNat i))))
theorem seen_nil : seenD [] = .agg [.lit (.bool false), .lit (.bool false), .lit (.bool false), .lit (.bool false), .lit (.bool false), .lit (.bool false), .lit (.bool false), .lit (.bool false), .lit (.bool false), .lit (.bool false), .lit (.bool false), .lit (.bool false), .lit (.bool false), .lit (.bool false), .lit (.bool false), .lit (.bool false)] := rfl
theorem seen_get {s : List Int} {c : Int} (h0 : 0 <= c) (h : c < 16) : boolD (fieldD (seenD s) c.toNat) = s.contains c := by
 have : c.toNat < 16 := by omega
 simp only [seenD, fieldD, partsD, List.getD, List.getElem?_map, List.getElem?_range this, Option.map_some, Option.getD_some, boolD]
 congr 1
 show ((c.toNat : Nat) : Int) = c
 omega
theorem seen_set {s : List Int} {c : Int} (h0 : 0 <= c) (h : c < 16) : setD (seenD s) c.toNat (.lit (.bool true)) = seenD (c :: s) := by
 have hc : c.toNat < 16 := by omega
 simp only [seenD, setD, partsD]
 congr 1
 apply List.ext_getElem?
 intro j
 rw [List.getElem?_set]
 by_cases hj : j < 16
 ·simp only [List.getElem?_map, List.getElem?_range hj, Option.map_some, List.length_map, List.length_range]
  by_cases he : c.toNat = j
  ·have : (j : Int) = c := by omega
   simp [he, hj, this]
  ·have : ¬ ((j : Int) = c) := by omega
   simp [he, this]
 ·have h1 : (List.range 16)[j]? = none := List.getElem?_eq_none (by simp; omega)
  have : ¬ c.toNat = j := by omega
  simp [this, h1]
def colsFrom (s : List Int) : List Int -> Bool
 | [] => true
 | c :: l => decide (0 <= c) && (decide (c <= 15) && (!s.contains c && colsFrom (c :: s) l))
theorem colsFrom_eq : ∀ (l s : List Int), colsFrom s l = (l.all (fun c => decide (0 <= c) && decide (c <= 15)) && (nodupI l && l.all fun c => !s.contains c))
 | [], s => rfl
 | c :: l, s => by
  rw [colsFrom, colsFrom_eq l (c :: s), nodupI, List.all_cons, List.all_cons]
  have : (l.all fun x => !(c :: s).contains x) = (!l.contains c && l.all fun x => !s.contains x) := by
   rw [Bool.eq_iff_iff]
   simp only [List.all_eq_true, Bool.and_eq_true, Bool.not_eq_true', List.contains_cons, Bool.or_eq_false_iff, beq_eq_false_iff_ne]
   constructor
   ·intro h
    refine ⟨?_, fun x hx => (h x hx).2⟩
    rw [<- Bool.not_eq_true]
    intro hc
    exact (h c (by simpa using hc)).1 rfl
   ·rintro ⟨h1, h2⟩ x hx
    refine ⟨fun he => ?_, h2 x hx⟩
    subst he
    rw [<- Bool.not_eq_true] at h1
    exact h1 (by simpa using hx)
  rw [this]
  cases decide (0 <= c) <;> cases decide (c <= 15) <;> cases s.contains c <;> cases l.contains c <;> cases nodupI l <;> simp
theorem cols_all (l : List Int) : colsFrom [] l = (l.all (fun c => decide (0 <= c) && decide (c <= 15)) && nodupI l) := by
 rw [colsFrom_eq]
 have : (l.all fun c => !([] : List Int).contains c) = true := by simp
 rw [this, Bool.and_true]

/-! ### Functions that ask something of what they are handed -/
def preD (q : List D -> Bool) : List AV -> Bool := fun as => q (as.map (·.d))
def q1 (q : D -> Bool) : List D -> Bool | [x] => q x | _ => false
def q2 (q : D -> D -> Bool) : List D -> Bool | [x, y] => q x y | _ => false
def q3 (q : D -> D -> D -> Bool) : List D -> Bool | [x, y, z] => q x y z | _ => false
section
variable {P : Program}
theorem ent_okp {f : FuncId} {t : TypeId} {ts : List TypeId} {q : List D -> Bool} {F : List D -> Option D} (h : ∀ ds d, ds.length = ts.length -> q ds = true -> F ds = some d -> CallOK P f (List.zipWith dat ts ds) (mkRes P t d)) :
  ∀ args d, preD q args = true -> ent ts F args = some d -> CallOK P f args (mkRes P t d) := by
 intro args d hp hd
 have key := ent_ok (P := P) (f := f) (t := t) (ts := ts) (F := fun ds => if q ds = true then F ds else none) (fun ds d hl hd => by
  split at hd
  ·rename_i hq; exact h ds d hl hq hd
  ·cases hd) args d
 refine key ?_
 unfold ent at hd ⊢
 split at hd
 ·rename_i hs
  rw [if_pos hs]
  unfold preD at hp
  simp only
  rw [if_pos hp]
  exact hd
 ·cases hd
theorem ent1p {f : FuncId} {fn : Func} {t t1 : TypeId} {q : D -> Bool} {F : D -> Option D} (hf : FnOK P f fn) (h : ∀ x d, q x = true -> F x = some d -> (∃ n, Ty P n t1 x) -> CallOK P f [dat t1 (normD P t1 x)] (mkRes P t d)) :
  ∀ args d, preD (q1 q) args = true -> ent [t1] (f1 F) args = some d -> CallOK P f args (mkRes P t d) :=
 ent_okp fun ds d hl hq hd => match ds, hl, hq, hd with
  | [x], _, hq, hd => CallOK.typed hf.ex (mk_tag t d) fun hty => (h x d hq hd (hty (dat t1 x) (by simp))).norm
theorem ent2p {f : FuncId} {fn : Func} {t t1 t2 : TypeId} {q : D -> D -> Bool} {F : D -> D -> Option D} (hf : FnOK P f fn) (h : ∀ x y d, q x y = true -> F x y = some d -> (∃ n, Ty P n t1 x) -> (∃ n, Ty P n t2 y) -> CallOK P f [dat t1 (normD P t1 x), dat t2 (normD P t2 y)] (mkRes P t d)) :
  ∀ args d, preD (q2 q) args = true -> ent [t1, t2] (f2 F) args = some d -> CallOK P f args (mkRes P t d) :=
 ent_okp fun ds d hl hq hd => match ds, hl, hq, hd with
  | [x, y], _, hq, hd => CallOK.typed hf.ex (mk_tag t d) fun hty => (h x y d hq hd (hty (dat t1 x) (by simp)) (hty (dat t2 y) (by simp))).norm
theorem ent3p {f : FuncId} {fn : Func} {t t1 t2 t3 : TypeId} {q : D -> D -> D -> Bool} {F : D -> D -> D -> Option D} (hf : FnOK P f fn) (h : ∀ x y z d, q x y z = true -> F x y z = some d -> (∃ n, Ty P n t1 x) -> (∃ n, Ty P n t2 y) -> (∃ n, Ty P n t3 z) ->
   CallOK P f [dat t1 (normD P t1 x), dat t2 (normD P t2 y), dat t3 (normD P t3 z)] (mkRes P t d)) :
  ∀ args d, preD (q3 q) args = true -> ent [t1, t2, t3] (f3 F) args = some d -> CallOK P f args (mkRes P t d) :=
 ent_okp fun ds d hl hq hd => match ds, hl, hq, hd with
  | [x, y, z], _, hq, hd => CallOK.typed hf.ex (mk_tag t d) fun hty => (h x y z d hq hd (hty (dat t1 x) (by simp)) (hty (dat t2 y) (by simp)) (hty (dat t3 z) (by simp))).norm
end
theorem le_sum (l : List Nat) (x : Nat) (h : x ∈ l) : x <= l.sum := by
 induction l with
 | nil => cases h
 | cons y l ih =>
  rw [List.sum_cons]
  rcases List.mem_cons.1 h with rfl | h
  ·omega
  ·have := ih h; omega
end
def tocc (x : D) : Int := intD (fieldD x 0)
def tkids (x : D) : List D := elemsD (fieldD x 1)
def leafD (n : Int) : D := .agg [.lit (.int .i64 n), .slice [] []]
def nodeD (l : List D) : D := .agg [.lit (.int .i64 0), .slice l []]
def isOccB (n : Int) : Bool := decide (n >= 0) && decide (n < 4)

/-- The set of a tree that is at most so deep. -/
def setK : Nat -> D -> Int
 | 0, _ => 0
 | k + 1, t => bif (((tkids t).length : Int) == 0) && isOccB (tocc t) then shlI .i64 1 (tocc t) else
  bif (((tkids t).length : Int) != 2) || (tocc t != 0) then 0 else
  bif (setK k ((tkids t).getD 0 .nil) == 0) || (setK k ((tkids t).getD 1 .nil) == 0) || (andI .i64 (setK k ((tkids t).getD 0 .nil)) (setK k ((tkids t).getD 1 .nil)) != 0) then 0
  else orI .i64 (setK k ((tkids t).getD 0 .nil)) (setK k ((tkids t).getD 1 .nil))
def setT (t : D) : Int := setK 4 t
def mayT (t : D) : Bool := setT t != 0

/-- How deep one is, how many parts it has. -/
def okT : Nat -> D -> Bool
 | 0, _ => false
 | k + 1, t => (tkids t).all (okT k)
def szT : Nat -> D -> Nat
 | 0, _ => 1
 | k + 1, t => 1 + ((tkids t).map (szT k)).sum
def smK (k : Nat) (t : D) : Bool := okT k t && decide (szT k t <= 100000)
def smT (t : D) : Bool := smK 130 t

/-- The form of trees. -/
def cano : Nat -> D -> Prop
 | 0, _ => False
 | k + 1, d => ∃ n ks, d = .agg [.lit (.int .i64 n), .slice ks []] /\ ∀ y ∈ ks, cano k y

def al2 (g : D -> D -> Int -> Bool × Int) : List D -> List D -> Int -> Bool × Int
 | x :: xs, y :: ys, l => bif (g x y l).1 then al2 g xs ys (g x y l).2 else (false, (g x y l).2)
 | _, _, l => (true, l)
def alK : Nat -> D -> D -> Int -> Int -> Bool × Int
 | 0, _, _, _, l => (false, l - 1)
 | k + 1, a, b, deep, l => bif decide (l - 1 < 0) || decide (deep > 131072) || (tocc a != tocc b) || (((tkids a).length : Int) != ((tkids b).length : Int)) then (false, l - 1)
  else al2 (fun x y m => alK k x y (deep + 1) m) (tkids a) (tkids b) (l - 1)
def alPre (k : Nat) (a : D) (deep l : Int) : Bool := okT k a && decide (0 <= l) && decide (l <= 2147483647) && decide (0 <= deep) && decide (deep <= 131073)

def eq2 (g : D -> D -> Bool) : List D -> List D -> Bool
 | x :: xs, y :: ys => g x y && eq2 g xs ys
 | [], [] => true
 | _, _ => false
def eqK : Nat -> D -> D -> Bool
 | 0, _, _ => false
 | k + 1, a, b => (tocc a == tocc b) && eq2 (eqK k) (tkids a) (tkids b)
def eqT (a b : D) : Bool := eqK 130 a b

/-- A digit. -/
def digitL (n : Int) : List UInt8 := ((([48, 49, 50, 51, 52, 53, 54, 55, 56, 57] : List UInt8).drop n.toNat).take 1)
def textK : Nat -> D -> List UInt8
 | 0, _ => []
 | k + 1, t => bif (((tkids t).length : Int) == 0) then digitL (tocc t) else 40 :: (textK k ((tkids t).getD 0 .nil) ++ textK k ((tkids t).getD 1 .nil) ++ [41])
def textT (t : D) : List UInt8 := bif mayT t then textK 4 t else []

/-- Through a text. -/
def rdL (s : List UInt8) : Nat -> Nat -> List D -> Option (List D)
 | 0, _, _ => none
 | n + 1, q, l => bif decide (q < s.length) then
   bif ((runeAt s q).1 : Int) == 40 then rdL s n (q + (runeAt s q).2) l else
   bif isOccB (((runeAt s q).1 : Int) - 48) then rdL s n (q + (runeAt s q).2) (l ++ [leafD (((runeAt s q).1 : Int) - 48)]) else
   bif (((runeAt s q).1 : Int) == 41) && decide (2 <= l.length) then rdL s n (q + (runeAt s q).2) (l.take (l.length - 2) ++ [nodeD [l.getD (l.length - 2) .nil, l.getD (l.length - 1) .nil]]) else none
  else some l
def readT (s : List UInt8) : Option D :=
 bif decide (s.length > 10) then none else
 match rdL s 12 0 [] with
 | some [t] => bif textT t == s then some t else none
 | _ => none
def rdTree (s : List UInt8) : D := (readT s).getD (leafD 0)
def rdIs (s : List UInt8) : Bool := (readT s).isSome

def firstD (n : Int) : D := match n with
 | 2 => nodeD [leafD 0, leafD 1]
 | 3 => nodeD [nodeD [leafD 0, leafD 1], leafD 2]
 | 4 => nodeD [nodeD [nodeD [leafD 0, leafD 1], leafD 2], leafD 3]
 | _ => leafD 0

def joinL (a b : List D) : List D := a.flatMap fun x => b.map fun y => nodeD [x, y]
def popI (n : Int) : Int := (n.tmod 2) + (n.tdiv 2).tmod 2 + (n.tdiv 4).tmod 2 + (n.tdiv 8).tmod 2
def tzI (n : Int) : Int := bif n == 1 then 0 else bif n == 2 then 1 else bif n == 4 then 2 else 3
def allK : Nat -> Nat -> List D
 | 0, _ => []
 | k + 1, set => bif set == 1 then [leafD 0] else bif set == 2 then [leafD 1] else bif set == 4 then [leafD 2] else bif set == 8 then [leafD 3] else
  (List.range set).flatMap fun p => bif p != 0 && (p &&& set) == p then joinL (allK k p) (allK k (set - p)) else []
def allT (set : Int) : List D := bif decide (1 <= set) && decide (set <= 15) then allK 16 set.toNat else []

def joinPre (a b : List D) : Bool := a.all smT && b.all smT && decide (a.length <= 1000) && decide (b.length <= 1000)
def tzPre (n : Int) : Bool := n == 1 || n == 2 || n == 4 || n == 8
/-- How many parts, as the document counts. -/
def goS (g : D -> Int -> Int) (most : Int) : List D -> Int -> Int
 | [], n => n
 | x :: xs, n => bif decide (n <= most) then goS g most xs (n + g x (most - n)) else n
def szK : Nat -> D -> Int -> Int
 | 0, _, _ => 1
 | k + 1, t, most => goS (szK k) most (tkids t) 1

theorem setK_succ (k : Nat) (t : D) : setK (k + 1) t = bif (((tkids t).length : Int) == 0) && isOccB (tocc t) then shlI .i64 1 (tocc t) else
  bif (((tkids t).length : Int) != 2) || (tocc t != 0) then 0 else
  bif (setK k ((tkids t).getD 0 .nil) == 0) || (setK k ((tkids t).getD 1 .nil) == 0) || (andI .i64 (setK k ((tkids t).getD 0 .nil)) (setK k ((tkids t).getD 1 .nil)) != 0) then 0
  else orI .i64 (setK k ((tkids t).getD 0 .nil)) (setK k ((tkids t).getD 1 .nil)) := rfl
theorem okT_succ (k : Nat) (t : D) : okT (k + 1) t = (tkids t).all (okT k) := rfl
theorem szT_succ (k : Nat) (t : D) : szT (k + 1) t = 1 + ((tkids t).map (szT k)).sum := rfl
theorem alK_succ (k : Nat) (a b : D) (deep l : Int) : alK (k + 1) a b deep l = bif decide (l - 1 < 0) || decide (deep > 131072) || (tocc a != tocc b) || (((tkids a).length : Int) != ((tkids b).length : Int)) then (false, l - 1)
  else al2 (fun x y m => alK k x y (deep + 1) m) (tkids a) (tkids b) (l - 1) := rfl
theorem eqK_succ (k : Nat) (a b : D) : eqK (k + 1) a b = ((tocc a == tocc b) && eq2 (eqK k) (tkids a) (tkids b)) := rfl
theorem textK_succ (k : Nat) (t : D) : textK (k + 1) t = bif (((tkids t).length : Int) == 0) then digitL (tocc t) else 40 :: (textK k ((tkids t).getD 0 .nil) ++ textK k ((tkids t).getD 1 .nil) ++ [41]) := rfl
theorem szK_succ (k : Nat) (t : D) (m : Int) : szK (k + 1) t m = goS (szK k) m (tkids t) 1 := rfl
theorem wrap_step {i n : Nat} (hn : n <= maxLen) (h : i < n) : IntKind.wrap .i64 ((i : Int) + 1) = ((i + 1 : Nat) : Int) := by
 rw [wrap_in]
 ·rfl
 ·rw [inR_iff]; unfold maxLen at hn; omega
theorem idx_ok {i n : Nat} (h : i < n) : (decide (0 <= (i : Int)) && decide ((i : Int) < (n : Int))) = true := by
 simp only [Bool.and_eq_true, decide_eq_true_eq]; omega
theorem getD_lt {l : List D} {i : Nat} (h : i < l.length) : l.getD i .nil = l[i] := by simp [List.getD, h]

/-! ### Two trees -/
theorem al2_cons (g : D -> D -> Int -> Bool × Int) (x y : D) (xs ys : List D) (l : Int) : al2 g (x :: xs) (y :: ys) l = bif (g x y l).1 then al2 g xs ys (g x y l).2 else (false, (g x y l).2) := rfl
theorem al2_bound {g : D -> D -> Int -> Bool × Int} (hg : ∀ x y m, 0 <= m -> (g x y m).1 = true -> 0 <= (g x y m).2 /\ (g x y m).2 <= m) : ∀ (xs ys : List D) (l : Int), 0 <= l -> (al2 g xs ys l).1 = true -> 0 <= (al2 g xs ys l).2 /\ (al2 g xs ys l).2 <= l
 | [], _, l, h0, _ => ⟨h0, Int.le_refl _⟩
 | _ :: _, [], l, h0, _ => ⟨h0, Int.le_refl _⟩
 | x :: xs, y :: ys, l, h0, h => by
  rw [al2_cons] at h ⊢
  cases hp : (g x y l).1 with
  | false => rw [hp] at h; cases h
  | true =>
   rw [hp, cond_true] at h
   rw [cond_true]
   obtain ⟨b0, b1⟩ := hg x y l h0 hp
   obtain ⟨c0, c1⟩ := al2_bound hg xs ys _ b0 h
   exact ⟨c0, by omega⟩
theorem alK_bound : ∀ (k : Nat) (a b : D) (deep l : Int), 0 <= l -> (alK k a b deep l).1 = true -> 0 <= (alK k a b deep l).2 /\ (alK k a b deep l).2 <= l
 | 0, a, b, deep, l, _, h => by cases h
 | k + 1, a, b, deep, l, h0, h => by
  rw [alK_succ] at h ⊢
  cases hc : (decide (l - 1 < 0) || decide (deep > 131072) || (tocc a != tocc b) || (((tkids a).length : Int) != ((tkids b).length : Int))) with
  | true => rw [hc] at h; cases h
  | false =>
   rw [hc, cond_false] at h
   rw [cond_false]
   have h1 : 0 <= l - 1 := by
    simp only [Bool.or_eq_false_iff, decide_eq_false_iff_not] at hc
    omega
   obtain ⟨c0, c1⟩ := al2_bound (fun x y m h0 h => alK_bound k x y (deep + 1) m h0 h) _ _ (l - 1) h1 h
   exact ⟨c0, by omega⟩
/-- With room enough, they are held against one another part by part. -/
theorem al2_eq {g : D -> D -> Int -> Bool × Int} {e : D -> D -> Bool} {sz : D -> Nat} : ∀ (xs ys : List D) (l : Int), (∀ x ∈ xs, ∀ y m, (sz x : Int) <= m -> (g x y m).1 = e x y /\ (e x y = true -> (g x y m).2 = m - sz x)) -> ((xs.map sz).sum : Int) <= l -> xs.length = ys.length ->
  (al2 g xs ys l).1 = eq2 e xs ys /\ (eq2 e xs ys = true -> (al2 g xs ys l).2 = l - ((xs.map sz).sum : Nat))
 | [], [], l, _, _, _ => ⟨rfl, fun _ => by show l = l - ((0 : Nat) : Int); omega⟩
 | [], _ :: _, l, _, _, h => by cases h
 | _ :: _, [], l, _, _, h => by cases h
 | x :: xs, y :: ys, l, hg, hs, hl => by
  rw [al2_cons]
  simp only [List.map_cons, List.sum_cons] at hs ⊢
  obtain ⟨h1, h2⟩ := hg x (by simp) y l (by omega)
  show _ = (e x y && eq2 e xs ys) /\ ((e x y && eq2 e xs ys) = true -> _)
  rw [h1]
  cases he : e x y with
  | false => exact ⟨rfl, fun h => by cases h⟩
  | true =>
   rw [cond_true, h2 he, Bool.true_and]
   obtain ⟨i1, i2⟩ := al2_eq xs ys (l - sz x) (fun x' hx' => hg x' (by simp [hx'])) (by omega) (by simpa using hl)
   exact ⟨i1, fun h => by rw [i2 h]; omega⟩
theorem eq2_len {e : D -> D -> Bool} : ∀ {xs ys : List D}, eq2 e xs ys = true -> xs.length = ys.length
 | [], [], _ => rfl
 | [], _ :: _, h => by cases h
 | _ :: _, [], h => by cases h
 | x :: xs, y :: ys, h => by
  have h : (e x y && eq2 e xs ys) = true := h
  rw [Bool.and_eq_true] at h
  simp [eq2_len h.2]
theorem szT_pos (k : Nat) (t : D) : 1 <= szT k t := by cases k <;> simp [szT]
theorem alK_eq : ∀ (k : Nat) (a b : D) (deep l : Int), okT k a = true -> (szT k a : Int) <= l -> 0 <= deep -> deep + k <= 131072 -> (alK k a b deep l).1 = eqK k a b /\ (eqK k a b = true -> (alK k a b deep l).2 = l - szT k a)
 | 0, a, b, deep, l, h, _, _, _ => by cases h
 | k + 1, a, b, deep, l, hok, hs, h0, hd => by
  rw [alK_succ, eqK_succ]
  rw [okT_succ, List.all_eq_true] at hok
  rw [szT_succ] at hs ⊢
  have d1 : decide (l - 1 < 0) = false := by rw [decide_eq_false_iff_not]; omega
  have d2 : decide (deep > 131072) = false := by rw [decide_eq_false_iff_not]; omega
  rw [d1, d2, Bool.false_or, Bool.false_or]
  cases ho : (tocc a == tocc b) with
  | false =>
   have : (tocc a != tocc b) = true := by unfold bne; rw [ho]; rfl
   rw [this, Bool.true_or, cond_true]
   exact ⟨rfl, fun h => by cases h⟩
  | true =>
   have : (tocc a != tocc b) = false := by unfold bne; rw [ho]; rfl
   rw [this, Bool.false_or]
   by_cases hl : (tkids a).length = (tkids b).length
   ·have : (((tkids a).length : Int) != ((tkids b).length : Int)) = false := by rw [hl]; simp
    rw [this, cond_false, Bool.true_and]
    obtain ⟨i1, i2⟩ := al2_eq (g := fun x y m => alK k x y (deep + 1) m) (e := eqK k) (sz := szT k) (tkids a) (tkids b) (l - 1) (fun x hx y m hm => alK_eq k x y (deep + 1) m (hok x hx) hm (by omega) (by omega)) (by omega) hl
    exact ⟨i1, fun h => by rw [i2 h]; omega⟩
   ·have : (((tkids a).length : Int) != ((tkids b).length : Int)) = true := by rw [bne_iff_ne]; omega
    rw [this, cond_true, Bool.true_and]
    have hne : eq2 (eqK k) (tkids a) (tkids b) = false := by
     cases h : eq2 (eqK k) (tkids a) (tkids b) with
     | false => rfl
     | true => exact absurd (eq2_len h) hl
    rw [hne]
    exact ⟨rfl, fun h => by cases h⟩
theorem len_le_sz (k : Nat) (t : D) : (tkids t).length + 1 <= szT (k + 1) t := by
 rw [szT_succ]
 have : ∀ l : List D, l.length <= (l.map (szT k)).sum := by
  intro l
  induction l with
  | nil => simp
  | cons x l ih =>
   simp only [List.length_cons, List.map_cons, List.sum_cons]
   have := szT_pos k x
   omega
 have := this (tkids t)
 omega
theorem sz_kid {k : Nat} {t y : D} (h : y ∈ tkids t) : szT k y + 1 <= szT (k + 1) t := by
 rw [szT_succ]
 have := le_sum ((tkids t).map (szT k)) (szT k y) (List.mem_map.2 ⟨y, h, rfl⟩)
 omega
theorem smK_kid {k : Nat} {t y : D} (hs : smK (k + 1) t = true) (h : y ∈ tkids t) : smK k y = true := by
 unfold smK at hs ⊢
 rw [Bool.and_eq_true, okT_succ, List.all_eq_true, decide_eq_true_eq] at hs
 rw [Bool.and_eq_true, decide_eq_true_eq]
 have := sz_kid (k := k) h
 exact ⟨hs.1 y h, by omega⟩
theorem text_len : ∀ (k : Nat) (t : D), (textK k t).length + 2 <= 3 * 2 ^ k
 | 0, t => by simp [textK]
 | k + 1, t => by
  rw [textK_succ]
  cases (((tkids t).length : Int) == 0) with
  | true =>
   rw [cond_true]
   have : (digitL (tocc t)).length <= 1 := by unfold digitL; rw [List.length_take]; omega
   have : 1 <= 2 ^ (k + 1) := Nat.one_le_two_pow
   omega
  | false =>
   rw [cond_false]
   have h0 := text_len k ((tkids t).getD 0 .nil)
   have h1 := text_len k ((tkids t).getD 1 .nil)
   have h2 : 2 ^ (k + 1) = 2 * 2 ^ k := by rw [Nat.pow_succ]; omega
   have h3 : 1 <= 2 ^ k := Nat.one_le_two_pow
   simp only [List.length_cons, List.length_append, List.length_nil]
   omega
theorem same_of_small {a b : D} (h : smT a = true) : (alK 130 a b 1 2147483647).1 = eqT a b /\ alPre 130 a 1 2147483647 = true /\ (alK 130 a a 1 67108864).1 = eqT a a /\ alPre 130 a 1 67108864 = true := by
 unfold smT smK at h
 rw [Bool.and_eq_true, decide_eq_true_eq] at h
 refine ⟨(alK_eq 130 a b 1 2147483647 h.1 (by omega) (by omega) (by omega)).1, ?_, (alK_eq 130 a a 1 67108864 h.1 (by omega) (by omega) (by omega)).1, ?_⟩
 ·simp only [alPre, Bool.and_eq_true, decide_eq_true_eq]
  exact ⟨⟨⟨⟨h.1, by omega⟩, by omega⟩, by omega⟩, by omega⟩
 ·simp only [alPre, Bool.and_eq_true, decide_eq_true_eq]
  exact ⟨⟨⟨⟨h.1, by omega⟩, by omega⟩, by omega⟩, by omega⟩
theorem eq2_refl {e : D -> D -> Bool} : ∀ (xs : List D), (∀ x ∈ xs, e x x = true) -> eq2 e xs xs = true
 | [], _ => rfl
 | x :: xs, h => by
  show (e x x && eq2 e xs xs) = true
  rw [h x (by simp), eq2_refl xs (fun y hy => h y (by simp [hy]))]
  rfl
theorem eqK_refl : ∀ (k : Nat) (a : D), okT k a = true -> eqK k a a = true
 | 0, a, h => by cases h
 | k + 1, a, h => by
  rw [okT_succ, List.all_eq_true] at h
  rw [eqK_succ, eq2_refl _ (fun x hx => eqK_refl k x (h x hx))]
  simp
theorem eq2_eq {e : D -> D -> Bool} : ∀ {xs ys : List D}, (∀ x ∈ xs, ∀ y ∈ ys, e x y = true -> x = y) -> eq2 e xs ys = true -> xs = ys
 | [], [], _, _ => rfl
 | [], _ :: _, _, h => by cases h
 | _ :: _, [], _, h => by cases h
 | x :: xs, y :: ys, hh, h => by
  have h : (e x y && eq2 e xs ys) = true := h
  rw [Bool.and_eq_true] at h
  rw [hh x (by simp) y (by simp) h.1, eq2_eq (fun x hx y hy => hh x (by simp [hx]) y (by simp [hy])) h.2]
theorem cano_mono : ∀ {k : Nat} {d : D}, cano k d -> cano (k + 1) d
 | 0, d, h => h.elim
 | k + 1, d, ⟨n, ks, h, hk⟩ => ⟨n, ks, h, fun y hy => cano_mono (hk y hy)⟩
theorem cano_le {k m : Nat} {d : D} (h : cano k d) (hm : k <= m) : cano m d := by
 induction m with
 | zero => have : k = 0 := by omega
           subst this; exact h
 | succ m ih =>
  by_cases e : k = m + 1
  ·subst e; exact h
  ·exact cano_mono (ih (by omega))
theorem eqK_eq : ∀ {k m : Nat} {a b : D}, cano k a -> cano m b -> eqK k a b = true -> a = b
 | 0, _, a, b, h, _, _ => h.elim
 | _, 0, a, b, _, h, _ => h.elim
 | k + 1, m + 1, a, b, ⟨n, ks, ha, hk⟩, ⟨n', ks', hb, hk'⟩, h => by
  subst ha hb
  rw [eqK_succ, Bool.and_eq_true] at h
  have h1 : n = n' := eq_of_beq h.1
  have h2 : ks = ks' := eq2_eq (fun x hx y hy he => eqK_eq (hk x hx) (hk' y hy) he) h.2
  rw [h1, h2]

/-! ### Going through a text -/
theorem okT_mono : ∀ {k : Nat} {t : D}, okT k t = true -> okT (k + 1) t = true
 | 0, t, h => by cases h
 | k + 1, t, h => by
  rw [okT_succ, List.all_eq_true] at h ⊢
  exact fun y hy => okT_mono (h y hy)
theorem okT_le {k m : Nat} {t : D} (h : okT k t = true) (hm : k <= m) : okT m t = true := by
 induction m with
 | zero => have : k = 0 := by omega
           subst this; exact h
 | succ m ih =>
  by_cases e : k = m + 1
  ·subst e; exact h
  ·exact okT_mono (ih (by omega))
theorem sum_le {f g : D -> Nat} : ∀ (l : List D), (∀ x ∈ l, f x <= g x) -> (l.map f).sum <= (l.map g).sum
 | [], _ => by simp
 | x :: l, h => by
  simp only [List.map_cons, List.sum_cons]
  have := h x (by simp)
  have := sum_le l (fun y hy => h y (by simp [hy]))
  omega
theorem szT_mono : ∀ (k : Nat) (t : D), szT k t <= szT (k + 1) t
 | 0, t => by rw [szT_succ]; show 1 <= _; omega
 | k + 1, t => by
  rw [szT_succ, szT_succ (k + 1)]
  have := sum_le (tkids t) (fun x _ => szT_mono k x)
  omega
/-- What is read up to a place. -/
def inv (q : Nat) (x : D) : Prop := okT (q + 1) x = true /\ szT 130 x + 1 <= 2 ^ (q + 1)
theorem inv_mono {q p : Nat} {x : D} (h : inv q x) (hp : q <= p) : inv p x := ⟨okT_le h.1 (by omega), Nat.le_trans h.2 (Nat.pow_le_pow_right (by omega) (by omega))⟩
theorem inv_small {q : Nat} {x : D} (h : inv q x) (hq : q <= 12) : smT x = true := by
 unfold smT smK
 rw [Bool.and_eq_true, decide_eq_true_eq]
 have : 2 ^ (q + 1) <= 2 ^ 13 := Nat.pow_le_pow_right (by omega) (by omega)
 exact ⟨okT_le h.1 (by omega), by have := h.2; omega⟩
theorem inv_leaf (q : Nat) (n : Int) : inv q (leafD n) := by
 refine ⟨rfl, ?_⟩
 have : szT 130 (leafD n) = 1 := rfl
 rw [this, Nat.pow_succ]
 have := @Nat.one_le_two_pow q
 omega
theorem inv_node {q : Nat} {a b : D} (ha : inv q a) (hb : inv q b) : inv (q + 1) (nodeD [a, b]) := by
 refine ⟨?_, ?_⟩
 ·rw [okT_succ]
  show (okT (q + 1) a && (okT (q + 1) b && true)) = true
  rw [ha.1, hb.1]
  rfl
 ·have h0 : szT 130 (nodeD [a, b]) = 1 + (szT 129 a + (szT 129 b + 0)) := rfl
  have h1 : szT 129 a <= szT 130 a := szT_mono 129 a
  have h2 : szT 129 b <= szT 130 b := szT_mono 129 b
  have h3 := ha.2
  have h4 := hb.2
  have h5 : 2 ^ (q + 1 + 1) = 2 * 2 ^ (q + 1) := by rw [Nat.pow_succ]; omega
  rw [h0]
  omega
theorem rdL_succ (s : List UInt8) (n q : Nat) (l : List D) : rdL s (n + 1) q l = bif decide (q < s.length) then
   bif ((runeAt s q).1 : Int) == 40 then rdL s n (q + (runeAt s q).2) l else
   bif isOccB (((runeAt s q).1 : Int) - 48) then rdL s n (q + (runeAt s q).2) (l ++ [leafD (((runeAt s q).1 : Int) - 48)]) else
   bif (((runeAt s q).1 : Int) == 41) && decide (2 <= l.length) then rdL s n (q + (runeAt s q).2) (l.take (l.length - 2) ++ [nodeD [l.getD (l.length - 2) .nil, l.getD (l.length - 1) .nil]]) else none
  else some l := rfl
/-- What is told of what was gone through. -/
def rdFin (s : List UInt8) : Option (List D) -> D × Bool
 | some [t] => bif textT t == s then (t, true) else (leafD 0, false)
 | _ => (leafD 0, false)
theorem rd_fin (s : List UInt8) (h : s.length <= 10) : rdTree s = (rdFin s (rdL s 12 0 [])).1 /\ rdIs s = (rdFin s (rdL s 12 0 [])).2 := by
 have d : decide (s.length > 10) = false := by rw [decide_eq_false_iff_not]; omega
 unfold rdTree rdIs readT
 rw [d, cond_false]
 cases hr : rdL s 12 0 [] with
 | none => exact ⟨rfl, rfl⟩
 | some l =>
  match l with
  | [] => exact ⟨rfl, rfl⟩
  | [t] =>
   show ((bif textT t == s then some t else none : Option D).getD (leafD 0)) = _ /\ (bif textT t == s then some t else none : Option D).isSome = _
   show _ = (bif textT t == s then (t, true) else (leafD 0, false) : D × Bool).1 /\ _ = (bif textT t == s then (t, true) else (leafD 0, false) : D × Bool).2
   cases (textT t == s) <;> exact ⟨rfl, rfl⟩
  | _ :: _ :: _ => exact ⟨rfl, rfl⟩

/-! ### How many parts -/
theorem goS_cons (g : D -> Int -> Int) (most : Int) (x : D) (xs : List D) (n : Int) : goS g most (x :: xs) n = bif decide (n <= most) then goS g most xs (n + g x (most - n)) else n := rfl
theorem goS_bound {g : D -> Int -> Int} {most : Int} (hg : ∀ p m, 0 <= m -> 1 <= g p m /\ g p m <= m + 1) : ∀ (l : List D) (n : Int), 1 <= n -> n <= most + 1 -> 1 <= goS g most l n /\ goS g most l n <= most + 1
 | [], n, h1, h2 => ⟨h1, h2⟩
 | x :: xs, n, h1, h2 => by
  rw [goS_cons]
  by_cases h : n <= most
  ·have d : decide (n <= most) = true := by simpa using h
   rw [d, cond_true]
   obtain ⟨a, b⟩ := hg x (most - n) (by omega)
   exact goS_bound hg xs _ (by omega) (by omega)
  ·have d : decide (n <= most) = false := by simpa using h
   rw [d, cond_false]
   exact ⟨h1, h2⟩
theorem szK_bound : ∀ (k : Nat) (t : D) (m : Int), 0 <= m -> 1 <= szK k t m /\ szK k t m <= m + 1
 | 0, t, m, h => ⟨Int.le_refl _, by show (1 : Int) <= m + 1; omega⟩
 | k + 1, t, m, h => by rw [szK_succ]; exact goS_bound (fun p m' h' => szK_bound k p m' h') (tkids t) 1 (by omega) (by omega)
theorem goS_few {k : Nat} {most : Int} (hk : ∀ p (m : Int), 0 <= m -> m < k -> szK k p m <= m -> okT k p = true /\ (szT k p : Int) <= szK k p m) : ∀ (l : List D) (n : Int), 1 <= n -> n <= most -> most < k + 1 -> goS (szK k) most l n <= most -> (∀ p ∈ l, okT k p = true) /\ n + ((l.map (szT k)).sum : Nat) <= goS (szK k) most l n
 | [], n, _, _, _, _ => ⟨fun p hp => (by cases hp), (by show n + ((0 : Nat) : Int) <= n; omega)⟩
 | x :: xs, n, h1, h2, hm, h => by
  rw [goS_cons] at h ⊢
  have d : decide (n <= most) = true := by simpa using h2
  rw [d, cond_true] at h ⊢
  obtain ⟨a, b⟩ := szK_bound k x (most - n) (by omega)
  by_cases hle : szK k x (most - n) <= most - n
  ·obtain ⟨o, z⟩ := hk x (most - n) (by omega) (by omega) hle
   obtain ⟨i1, i2⟩ := goS_few hk xs (n + szK k x (most - n)) (by omega) (by omega) hm h
   refine ⟨fun p hp => ?_, ?_⟩
   ·rcases List.mem_cons.1 hp with rfl | hp
    ·exact o
    ·exact i1 p hp
   ·simp only [List.map_cons, List.sum_cons]
    omega
  ·exfalso
   have hn : n + szK k x (most - n) = most + 1 := by omega
   have : ∀ (l : List D), goS (szK k) most l (most + 1) = most + 1 := by
    intro l
    cases l with
    | nil => rfl
    | cons y ys =>
     rw [goS_cons]
     have d : decide (most + 1 <= most) = false := by rw [decide_eq_false_iff_not]; omega
     rw [d, cond_false]
   rw [hn, this] at h
   omega
theorem szK_few : ∀ (k : Nat) (t : D) (m : Int), 0 <= m -> m < k -> szK k t m <= m -> okT k t = true /\ (szT k t : Int) <= szK k t m
 | 0, t, m, h0, h1, _ => by omega
 | k + 1, t, m, h0, h1, h => by
  rw [szK_succ] at h ⊢
  by_cases h1m : 1 <= m
  ·obtain ⟨i1, i2⟩ := goS_few (szK_few k) (tkids t) 1 (by omega) h1m (by omega) h
   rw [okT_succ, List.all_eq_true, szT_succ]
   exact ⟨i1, by omega⟩
  ·exfalso
   have := (goS_bound (g := szK k) (most := m) (fun p m' h' => szK_bound k p m' h') (tkids t) 1 (by omega) (by omega)).1
   omega
theorem szT_le {k m : Nat} (t : D) (h : okT k t = true) (hm : k <= m) : szT m t = szT k t := by
 have key : ∀ (k : Nat) (t : D), okT k t = true -> ∀ m, k <= m -> szT m t = szT k t := by
  intro k
  induction k with
  | zero => intro t h; cases h
  | succ k ih =>
   intro t h m hm
   cases m with
   | zero => omega
   | succ m =>
    rw [okT_succ, List.all_eq_true] at h
    rw [szT_succ, szT_succ]
    congr 2
    exact List.map_congr_left (fun x hx => ih x (h x hx) m (by omega))
 exact key k t h m hm
/-- A tree of few parts. -/
theorem few_small {t : D} (h : szK 101 t 100 <= 100) : okT 101 t = true /\ szT 130 t <= 100 := by
 obtain ⟨h1, h2⟩ := szK_few 101 t 100 (by omega) (by omega) h
 exact ⟨h1, by rw [szT_le t h1 (by omega)]; omega⟩
theorem few_smT {t : D} (h : szK 101 t 100 <= 100) : smT t = true := by
 obtain ⟨h1, h2⟩ := few_small h
 unfold smT smK
 rw [Bool.and_eq_true, decide_eq_true_eq]
 exact ⟨okT_le h1 (by omega), by omega⟩
theorem against_lt (a b : D) : decide (againstI a b < 0) = klt (keyR a) (keyR b) := by
 unfold againstI
 cases h : rankEq a b with
 | true =>
  have : valueD a = valueD b := by
   unfold rankEq at h
   simp only [Bool.and_true, Bool.and_eq_true, beq_iff_eq] at h
   unfold valueD
   rw [h.1, h.2]
  have : keyR a = keyR b := by unfold keyR; rw [this]
  rw [this, klt_irrefl]
  rfl
 | false =>
  have : lessB (valueD a) (valueD b) = klt (keyR a) (keyR b) := rfl
  rw [this]
  cases klt (keyR a) (keyR b) <;> rfl

theorem l_at (A R : List D) (x : D) : (A ++ x :: R).getD A.length .nil = x := by simp [List.getD]
theorem l_at' (A R : List D) (x : D) {i : Nat} (h : i = A.length) : (A ++ x :: R).getD i .nil = x := by rw [h]; exact l_at A R x
theorem l_put (A R : List D) (x y : D) {i : Nat} (h : i = A.length) : (A ++ x :: R).set i y = A ++ y :: R := by
 subst h
 rw [List.set_append_right _ _ (Nat.le_refl _)]
 simp
/-- Two elements change places. -/
theorem l_swap (A M R : List D) (x y : D) {i j : Nat} (hi : i = A.length) (hj : j = A.length + 1 + M.length) :
  ((A ++ x :: (M ++ y :: R)).set i ((A ++ x :: (M ++ y :: R)).getD j .nil)).set j ((A ++ x :: (M ++ y :: R)).getD i .nil) = A ++ y :: (M ++ x :: R) := by
 have e1 : A ++ x :: (M ++ y :: R) = (A ++ x :: M) ++ y :: R := by simp
 have h1 : (A ++ x :: (M ++ y :: R)).getD j .nil = y := by rw [e1]; exact l_at' _ _ _ (by simp; omega)
 rw [h1, l_at' _ _ _ hi, l_put _ _ _ _ hi]
 have e2 : A ++ y :: (M ++ y :: R) = (A ++ y :: M) ++ y :: R := by simp
 rw [e2, l_put _ _ _ _ (by simp; omega)]
 simp
theorem l_swap' (A M R : List D) (x y : D) {i j : Nat} (hi : i = A.length) (hj : j = A.length + 1 + M.length) :
  ((A ++ x :: (M ++ y :: R)).set j ((A ++ x :: (M ++ y :: R)).getD i .nil)).set i ((A ++ x :: (M ++ y :: R)).getD j .nil) = A ++ y :: (M ++ x :: R) := by
 rw [List.set_comm _ _ (by omega : j ≠ i)]
 exact l_swap A M R x y hi hj

/-- A list is what stands ahead, a piece, and what stands behind. -/
theorem seg_split (es : List D) {a b : Nat} (h1 : a <= b) (h2 : b <= es.length) : es = es.take a ++ seg a b es ++ es.drop b := by
 unfold seg
 have : es.drop b = (es.drop a).drop (b - a) := by rw [List.drop_drop]; congr 1; omega
 rw [this, List.append_assoc, List.take_append_drop, List.take_append_drop]
theorem seg_len (es : List D) {a b : Nat} (h1 : a <= b) (h2 : b <= es.length) : (seg a b es).length = b - a := by
 unfold seg; simp; omega
theorem seg_of {A W R : List D} {a b : Nat} (ha : a = A.length) (hb : b = A.length + W.length) : seg a b (A ++ W ++ R) = W := by
 subst ha hb
 unfold seg
 rw [List.append_assoc, List.drop_left]
 have : A.length + W.length - A.length = W.length := by omega
 rw [this, List.take_left]
theorem take_of {A W R : List D} {a : Nat} (ha : a = A.length) : (A ++ W ++ R).take a = A := by
 subst ha; rw [List.append_assoc, List.take_left]
theorem drop_of {A W R : List D} {b : Nat} (hb : b = A.length + W.length) : (A ++ W ++ R).drop b = R := by
 subst hb
 rw [<- List.length_append, List.drop_left]

theorem cut3 (l : List D) {a b : Nat} (h : a <= b) : l.drop a = (l.drop a).take (b - a) ++ l.drop b := by
 have : l.drop b = (l.drop a).drop (b - a) := by rw [List.drop_drop]; congr 1; omega
 rw [this, List.take_append_drop]
theorem swp_split (l : List D) {A B n : Nat} (q1 : A + n <= B) (q2 : B + n <= l.length) : ∃ P0 X M Y R : List D, l = P0 ++ X ++ M ++ Y ++ R /\ P0.length = A /\ X.length = n /\ M.length = B - (A + n) /\ Y.length = n /\
  swpL l (A : Int) (B : Int) (n : Int) = P0 ++ Y ++ M ++ X ++ R := by
 refine ⟨l.take A, (l.drop A).take n, (l.drop (A + n)).take (B - (A + n)), (l.drop B).take n, l.drop (B + n), ?_, by simp; omega, by simp; omega, by simp; omega, by simp; omega, ?_⟩
 ·have e1 := cut3 l (a := A) (b := A + n) (by omega)
  have e2 := cut3 l (a := A + n) (b := B) q1
  have e3 := cut3 l (a := B) (b := B + n) (by omega)
  have z1 : A + n - A = n := by omega
  have z2 : B + n - B = n := by omega
  rw [z1] at e1
  rw [z2] at e3
  conv => lhs; rw [<- List.take_append_drop A l, e1, e2, e3]
  simp only [List.append_assoc]
 ·unfold swpL
  have z1 : ((A : Int) + (n : Int)).toNat = A + n := by omega
  have z2 : ((B : Int) - ((A : Int) + (n : Int))).toNat = B - (A + n) := by omega
  have z3 : ((B : Int) + (n : Int)).toNat = B + n := by omega
  rw [z1, z2, z3, Int.toNat_natCast, Int.toNat_natCast, Int.toNat_natCast]

theorem swpL_of (P0 X M Y R : List D) {a b n : Int} (ha : a = (P0.length : Int)) (hn : n = (X.length : Int)) (hb : b = ((P0.length + X.length + M.length : Nat) : Int)) (hXY : Y.length = X.length) :
  swpL (P0 ++ X ++ M ++ Y ++ R) a b n = P0 ++ Y ++ M ++ X ++ R := by
 subst ha hn hb
 obtain ⟨P', X', M', Y', R', h, h1, h2, h3, h4, h5⟩ := swp_split (P0 ++ X ++ M ++ Y ++ R) (A := P0.length) (B := P0.length + X.length + M.length) (n := X.length) (by omega) (by simp; omega)
 rw [h5]
 simp only [List.append_assoc] at h
 obtain ⟨e1, ha⟩ := List.append_inj h h1.symm
 obtain ⟨e2, hb⟩ := List.append_inj ha h2.symm
 obtain ⟨e3, hc⟩ := List.append_inj hb (by omega)
 obtain ⟨e4, hd⟩ := List.append_inj hc (by omega)
 rw [<- e1, <- e2, <- e3, <- e4, <- hd]
theorem swpOK_of (P0 X M Y R : List D) {a b n : Int} (ha : a = (P0.length : Int)) (hn : n = (X.length : Int)) (hb : b = ((P0.length + X.length + M.length : Nat) : Int)) (hXY : Y.length = X.length) (hbig : (P0 ++ X ++ M ++ Y ++ R).length <= 2147483648) :
  swpOK (P0 ++ X ++ M ++ Y ++ R) a b n = true := by
 subst ha hn hb
 simp only [List.length_append] at hbig
 simp only [swpOK, Bool.and_eq_true, decide_eq_true_eq, List.length_append]
 omega
theorem rot_split (l : List D) {A M B : Nat} (q1 : A <= M) (q2 : M <= B) (q3 : B <= l.length) : ∃ P0 X Y R : List D, l = P0 ++ X ++ Y ++ R /\ P0.length = A /\ X.length = M - A /\ Y.length = B - M /\
  rotL l (A : Int) (M : Int) (B : Int) = P0 ++ Y ++ X ++ R /\ seg A M l = X /\ seg M B l = Y := by
 refine ⟨l.take A, (l.drop A).take (M - A), (l.drop M).take (B - M), l.drop B, ?_, by simp; omega, by simp; omega, by simp; omega, ?_, rfl, rfl⟩
 ·have e1 := cut3 l (a := A) (b := M) q1
  have e2 := cut3 l (a := M) (b := B) q2
  conv => lhs; rw [<- List.take_append_drop A l, e1, e2]
  simp only [List.append_assoc]
 ·unfold rotL
  have z1 : ((B : Int) - (M : Int)).toNat = B - M := by omega
  have z2 : ((M : Int) - (A : Int)).toNat = M - A := by omega
  rw [z1, z2, Int.toNat_natCast, Int.toNat_natCast, Int.toNat_natCast]
theorem rotL_of (P0 X Y R : List D) {a m b : Int} (ha : a = (P0.length : Int)) (hm : m = ((P0.length + X.length : Nat) : Int)) (hb : b = ((P0.length + X.length + Y.length : Nat) : Int)) :
  rotL (P0 ++ X ++ Y ++ R) a m b = P0 ++ Y ++ X ++ R := by
 subst ha hm hb
 obtain ⟨P', X', Y', R', h, h1, h2, h3, h4, _⟩ := rot_split (P0 ++ X ++ Y ++ R) (A := P0.length) (M := P0.length + X.length) (B := P0.length + X.length + Y.length) (by omega) (by omega) (by simp only [List.length_append]; omega)
 rw [h4]
 simp only [List.append_assoc] at h
 obtain ⟨e1, ha⟩ := List.append_inj h h1.symm
 obtain ⟨e2, hb⟩ := List.append_inj ha (by omega)
 obtain ⟨e3, hc⟩ := List.append_inj hb (by omega)
 rw [<- e1, <- e2, <- e3, <- hc]

/-! ### In order, one by one -/
theorem adj_snoc (p : Int) (y x : D) : ∀ m : List D, adjB p (m ++ [x, y]) = (adjB p (m ++ [x]) && !klt (keyAt p y) (keyAt p x))
 | [] => by simp [adjB]
 | [z] => by simp [adjB]
 | z :: w :: m => by
  have ih := adj_snoc p y x (w :: m)
  simp only [List.cons_append, adjB] at ih ⊢
  rw [ih, Bool.and_assoc]
theorem adj_srt (p : Int) : ∀ {l : List D}, adjB p l = true ↔ Srt (keyAt p) l
 | [] => by simp [adjB, Srt]
 | [x] => by simp [adjB, Srt]
 | x :: y :: l => by
  have ih := adj_srt p (l := y :: l)
  unfold Srt at ih ⊢
  rw [adjB, Bool.and_eq_true, ih, List.pairwise_cons (a := x)]
  constructor
  ·rintro ⟨h1, h2⟩
   refine ⟨fun z hz => ?_, h2⟩
   have h1 : klt (keyAt p y) (keyAt p x) = false := by simpa using h1
   rcases List.mem_cons.1 hz with rfl | hz
   ·exact h1
   ·exact nlt_trans h1 ((List.pairwise_cons.1 h2).1 z hz)
  ·rintro ⟨h1, h2⟩
   exact ⟨by simpa using h1 y (by simp), h2⟩
end Go.Ev
