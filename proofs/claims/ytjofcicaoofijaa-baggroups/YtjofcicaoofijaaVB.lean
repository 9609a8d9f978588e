/- What the functions of layer 3 answer, in plain data. Nothing here is trusted. -/
import Derived.Test.YtjofcicaoofijaaVS
import Derived.Test.YtjofcicaoofijaaVA
import Derived.Test.YtjofcicaoofijaaVM
import Derived.Lib.Slices
namespace Go.Ev
set_option linter.unusedVariables false
set_option linter.unusedSimpArgs false

def intsB (a b : List D) : Bool := a.map intD == b.map intD
def bCols (b : D) : List D := elemsD (fieldD b 0)
def bRows (b : D) : List D := elemsD (fieldD b 1)
def bagD (cols rows : List D) : D := .agg [.slice cols [], .slice rows []]
def placeI (cols : List D) (c : Int) : Int := Lib.idxOf (cols.map intD) c
/-- What a row is ordered by. -/
def rankD (row : List D) (p : Int) : D :=
  bif decide (p < 0) || decide (p ≥ (row.length : Int)) then .agg [litI 0, litI 0]
  else bif mayB (row.getD p.toNat .nil) then .agg [litI (kk (row.getD p.toNat .nil)), litI (nn (row.getD p.toNat .nil))] else .agg [litI 2, litI 0]
def valueD (r : D) : D := vv (intD (fieldD r 0)) (intD (fieldD r 1))
def rankEq (a b : D) : Bool := (intD (fieldD a 0) == intD (fieldD b 0)) && ((intD (fieldD a 1) == intD (fieldD b 1)) && true)
def againstI (a b : D) : Int := bif rankEq a b then 0 else bif lessB (valueD a) (valueD b) then -1 else 1
def keyR (r : D) : Key := (kk (readD (valueD r)), nn (readD (valueD r)))
def keyE (e : D) : Key := keyR (fieldD e 0)
/-- No two the same. -/
def nodupI : List Int → Bool
  | [] => true
  | x :: l => !l.contains x && nodupI l
def colsMayB (l : List D) : Bool := (l.map intD).all (fun c => decide (0 ≤ c) && decide (c ≤ 15)) && nodupI (l.map intD)
def rowsMayB (b : D) : Bool := (bRows b).all fun r => ((elemsD r).length == (bCols b).length) && (elemsD r).all mayB
def mayBagB (b : D) : Bool := colsMayB (bCols b) && decide ((bRows b).length ≤ 5000) && rowsMayB b
def pairI (x : D) : Int × Int := (kk x, nn x)
def rowI (r : D) : List (Int × Int) := (elemsD r).map pairI
def rowEqB (a b : List D) : Bool := a.map pairI == b.map pairI
def likeB (a b : D) : Bool := intsB (bCols a) (bCols b) && ((bRows a).map rowI == (bRows b).map rowI)
def fewBagB (b : D) (most : Int) : Bool := decide (((bRows b).length : Int) ≤ most) && decide ((bCols b).length ≤ 20) && (bRows b).all fun r => decide ((elemsD r).length ≤ 20)
def hasB (l : List D) (c : Int) : Bool := (l.map intD).contains c
def hasAllB (all some : List D) : Bool := (some.map intD).all (fun c => hasB all c)
def alikeN (rows : List D) (p : Int) : Nat := 1 + ((rows.drop 1).takeWhile fun r => rankEq (rankD (elemsD r) p) (rankD (elemsD (rows.getD 0 .nil)) p)).length
def columnL (rows : List D) (p : Int) : List D := rows.map fun r => (elemsD r).getD p.toNat .nil
def colOK (rows : List D) (p : Int) : Bool := decide (0 ≤ p) && decide (rows.length ≤ 2147483648) && rows.all fun r => decide (p < ((elemsD r).length : Int))
def summedL (b : D) (p : Int) (sums : List D) : List D :=
  (elemsD ((bRows b).getD 0 .nil)).getD p.toNat .nil :: vv 0 ((bRows b).length : Int) :: sums.map fun c => sumD (columnL (bRows b) (placeI (bCols b) (intD c)))
def sumOK (b : D) (p : Int) (sums : List D) : Bool :=
  decide (0 < (bRows b).length) && decide (sums.length ≤ 1000) && colOK (bRows b) p && sums.all fun c => colOK (bRows b) (placeI (bCols b) (intD c))
def groupColsL (by_ n : Int) : List D := litI by_ :: (List.range (n.toNat + 1)).map fun (i : Nat) => litI (16 + (i : Int))
def big : Nat := 2147483648
def sortOK (b : D) : Bool := decide ((bRows b).length ≤ 2147483648) && decide ((bCols b).length ≤ 2147483648) && (bRows b).all fun r => decide ((elemsD r).length ≤ 2147483648)
def keyAt (p : Int) (r : D) : Key := keyR (rankD (elemsD r) p)
def sortRows (p : Int) (rows : List D) : List D := sortK (keyAt p) rows
def sortBag (b : D) (c : Int) : D := bagD (bCols b) (sortRows (placeI (bCols b) c) (bRows b))
/-- In order, one by one. -/
def adjB (p : Int) : List D → Bool
  | x :: y :: l => !klt (keyAt p y) (keyAt p x) && adjB p (y :: l)
  | _ => true
def sortedB (b : D) (c : Int) : Bool := adjB (placeI (bCols b) c) (bRows b)
/-- The groups of rows in order. -/
def grpK (cols : List D) (p : Int) (sums : List D) : Nat → List D → List D
  | 0, _ => []
  | _ + 1, [] => []
  | k + 1, rows => .slice (summedL (bagD cols (rows.take (alikeN rows p))) p sums) [] :: grpK cols p sums k (rows.drop (alikeN rows p))
def groupOK (b : D) (by_ : Int) (sums : List D) : Bool := mayBagB b && hasB (bCols b) by_ && hasAllB (bCols b) sums && decide (sums.length ≤ 4)
def groupBag (b : D) (by_ : Int) (sums : List D) : D :=
  bif groupOK b by_ sums then bagD (groupColsL by_ (sums.length : Int)) (grpK (bCols b) (placeI (bCols b) by_) sums (bRows b).length (sortRows (placeI (bCols b) by_) (bRows b))) else bagD [] []
def threeD : D := bagD [litI 0, litI 1] [.slice [vv 0 1, vv 0 2] [], .slice [vv 0 3, vv 0 4] [], .slice [vv 0 1, vv 0 5] []]
/-- Pieces of a row that is sorted in place. -/
def seg (a b : Nat) (l : List D) : List D := (l.drop a).take (b - a)
def putSeg (a b : Nat) (l m : List D) : List D := l.take a ++ m ++ l.drop b
def insOK (es : List D) (a b : Int) : Bool := decide (0 ≤ a) && decide (a ≤ b) && decide (b ≤ (es.length : Int)) && decide (es.length ≤ 2147483648)
def insL (es : List D) (a b : Int) : List D := putSeg a.toNat b.toNat es (sortK keyE (seg a.toNat b.toNat es))
def swpOK (es : List D) (a b n : Int) : Bool := decide (0 ≤ a) && decide (0 ≤ n) && decide (a + n ≤ b) && decide (b + n ≤ (es.length : Int)) && decide (es.length ≤ 2147483648)
def swpL (es : List D) (a b n : Int) : List D :=
  es.take a.toNat ++ (es.drop b.toNat).take n.toNat ++ (es.drop (a + n).toNat).take (b - (a + n)).toNat ++ (es.drop a.toNat).take n.toNat ++ es.drop (b + n).toNat
def rotOK (es : List D) (a m b : Int) : Bool := decide (0 ≤ a) && decide (a < m) && decide (m < b) && decide (b ≤ (es.length : Int)) && decide (es.length ≤ 2147483648)
def rotL (es : List D) (a m b : Int) : List D := es.take a.toNat ++ (es.drop m.toNat).take (b - m).toNat ++ (es.drop a.toNat).take (m - a).toNat ++ es.drop b.toNat
def srtB : List D → Bool
  | [] => true
  | x :: l => (l.all fun y => !klt (keyE y) (keyE x)) && srtB l
theorem srtB_iff : ∀ {l : List D}, srtB l = true ↔ Srt keyE l
  | [] => by simp [srtB, Srt]
  | x :: l => by
    have ih := srtB_iff (l := l)
    unfold Srt at ih ⊢
    rw [List.pairwise_cons, srtB, Bool.and_eq_true, ih, List.all_eq_true]
    simp
def symOK (K : Nat) (es : List D) (a m b : Int) : Bool := decide (0 ≤ a) && decide (a < m) && decide (m < b) && decide (b ≤ (es.length : Int)) && decide (es.length ≤ 2147483648) && decide (b - a < (K : Int)) &&
  srtB (seg a.toNat m.toNat es) && srtB (seg m.toNat b.toNat es)
def stbOK (es : List D) (n : Int) : Bool := (n == (es.length : Int)) && decide (es.length ≤ 2147483648)

end Go.Ev
