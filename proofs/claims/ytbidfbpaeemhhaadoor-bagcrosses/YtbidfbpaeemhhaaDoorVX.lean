/- What the functions of layer 2 answer, in plain data. Nothing here is trusted. -/
import Derived.Test.YtbidfbpaeemhhaaDoorV1
import Derived.Test.YtbidfbpaeemhhaaDoorVSort
import Derived.Lib.Slices
namespace Go.Ev
set_option linter.unusedVariables false

def opI (e : D) : Int := intD (fieldD e 0)
def colI (e : D) : Int := intD (fieldD e 1)
def kids (e : D) : List D := elemsD (fieldD e 3)
/-- How many parts a part of an op has. -/
def takesN (op n : Int) : Bool := bif op == 10 then n == 1 else bif op == 0 || op == 1 then n == 0 else bif op == 8 || op == 9 then decide (n ≤ 4) else n == 2
def takesB (f : D) (n : Int) : Bool := bif !isNilF (fieldD f 0) then n == 1 else bif !isNilF (fieldD f 1) then n == 2 else bif !isNilF (fieldD f 2) then decide (n ≤ 4) else n == 0
def fitsB (e : D) : Bool :=
  decide (0 ≤ opI e) && decide (opI e < 11) && decide (0 ≤ colI e) && decide (colI e ≤ 15) && mayB (fieldD e 2) &&
  (colI e == 0 || opI e == 1) && ((kk (fieldD e 2) == 0 && nn (fieldD e 2) == 0) || opI e == 0) && takesN (opI e) ((kids e).length : Int)
def atD (c : Int) (cols row : List D) : D :=
  bif decide (Lib.idxOf (cols.map intD) c < 0) then vv 2 0 else bif decide (Lib.idxOf (cols.map intD) c ≥ (row.length : Int)) then vv 2 0
  else bif mayB (row.getD (Lib.idxOf (cols.map intD) c).toNat .nil) then row.getD (Lib.idxOf (cols.map intD) c).toNat .nil else vv 2 0
def opV (op : Int) (l : List D) : D :=
  bif op == 2 then addD (l.getD 0 .nil) (l.getD 1 .nil) else bif op == 3 then subD (l.getD 0 .nil) (l.getD 1 .nil) else bif op == 4 then mulD (l.getD 0 .nil) (l.getD 1 .nil)
  else bif op == 5 then divD (l.getD 0 .nil) (l.getD 1 .nil) else bif op == 6 then eqV (l.getD 0 .nil) (l.getD 1 .nil) else bif op == 7 then ltV (l.getD 0 .nil) (l.getD 1 .nil)
  else bif op == 8 then andD l else bif op == 9 then orD l else notD (l.getD 0 .nil)

/-! ### Through all parts -/
def goL (g : D → Int → Bool × Int) : List D → Int → Bool × Int
  | [], n => (true, n)
  | p :: l, n => bif (g p n).1 then goL g l (g p n).2 else (false, (g p n).2)
def seeMay (e : D) (deep n : Int) : Bool := bif decide (n + 1 ≤ 30) then bif decide (deep ≤ 6) then fitsB e else false else false
def mayAll : Nat → D → Int → Int → Bool × Int
  | 0, _, _, n => (false, n)
  | k + 1, e, deep, n => bif seeMay e deep n then goL (fun p m => mayAll k p (deep + 1) m) (kids e) (n + 1) else (false, n + 1)
def mayE (e : D) : Bool := (mayAll 7 e 1 0).1
def okK : Nat → D → Bool
  | 0, _ => false
  | k + 1, e => fitsB e && (kids e).all (okK k)
def colsK : Nat → D → List D
  | 0, _ => []
  | k + 1, e => (bif opI e == 1 then [litI (colI e)] else []) ++ (kids e).flatMap (colsK k)
def colsE (e : D) : List D := bif mayE e then compD (sortD (colsK 7 e)) else []
def evalK (cols row : List D) : Nat → D → D
  | 0, _ => vv 2 0
  | k + 1, e => bif opI e == 0 then fieldD e 2 else bif opI e == 1 then atD (colI e) cols row else opV (opI e) ((kids e).map (evalK cols row k))
def evalE (e : D) (cols row : List D) : D := bif mayE e then evalK cols row 7 e else vv 2 0
def keepsE (e : D) (cols row : List D) : Bool := isTru (evalE e cols row)

/-! ### The document's own: how many parts, and has it a column -/
def sizeL (g : D → Int → Int) (most : Int) : List D → Int → Int
  | [], n => n
  | p :: l, n => bif decide (n ≤ most) then sizeL g most l (n + g p (most - n)) else n
def sizeK : Nat → D → Int → Int
  | 0, _, _ => 1
  | k + 1, e, most => sizeL (sizeK k) most (kids e) 1
def hasK : Nat → D → Int → Bool
  | 0, _, _ => false
  | k + 1, e, c => (opI e == 1 && colI e == c) || (kids e).any fun p => hasK k p c
def pairE (e : D) : Bool := mayE e && (opI e == 6 && (opI ((kids e).getD 0 .nil) == 1 && (opI ((kids e).getD 1 .nil) == 1 && !(colI ((kids e).getD 0 .nil) == colI ((kids e).getD 1 .nil)))))
def pairA (e : D) : Int := bif pairE e then colI ((kids e).getD 0 .nil) else 0
def pairB (e : D) : Int := bif pairE e then colI ((kids e).getD 1 .nil) else 0
theorem fits_op {e : D} (h : fitsB e = true) : 0 ≤ opI e ∧ opI e < 11 ∧ 0 ≤ colI e ∧ colI e ≤ 15 ∧ mayB (fieldD e 2) = true ∧ takesN (opI e) ((kids e).length : Int) = true := by
  simp only [fitsB, Bool.and_eq_true, decide_eq_true_eq] at h
  obtain ⟨⟨⟨⟨⟨⟨⟨a, b⟩, c⟩, d⟩, e1⟩, _⟩, _⟩, f⟩ := h
  exact ⟨a, b, c, d, e1, f⟩
end Go.Ev
