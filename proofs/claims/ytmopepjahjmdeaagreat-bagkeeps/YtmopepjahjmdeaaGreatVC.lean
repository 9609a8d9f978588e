/- Bags crossed, in plain data. Nothing here is trusted. -/
import Derived.Test.YtmopepjahjmdeaaGreatV2
namespace Go.Ev
set_option linter.unusedVariables false
set_option linter.unusedSimpArgs false

/-- Where the first one is that is a column of a. -/
def ixFrom (a : List D) : List D → Nat → Int
  | [], _ => -1
  | c :: l, i => bif hasB a (intD c) then (i : Int) else ixFrom a l (i + 1)
def meetB (a b : List D) : Bool := b.any fun c => hasB a (intD c)
theorem ix_meet (a : List D) : ∀ (l : List D) (i : Nat), decide (ixFrom a l i ≥ 0) = meetB a l
  | [], i => rfl
  | c :: l, i => by
    unfold ixFrom meetB
    rw [List.any_cons]
    cases hasB a (intD c) with
    | true => rw [cond_true, Bool.true_or, decide_eq_true_eq]; omega
    | false => rw [cond_false, Bool.false_or]; exact ix_meet a l (i + 1)
def lenSum (ls : List D) : Nat := (ls.map fun r => (elemsD r).length).sum
def flatD (ls : List D) : List D := ls.flatMap elemsD
theorem flat_len (ls : List D) : (flatD ls).length = lenSum ls := by
  unfold flatD lenSum
  rw [List.length_flatMap]
def catOK (ls : List D) : Bool := decide (ls.length ≤ 1000) && decide (lenSum ls ≤ 1000000)
def crossOK (a b : D) : Bool := mayBagB a && (mayBagB b && (!meetB (bCols a) (bCols b) && decide ((bRows a).length * (bRows b).length ≤ 5000)))
def crossRow (x y : D) : D := .slice (elemsD x ++ elemsD y) []
def crossRows (xs ys : List D) : List D := xs.flatMap fun x => ys.map (crossRow x)
def crossBag (a b : D) : D := bif crossOK a b then bagD (bCols a ++ bCols b) (crossRows (bRows a) (bRows b)) else bagD [] []
theorem crossRows_len (xs ys : List D) : (crossRows xs ys).length = xs.length * ys.length := by
  unfold crossRows
  rw [List.length_flatMap]
  induction xs with
  | nil => simp
  | cons x xs ih =>
    rw [List.map_cons, List.sum_cons, ih, List.length_cons, List.length_map, Nat.succ_mul, Nat.add_comm]
theorem lenSum_take (ls : List D) (k : Nat) : lenSum (ls.take k) ≤ lenSum ls := by
  unfold lenSum
  conv => rhs; rw [← List.take_append_drop k ls, List.map_append, List.sum_append]
  omega
theorem lenSum_succ {ls : List D} {i : Nat} (h : i < ls.length) : lenSum (ls.take (i + 1)) = lenSum (ls.take i) + (elemsD ls[i]).length := by
  unfold lenSum
  rw [List.take_succ_eq_append_getElem h, List.map_append, List.sum_append]
  simp
theorem flatD_succ {ls : List D} {i : Nat} (h : i < ls.length) : flatD (ls.take (i + 1)) = flatD (ls.take i) ++ elemsD ls[i] := by
  unfold flatD
  rw [List.take_succ_eq_append_getElem h, List.flatMap_append]
  simp
def growP (n : Int) : Bool := decide (0 < n) && decide (n ≤ 2147483648)
def growZ (n : Int) : Bool := n == 0
/-- Nil, and a number that is asked something. -/
def preG (t : TypeId) (q : Int → Bool) (as : List AV) : Bool := match as with
  | [x, y] => x.ix == 2 && (y.ty == t && q (intD y.d))
  | _ => false
theorem flat_two (x y : D) : flatD [x, y] = elemsD x ++ elemsD y := by simp [flatD]
theorem lenSum_two (x y : D) : lenSum [x, y] = (elemsD x).length + (elemsD y).length := by simp [lenSum]
end Go.Ev
