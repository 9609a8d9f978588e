/- Trees of functions, and lemmas. Nothing here is trusted. -/
import Derived.Test.YtngkmngbnlmgjaaZ16
import Derived.Test.YtngkmngbnlmgjaaZ15
import Derived.Test.YtngkmngbnlmgjaaZ00
import Derived.Lib.Slices
namespace Go.Ev
set_option linter.unusedVariables false
set_option linter.unusedSimpArgs false
def intsB (a b : List D) : Bool := a.map intD == b.map intD
def bCols (b : D) : List D := elemsD (fieldD b 0)
def bRows (b : D) : List D := elemsD (fieldD b 1)
def bagD (cols rows : List D) : D := .agg [.slice cols [], .slice rows []]
def placeI (cols : List D) (c : Int) : Int := Lib.idxOf (cols.map intD) c
/-- What a row is ordered by. -/
def rankD (row : List D) (p : Int) : D :=
 bif decide (p < 0) || decide (p >= (row.length : Int)) then .agg [litI 0, litI 0]
 else bif mayB (row.getD p.toNat .nil) then .agg [litI (kk (row.getD p.toNat .nil)), litI (nn (row.getD p.toNat .nil))] else .agg [litI 2, litI 0]
def valueD (r : D) : D := vv (intD (fieldD r 0)) (intD (fieldD r 1))
def rankEq (a b : D) : Bool := (intD (fieldD a 0) == intD (fieldD b 0)) && ((intD (fieldD a 1) == intD (fieldD b 1)) && true)
def againstI (a b : D) : Int := bif rankEq a b then 0 else bif lessB (valueD a) (valueD b) then -1 else 1
def keyR (r : D) : Key := (kk (readD (valueD r)), nn (readD (valueD r)))
def keyE (e : D) : Key := keyR (fieldD e 0)
/-- No two the same. -/
def nodupI : List Int -> Bool
 | [] => true
 | x :: l => !l.contains x && nodupI l
def colsMayB (l : List D) : Bool := (l.map intD).all (fun c => decide (0 <= c) && decide (c <= 15)) && nodupI (l.map intD)
def rowsMayB (b : D) : Bool := (bRows b).all fun r => ((elemsD r).length == (bCols b).length) && (elemsD r).all mayB
def mayBagB (b : D) : Bool := colsMayB (bCols b) && decide ((bRows b).length <= 5000) && rowsMayB b
def pairI (x : D) : Int × Int := (kk x, nn x)
def rowI (r : D) : List (Int × Int) := (elemsD r).map pairI
def rowEqB (a b : List D) : Bool := a.map pairI == b.map pairI
def likeB (a b : D) : Bool := intsB (bCols a) (bCols b) && ((bRows a).map rowI == (bRows b).map rowI)
def fewBagB (b : D) (most : Int) : Bool := decide (((bRows b).length : Int) <= most) && decide ((bCols b).length <= 20) && (bRows b).all fun r => decide ((elemsD r).length <= 20)
def hasB (l : List D) (c : Int) : Bool := (l.map intD).contains c
def hasAllB (all some : List D) : Bool := (some.map intD).all (fun c => hasB all c)
def alikeN (rows : List D) (p : Int) : Nat := 1 + ((rows.drop 1).takeWhile fun r => rankEq (rankD (elemsD r) p) (rankD (elemsD (rows.getD 0 .nil)) p)).length
def columnL (rows : List D) (p : Int) : List D := rows.map fun r => (elemsD r).getD p.toNat .nil
def colOK (rows : List D) (p : Int) : Bool := decide (0 <= p) && decide (rows.length <= 2147483648) && rows.all fun r => decide (p < ((elemsD r).length : Int))
def summedL (b : D) (p : Int) (sums : List D) : List D :=
 (elemsD ((bRows b).getD 0 .nil)).getD p.toNat .nil :: vv 0 ((bRows b).length : Int) :: sums.map fun c => sumD (columnL (bRows b) (placeI (bCols b) (intD c)))
def sumOK (b : D) (p : Int) (sums : List D) : Bool :=
 decide (0 < (bRows b).length) && decide (sums.length <= 1000) && colOK (bRows b) p && sums.all fun c => colOK (bRows b) (placeI (bCols b) (intD c))
def groupColsL (by_ n : Int) : List D := litI by_ :: (List.range (n.toNat + 1)).map fun (i : Nat) => litI (16 + (i : Int))
def big : Nat := 2147483648
def sortOK (b : D) : Bool := decide ((bRows b).length <= 2147483648) && decide ((bCols b).length <= 2147483648) && (bRows b).all fun r => decide ((elemsD r).length <= 2147483648)
def keyAt (p : Int) (r : D) : Key := keyR (rankD (elemsD r) p)
def sortRows (p : Int) (rows : List D) : List D := sortK (keyAt p) rows
def sortBag (b : D) (c : Int) : D := bagD (bCols b) (sortRows (placeI (bCols b) c) (bRows b))
/-- In order, one by one. -/
def adjB (p : Int) : List D -> Bool
 | x :: y :: l => !klt (keyAt p y) (keyAt p x) && adjB p (y :: l)
 | _ => true
def sortedB (b : D) (c : Int) : Bool := adjB (placeI (bCols b) c) (bRows b)
/-- The groups of rows in order. -/
def grpK (cols : List D) (p : Int) (sums : List D) : Nat -> List D -> List D
 | 0, _ => []
 | _ + 1, [] => []
 | k + 1, rows => .slice (summedL (bagD cols (rows.take (alikeN rows p))) p sums) [] :: grpK cols p sums k (rows.drop (alikeN rows p))
def groupOK (b : D) (by_ : Int) (sums : List D) : Bool := mayBagB b && hasB (bCols b) by_ && hasAllB (bCols b) sums && decide (sums.length <= 4)
def groupBag (b : D) (by_ : Int) (sums : List D) : D :=
 bif groupOK b by_ sums then bagD (groupColsL by_ (sums.length : Int)) (grpK (bCols b) (placeI (bCols b) by_) sums (bRows b).length (sortRows (placeI (bCols b) by_) (bRows b))) else bagD [] []
def threeD : D := bagD [litI 0, litI 1] [.slice [vv 0 1, vv 0 2] [], .slice [vv 0 3, vv 0 4] [], .slice [vv 0 1, vv 0 5] []]
/-- Pieces of a row that is sorted in place. -/
def seg (a b : Nat) (l : List D) : List D := (l.drop a).take (b - a)
def putSeg (a b : Nat) (l m : List D) : List D := l.take a ++ m ++ l.drop b
def insOK (es : List D) (a b : Int) : Bool := decide (0 <= a) && decide (a <= b) && decide (b <= (es.length : Int)) && decide (es.length <= 2147483648)
def insL (es : List D) (a b : Int) : List D := putSeg a.toNat b.toNat es (sortK keyE (seg a.toNat b.toNat es))
def swpOK (es : List D) (a b n : Int) : Bool := decide (0 <= a) && decide (0 <= n) && decide (a + n <= b) && decide (b + n <= (es.length : Int)) && decide (es.length <= 2147483648)
def swpL (es : List D) (a b n : Int) : List D :=
 es.take a.toNat ++ (es.drop b.toNat).take n.toNat ++ (es.drop (a + n).toNat).take (b - (a + n)).toNat ++ (es.drop a.toNat).take n.toNat ++ es.drop (b + n).toNat
def rotOK (es : List D) (a m b : Int) : Bool := decide (0 <= a) && decide (a < m) && decide (m < b) && decide (b <= (es.length : Int)) && decide (es.length <= 2147483648)
def rotL (es : List D) (a m b : Int) : List D := es.take a.toNat ++ (es.drop m.toNat).take (b - m).toNat ++ (es.drop a.toNat).take (m - a).toNat ++ es.drop b.toNat
def srtB : List D -> Bool
 | [] => true
 | x :: l => (l.all fun y => !klt (keyE y) (keyE x)) && srtB l
theorem srtB_iff : ∀ {l : List D}, srtB l = true ↔ Srt keyE l
 | [] => by simp [srtB, Srt]
 | x :: l => by
  have ih := srtB_iff (l := l)
  unfold Srt at ih ⊢
  rw [List.pairwise_cons, srtB, Bool.and_eq_true, ih, List.all_eq_true]
  simp
def symOK (K : Nat) (es : List D) (a m b : Int) : Bool := decide (0 <= a) && decide (a < m) && decide (m < b) && decide (b <= (es.length : Int)) && decide (es.length <= 2147483648) && decide (b - a < (K : Int)) &&
 srtB (seg a.toNat m.toNat es) && srtB (seg m.toNat b.toNat es)
def stbOK (es : List D) (n : Int) : Bool := (n == (es.length : Int)) && decide (es.length <= 2147483648)
section
theorem l_idx {i n : Nat} (h : i < n) : (decide (0 <= (i : Int)) && decide ((i : Int) < (n : Int))) = true := by simp [h]
theorem l_lt {i n : Nat} (h : i < n) : decide ((i : Int) < (n : Int)) = true := by simp [h]
theorem l_ge {i n : Nat} (h : ¬ i < n) : decide ((i : Int) < (n : Int)) = false := by simpa using h
theorem l_wrap {i n : Nat} (hn : n <= maxLen) (h : i < n) : IntKind.wrap .i64 ((i : Int) + 1) = ((i + 1 : Nat) : Int) := by
 rw [wrap_in]
 ·omega
 ·rw [inR_iff]; unfold maxLen at hn; omega
theorem l_wrapI {z : Int} (h : inR z = true) : IntKind.wrap .i64 z = z := wrap_in h
theorem l_in {z : Int} (h1 : -4611686018427387904 <= z) (h2 : z <= 4611686018427387904) : inR z = true := by rw [inR_iff]; omega
theorem l_get {l : List D} {i : Nat} (h : i < l.length) : l.getD i .nil = l[i] := by simp [List.getD, h]
theorem l_nef {a b : Nat} (h : a = b) : ((a : Int) != (b : Int)) = false := by subst h; simp
theorem l_net {a b : Nat} (h : a ≠ b) : ((a : Int) != (b : Int)) = true := by simp; omega
theorem l_eqt {a b : Nat} (h : a = b) : (a == b) = true := by simp [h]
theorem l_eqf {a b : Nat} (h : a ≠ b) : (a == b) = false := by simp [h]
theorem l_nat (i : Nat) : ((i : Int)).toNat = i := Int.toNat_natCast i

/-- A loop that ends at once where p is so. -/
theorem l_loop {ρ : Type} (LP : Nat -> Int -> Option ρ) (L : Nat) (p : Nat -> Bool) (T F : Option ρ)
  (hstep : ∀ (n i : Nat), i < L -> LP (n + 1) (i : Int) = bif p i then T else LP n ((i + 1 : Nat) : Int)) (hend : ∀ n, LP (n + 1) (L : Int) = F) :
  ∀ (n i : Nat), i <= L -> L - i < n -> LP n (i : Int) = bif (List.range' i (L - i)).any p then T else F
 | 0, i, _, h => by omega
 | n + 1, i, hi, h => by
  by_cases hlt : i < L
  ·rw [hstep n i hlt, l_loop LP L p T F hstep hend n (i + 1) (by omega) (by omega)]
   have : L - i = (L - (i + 1)) + 1 := by omega
   rw [this, List.range'_succ, List.any_cons]
   cases p i <;> rfl
  ·have : i = L := by omega
   subst this
   rw [hend]
   simp
theorem l_any (l : List D) (q : D -> Bool) : ∀ k, (List.range' k (l.length - k)).any (fun i => q (l.getD i .nil)) = (l.drop k).any q := by
 intro k
 generalize hm : l.length - k = m
 induction m generalizing k with
 | zero =>
  have : l.drop k = [] := List.drop_of_length_le (by omega)
  rw [this]; rfl
 | succ m ih =>
  have hk : k < l.length := by omega
  rw [List.range'_succ, List.any_cons, ih (k + 1) (by omega), List.drop_eq_getElem_cons hk, List.any_cons, l_get hk]
theorem l_any0 (l : List D) (q : D -> Bool) : (List.range' 0 l.length).any (fun i => q (l.getD i .nil)) = l.any q := by
 have := l_any l q 0
 simpa using this
/-- Two lists, place by place. -/
theorem l_any2 {β : Type} [BEq β] [LawfulBEq β] (f : D -> β) : ∀ (a b : List D), a.length = b.length -> (!(List.range' 0 a.length).any fun i => !(f (a.getD i .nil) == f (b.getD i .nil))) = (a.map f == b.map f) := by
 intro a b hl
 rw [Bool.eq_iff_iff, Bool.not_eq_true', <- Bool.not_eq_true, List.any_eq_true, beq_iff_eq]
 constructor
 ·intro h
  apply List.ext_getElem
  ·simpa using hl
  ·intro i h1 h2
   simp only [List.length_map] at h1 h2
   simp only [List.getElem_map]
   have := fun hh => h ⟨i, List.mem_range'_1.2 ⟨Nat.zero_le _, by omega⟩, hh⟩
   rw [l_get h1, l_get h2] at this
   simpa using this
 ·rintro h ⟨i, hi, hn⟩
  have hi := (List.mem_range'_1.1 hi).2
  have h1 : i < a.length := by omega
  have h2 : i < b.length := by omega
  rw [l_get h1, l_get h2] at hn
  have := congrArg (fun l => l[i]?) h
  simp only [List.getElem?_map, List.getElem?_eq_getElem h1, List.getElem?_eq_getElem h2, Option.map_some, Option.some.injEq] at this
  simp [this] at hn

theorem l_set {α β : Type} (F : α -> β) {ks : List α} {tl : List β} {i : Nat} (h : i < ks.length) (ht : tl.length = ks.length - i) :
  ((ks.take i).map F ++ tl).set i (F ks[i]) = (ks.take (i + 1)).map F ++ tl.drop 1 := by
 cases tl with
 | nil => simp at ht; omega
 | cons b tl =>
  rw [List.set_append_right _ _ (by simp; omega)]
  have : i - ((ks.take i).map F).length = 0 := by simp; omega
  rw [this, List.take_succ_eq_append_getElem h, List.map_append]
  simp

/-! ### Columns that may be -/
def seenD (s : List Int) : D := .agg ((List.range 16).map fun (i : Nat) => .lit (.bool (s.contains (Int.ofNat i))))
theorem seen_nil : seenD [] = .agg [.lit (.bool false), .lit (.bool false), .lit (.bool false), .lit (.bool false), .lit (.bool false), .lit (.bool false), .lit (.bool false), .lit (.bool false), .lit (.bool false), .lit (.bool false), .lit (.bool false), .lit (.bool false), .lit (.bool false), .lit (.bool false), .lit (.bool false), .lit (.bool false)] := rfl
theorem seen_get {s : List Int} {c : Int} (h0 : 0 <= c) (h : c < 16) : boolD (fieldD (seenD s) c.toNat) = s.contains c := by
 have : c.toNat < 16 := by omega
 simp only [seenD, fieldD, partsD, List.getD, List.getElem?_map, List.getElem?_range this, Option.map_some, Option.getD_some, boolD]
 congr 1
 show ((c.toNat : Nat) : Int) = c
 omega
theorem seen_set {s : List Int} {c : Int} (h0 : 0 <= c) (h : c < 16) : setD (seenD s) c.toNat (.lit (.bool true)) = seenD (c :: s) := by
 have hc : c.toNat < 16 := by omega
 simp only [seenD, setD, partsD]
 congr 1
 apply List.ext_getElem?
 intro j
 rw [List.getElem?_set]
 by_cases hj : j < 16
 ·simp only [List.getElem?_map, List.getElem?_range hj, Option.map_some, List.length_map, List.length_range]
  by_cases he : c.toNat = j
  ·have : (j : Int) = c := by omega
   simp [he, hj, this]
  ·have : ¬ ((j : Int) = c) := by omega
   simp [he, this]
 ·have h1 : (List.range 16)[j]? = none := List.getElem?_eq_none (by simp; omega)
  have : ¬ c.toNat = j := by omega
  simp [this, h1]
def colsFrom (s : List Int) : List Int -> Bool
 | [] => true
 | c :: l => decide (0 <= c) && (decide (c <= 15) && (!s.contains c && colsFrom (c :: s) l))
theorem colsFrom_eq : ∀ (l s : List Int), colsFrom s l = (l.all (fun c => decide (0 <= c) && decide (c <= 15)) && (nodupI l && l.all fun c => !s.contains c))
 | [], s => rfl
 | c :: l, s => by
  rw [colsFrom, colsFrom_eq l (c :: s), nodupI, List.all_cons, List.all_cons]
  have : (l.all fun x => !(c :: s).contains x) = (!l.contains c && l.all fun x => !s.contains x) := by
   rw [Bool.eq_iff_iff]
   simp only [List.all_eq_true, Bool.and_eq_true, Bool.not_eq_true', List.contains_cons, Bool.or_eq_false_iff, beq_eq_false_iff_ne]
   constructor
   ·intro h
    refine ⟨?_, fun x hx => (h x hx).2⟩
    rw [<- Bool.not_eq_true]
    intro hc
    exact (h c (by simpa using hc)).1 rfl
   ·rintro ⟨h1, h2⟩ x hx
    refine ⟨fun he => ?_, h2 x hx⟩
    subst he
    rw [<- Bool.not_eq_true] at h1
    exact h1 (by simpa using hx)
  rw [this]
  cases decide (0 <= c) <;> cases decide (c <= 15) <;> cases s.contains c <;> cases l.contains c <;> cases nodupI l <;> simp
theorem cols_all (l : List Int) : colsFrom [] l = (l.all (fun c => decide (0 <= c) && decide (c <= 15)) && nodupI l) := by
 rw [colsFrom_eq]
 have : (l.all fun c => !([] : List Int).contains c) = true := by simp
 rw [this, Bool.and_true]

/-! ### Functions that ask something of what they are handed -/
def preD (q : List D -> Bool) : List AV -> Bool := fun as => q (as.map (·.d))
def q1 (q : D -> Bool) : List D -> Bool | [x] => q x | _ => false
def q2 (q : D -> D -> Bool) : List D -> Bool | [x, y] => q x y | _ => false
def q3 (q : D -> D -> D -> Bool) : List D -> Bool | [x, y, z] => q x y z | _ => false
section
variable {P : Program}
theorem ent_okp {f : FuncId} {t : TypeId} {ts : List TypeId} {q : List D -> Bool} {F : List D -> Option D} (h : ∀ ds d, ds.length = ts.length -> q ds = true -> F ds = some d -> CallOK P f (List.zipWith dat ts ds) (mkRes P t d)) :
  ∀ args d, preD q args = true -> ent ts F args = some d -> CallOK P f args (mkRes P t d) := by
 intro args d hp hd
 have key := ent_ok (P := P) (f := f) (t := t) (ts := ts) (F := fun ds => if q ds = true then F ds else none) (fun ds d hl hd => by
  split at hd
  ·rename_i hq; exact h ds d hl hq hd
  ·cases hd) args d
 refine key ?_
 unfold ent at hd ⊢
 split at hd
 ·rename_i hs
  rw [if_pos hs]
  unfold preD at hp
  simp only
  rw [if_pos hp]
  exact hd
 ·cases hd
theorem ent1p {f : FuncId} {fn : Func} {t t1 : TypeId} {q : D -> Bool} {F : D -> Option D} (hf : FnOK P f fn) (h : ∀ x d, q x = true -> F x = some d -> (∃ n, Ty P n t1 x) -> CallOK P f [dat t1 (normD P t1 x)] (mkRes P t d)) :
  ∀ args d, preD (q1 q) args = true -> ent [t1] (f1 F) args = some d -> CallOK P f args (mkRes P t d) :=
 ent_okp fun ds d hl hq hd => match ds, hl, hq, hd with
  | [x], _, hq, hd => CallOK.typed hf.ex (mk_tag t d) fun hty => (h x d hq hd (hty (dat t1 x) (by simp))).norm
theorem ent2p {f : FuncId} {fn : Func} {t t1 t2 : TypeId} {q : D -> D -> Bool} {F : D -> D -> Option D} (hf : FnOK P f fn) (h : ∀ x y d, q x y = true -> F x y = some d -> (∃ n, Ty P n t1 x) -> (∃ n, Ty P n t2 y) -> CallOK P f [dat t1 (normD P t1 x), dat t2 (normD P t2 y)] (mkRes P t d)) :
  ∀ args d, preD (q2 q) args = true -> ent [t1, t2] (f2 F) args = some d -> CallOK P f args (mkRes P t d) :=
 ent_okp fun ds d hl hq hd => match ds, hl, hq, hd with
  | [x, y], _, hq, hd => CallOK.typed hf.ex (mk_tag t d) fun hty => (h x y d hq hd (hty (dat t1 x) (by simp)) (hty (dat t2 y) (by simp))).norm
theorem ent3p {f : FuncId} {fn : Func} {t t1 t2 t3 : TypeId} {q : D -> D -> D -> Bool} {F : D -> D -> D -> Option D} (hf : FnOK P f fn) (h : ∀ x y z d, q x y z = true -> F x y z = some d -> (∃ n, Ty P n t1 x) -> (∃ n, Ty P n t2 y) -> (∃ n, Ty P n t3 z) ->
   CallOK P f [dat t1 (normD P t1 x), dat t2 (normD P t2 y), dat t3 (normD P t3 z)] (mkRes P t d)) :
  ∀ args d, preD (q3 q) args = true -> ent [t1, t2, t3] (f3 F) args = some d -> CallOK P f args (mkRes P t d) :=
 ent_okp fun ds d hl hq hd => match ds, hl, hq, hd with
  | [x, y, z], _, hq, hd => CallOK.typed hf.ex (mk_tag t d) fun hty => (h x y z d hq hd (hty (dat t1 x) (by simp)) (hty (dat t2 y) (by simp)) (hty (dat t3 z) (by simp))).norm
end
theorem le_sum (l : List Nat) (x : Nat) (h : x ∈ l) : x <= l.sum := by
 induction l with
 | nil => cases h
 | cons y l ih =>
  rw [List.sum_cons]
  rcases List.mem_cons.1 h with rfl | h
  ·omega
  ·have := ih h; omega
end
theorem against_lt (a b : D) : decide (againstI a b < 0) = klt (keyR a) (keyR b) := by
 unfold againstI
 cases h : rankEq a b with
 | true =>
  have : valueD a = valueD b := by
   unfold rankEq at h
   simp only [Bool.and_true, Bool.and_eq_true, beq_iff_eq] at h
   unfold valueD
   rw [h.1, h.2]
  have : keyR a = keyR b := by unfold keyR; rw [this]
  rw [this, klt_irrefl]
  rfl
 | false =>
  have : lessB (valueD a) (valueD b) = klt (keyR a) (keyR b) := rfl
  rw [this]
  cases klt (keyR a) (keyR b) <;> rfl

theorem l_at (A R : List D) (x : D) : (A ++ x :: R).getD A.length .nil = x := by simp [List.getD]
theorem l_at' (A R : List D) (x : D) {i : Nat} (h : i = A.length) : (A ++ x :: R).getD i .nil = x := by rw [h]; exact l_at A R x
theorem l_put (A R : List D) (x y : D) {i : Nat} (h : i = A.length) : (A ++ x :: R).set i y = A ++ y :: R := by
 subst h
 rw [List.set_append_right _ _ (Nat.le_refl _)]
 simp
/-- Two elements change places. -/
theorem l_swap (A M R : List D) (x y : D) {i j : Nat} (hi : i = A.length) (hj : j = A.length + 1 + M.length) :
  ((A ++ x :: (M ++ y :: R)).set i ((A ++ x :: (M ++ y :: R)).getD j .nil)).set j ((A ++ x :: (M ++ y :: R)).getD i .nil) = A ++ y :: (M ++ x :: R) := by
 have e1 : A ++ x :: (M ++ y :: R) = (A ++ x :: M) ++ y :: R := by simp
 have h1 : (A ++ x :: (M ++ y :: R)).getD j .nil = y := by rw [e1]; exact l_at' _ _ _ (by simp; omega)
 rw [h1, l_at' _ _ _ hi, l_put _ _ _ _ hi]
 have e2 : A ++ y :: (M ++ y :: R) = (A ++ y :: M) ++ y :: R := by simp
 rw [e2, l_put _ _ _ _ (by simp; omega)]
 simp
theorem l_swap' (A M R : List D) (x y : D) {i j : Nat} (hi : i = A.length) (hj : j = A.length + 1 + M.length) :
  ((A ++ x :: (M ++ y :: R)).set j ((A ++ x :: (M ++ y :: R)).getD i .nil)).set i ((A ++ x :: (M ++ y :: R)).getD j .nil) = A ++ y :: (M ++ x :: R) := by
 rw [List.set_comm _ _ (by omega : j ≠ i)]
 exact l_swap A M R x y hi hj

/-- A list is what stands ahead, a piece, and what stands behind. -/
theorem seg_split (es : List D) {a b : Nat} (h1 : a <= b) (h2 : b <= es.length) : es = es.take a ++ seg a b es ++ es.drop b := by
 unfold seg
 have : es.drop b = (es.drop a).drop (b - a) := by rw [List.drop_drop]; congr 1; omega
 rw [this, List.append_assoc, List.take_append_drop, List.take_append_drop]
theorem seg_len (es : List D) {a b : Nat} (h1 : a <= b) (h2 : b <= es.length) : (seg a b es).length = b - a := by
 unfold seg; simp; omega
theorem seg_of {A W R : List D} {a b : Nat} (ha : a = A.length) (hb : b = A.length + W.length) : seg a b (A ++ W ++ R) = W := by
 subst ha hb
 unfold seg
 rw [List.append_assoc, List.drop_left]
 have : A.length + W.length - A.length = W.length := by omega
 rw [this, List.take_left]
theorem take_of {A W R : List D} {a : Nat} (ha : a = A.length) : (A ++ W ++ R).take a = A := by
 subst ha; rw [List.append_assoc, List.take_left]
theorem drop_of {A W R : List D} {b : Nat} (hb : b = A.length + W.length) : (A ++ W ++ R).drop b = R := by
 subst hb
 rw [<- List.length_append, List.drop_left]

theorem cut3 (l : List D) {a b : Nat} (h : a <= b) : l.drop a = (l.drop a).take (b - a) ++ l.drop b := by
 have : l.drop b = (l.drop a).drop (b - a) := by rw [List.drop_drop]; congr 1; omega
 rw [this, List.take_append_drop]
theorem swp_split (l : List D) {A B n : Nat} (q1 : A + n <= B) (q2 : B + n <= l.length) : ∃ P0 X M Y R : List D, l = P0 ++ X ++ M ++ Y ++ R /\ P0.length = A /\ X.length = n /\ M.length = B - (A + n) /\ Y.length = n /\
  swpL l (A : Int) (B : Int) (n : Int) = P0 ++ Y ++ M ++ X ++ R := by
 refine ⟨l.take A, (l.drop A).take n, (l.drop (A + n)).take (B - (A + n)), (l.drop B).take n, l.drop (B + n), ?_, by simp; omega, by simp; omega, by simp; omega, by simp; omega, ?_⟩
 ·have e1 := cut3 l (a := A) (b := A + n) (by omega)
  have e2 := cut3 l (a := A + n) (b := B) q1
  have e3 := cut3 l (a := B) (b := B + n) (by omega)
  have z1 : A + n - A = n := by omega
  have z2 : B + n - B = n := by omega
  rw [z1] at e1
  rw [z2] at e3
  conv => lhs; rw [<- List.take_append_drop A l, e1, e2, e3]
  simp only [List.append_assoc]
 ·unfold swpL
  have z1 : ((A : Int) + (n : Int)).toNat = A + n := by omega
  have z2 : ((B : Int) - ((A : Int) + (n : Int))).toNat = B - (A + n) := by omega
  have z3 : ((B : Int) + (n : Int)).toNat = B + n := by omega
  rw [z1, z2, z3, Int.toNat_natCast, Int.toNat_natCast, Int.toNat_natCast]

theorem swpL_of (P0 X M Y R : List D) {a b n : Int} (ha : a = (P0.length : Int)) (hn : n = (X.length : Int)) (hb : b = ((P0.length + X.length + M.length : Nat) : Int)) (hXY : Y.length = X.length) :
  swpL (P0 ++ X ++ M ++ Y ++ R) a b n = P0 ++ Y ++ M ++ X ++ R := by
 subst ha hn hb
 obtain ⟨P', X', M', Y', R', h, h1, h2, h3, h4, h5⟩ := swp_split (P0 ++ X ++ M ++ Y ++ R) (A := P0.length) (B := P0.length + X.length + M.length) (n := X.length) (by omega) (by simp; omega)
 rw [h5]
 simp only [List.append_assoc] at h
 obtain ⟨e1, ha⟩ := List.append_inj h h1.symm
 obtain ⟨e2, hb⟩ := List.append_inj ha h2.symm
 obtain ⟨e3, hc⟩ := List.append_inj hb (by omega)
 obtain ⟨e4, hd⟩ := List.append_inj hc (by omega)
 rw [<- e1, <- e2, <- e3, <- e4, <- hd]
theorem swpOK_of (P0 X M Y R : List D) {a b n : Int} (ha : a = (P0.length : Int)) (hn : n = (X.length : Int)) (hb : b = ((P0.length + X.length + M.length : Nat) : Int)) (hXY : Y.length = X.length) (hbig : (P0 ++ X ++ M ++ Y ++ R).length <= 2147483648) :
  swpOK (P0 ++ X ++ M ++ Y ++ R) a b n = true := by
 subst ha hn hb
 simp only [List.length_append] at hbig
 simp only [swpOK, Bool.and_eq_true, decide_eq_true_eq, List.length_append]
 omega
theorem rot_split (l : List D) {A M B : Nat} (q1 : A <= M) (q2 : M <= B) (q3 : B <= l.length) : ∃ P0 X Y R : List D, l = P0 ++ X ++ Y ++ R /\ P0.length = A /\ X.length = M - A /\ Y.length = B - M /\
  rotL l (A : Int) (M : Int) (B : Int) = P0 ++ Y ++ X ++ R /\ seg A M l = X /\ seg M B l = Y := by
 refine ⟨l.take A, (l.drop A).take (M - A), (l.drop M).take (B - M), l.drop B, ?_, by simp; omega, by simp; omega, by simp; omega, ?_, rfl, rfl⟩
 ·have e1 := cut3 l (a := A) (b := M) q1
  have e2 := cut3 l (a := M) (b := B) q2
  conv => lhs; rw [<- List.take_append_drop A l, e1, e2]
  simp only [List.append_assoc]
 ·unfold rotL
  have z1 : ((B : Int) - (M : Int)).toNat = B - M := by omega
  have z2 : ((M : Int) - (A : Int)).toNat = M - A := by omega
  rw [z1, z2, Int.toNat_natCast, Int.toNat_natCast, Int.toNat_natCast]
theorem rotL_of (P0 X Y R : List D) {a m b : Int} (ha : a = (P0.length : Int)) (hm : m = ((P0.length + X.length : Nat) : Int)) (hb : b = ((P0.length + X.length + Y.length : Nat) : Int)) :
  rotL (P0 ++ X ++ Y ++ R) a m b = P0 ++ Y ++ X ++ R := by
 subst ha hm hb
 obtain ⟨P', X', Y', R', h, h1, h2, h3, h4, _⟩ := rot_split (P0 ++ X ++ Y ++ R) (A := P0.length) (M := P0.length + X.length) (B := P0.length + X.length + Y.length) (by omega) (by omega) (by simp only [List.length_append]; omega)
 rw [h4]
 simp only [List.append_assoc] at h
 obtain ⟨e1, ha⟩ := List.append_inj h h1.symm
 obtain ⟨e2, hb⟩ := List.append_inj ha (by omega)
 obtain ⟨e3, hc⟩ := List.append_inj hb (by omega)
 rw [<- e1, <- e2, <- e3, <- hc]

/-! ### In order, one by one -/
theorem adj_snoc (p : Int) (y x : D) : ∀ m : List D, adjB p (m ++ [x, y]) = (adjB p (m ++ [x]) && !klt (keyAt p y) (keyAt p x))
 | [] => by simp [adjB]
 | [z] => by simp [adjB]
 | z :: w :: m => by
  have ih := adj_snoc p y x (w :: m)
  simp only [List.cons_append, adjB] at ih ⊢
  rw [ih, Bool.and_assoc]
theorem adj_srt (p : Int) : ∀ {l : List D}, adjB p l = true ↔ Srt (keyAt p) l
 | [] => by simp [adjB, Srt]
 | [x] => by simp [adjB, Srt]
 | x :: y :: l => by
  have ih := adj_srt p (l := y :: l)
  unfold Srt at ih ⊢
  rw [adjB, Bool.and_eq_true, ih, List.pairwise_cons (a := x)]
  constructor
  ·rintro ⟨h1, h2⟩
   refine ⟨fun z hz => ?_, h2⟩
   have h1 : klt (keyAt p y) (keyAt p x) = false := by simpa using h1
   rcases List.mem_cons.1 hz with rfl | hz
   ·exact h1
   ·exact nlt_trans h1 ((List.pairwise_cons.1 h2).1 z hz)
  ·rintro ⟨h1, h2⟩
   exact ⟨by simpa using h1 y (by simp), h2⟩
section
theorem l_mid {i j : Nat} (h : i + j <= 4611686018427387904) : IntKind.wrap .i64 (Int.fdiv (IntKind.wrap .u64 (IntKind.wrap .i64 ((i : Int) + (j : Int)))) (2 ^ min (1 : Int).toNat (IntKind.bits .u64))) = (((i + j) / 2 : Nat) : Int) := by
 have w1 : IntKind.wrap .i64 ((i : Int) + (j : Int)) = (i : Int) + (j : Int) := l_wrapI (l_in (by omega) (by omega))
 rw [w1]
 have w2 : IntKind.wrap .u64 ((i : Int) + (j : Int)) = ((i + j : Nat) : Int) := by
  show (((i : Int) + (j : Int)) % (2 ^ 64) : Int) = _
  rw [Int.emod_eq_of_lt (by omega) (by omega)]; omega
 have w3 : (2 ^ min (1 : Int).toNat (IntKind.bits .u64) : Int) = 2 := rfl
 rw [w2, w3, show Int.fdiv ((i + j : Nat) : Int) 2 = (((i + j) / 2 : Nat) : Int) from by rw [Int.fdiv_eq_ediv_of_nonneg _ (by omega)]; omega]
 exact l_wrapI (l_in (by omega) (by omega))

/-- Halving. -/
theorem l_bin {ρ : Type} (LP E : Nat -> Int -> Int -> ρ) (p : Nat -> Bool) (lo hi : Nat)
  (step : ∀ (n i j : Nat), lo <= i -> i < j -> j <= hi -> LP (n + 1) (i : Int) (j : Int) = bif p ((i + j) / 2) then LP n (((i + j) / 2 + 1 : Nat) : Int) (j : Int) else LP n (i : Int) (((i + j) / 2 : Nat) : Int))
  (stop : ∀ (n i : Nat), lo <= i -> i <= hi -> LP (n + 1) (i : Int) (i : Int) = E n (i : Int) (i : Int)) :
  ∀ (n i j : Nat), lo <= i -> i <= j -> j <= hi -> j - i < n -> (i = lo \/ p (i - 1) = true) -> (j = hi \/ p j = false) ->
   ∃ s n', i <= s /\ s <= j /\ (s = lo \/ p (s - 1) = true) /\ (s = hi \/ p s = false) /\ LP n (i : Int) (j : Int) = E n' (s : Int) (s : Int)
 | 0, i, j, _, _, _, h, _, _ => by omega
 | n + 1, i, j, h1, h2, h3, h, g1, g2 => by
  by_cases hij : i < j
  ·rw [step n i j h1 hij h3]
   cases hp : p ((i + j) / 2)
   ·rw [cond_false]
    obtain ⟨s, n', a, b, c⟩ := l_bin LP E p lo hi step stop n i ((i + j) / 2) h1 (by omega) (by omega) (by omega) g1 (Or.inr hp)
    exact ⟨s, n', a, by omega, c⟩
   ·rw [cond_true]
    obtain ⟨s, n', a, b, c⟩ := l_bin LP E p lo hi step stop n ((i + j) / 2 + 1) j (by omega) (by omega) h3 (by omega) (Or.inr (by rw [Nat.add_sub_cancel]; exact hp)) g2
    exact ⟨s, n', by omega, b, c⟩
  ·obtain rfl : i = j := by omega
   exact ⟨i, n, Nat.le_refl _, Nat.le_refl _, g1, g2, stop n i h1 h3⟩

def kx (l : List D) (i : Nat) : Key := keyE (l.getD i .nil)
theorem mem_seg {l : List D} {a b : Nat} {x : D} (h : x ∈ seg a b l) : ∃ i, a <= i /\ i < b /\ i < l.length /\ keyE x = kx l i := by
 unfold seg at h
 obtain ⟨k, hk, rfl⟩ := List.mem_iff_getElem.1 h
 have hk' := hk
 simp only [List.length_take, List.length_drop] at hk'
 refine ⟨a + k, by omega, by omega, by omega, ?_⟩
 unfold kx
 rw [l_get (by omega)]
 simp
theorem srt_seg {l : List D} {a b : Nat} (h : Srt keyE (seg a b l)) (hb : b <= l.length) {i j : Nat} (h1 : a <= i) (h2 : i <= j) (h3 : j < b) : klt (kx l j) (kx l i) = false := by
 rcases Nat.lt_or_eq_of_le h2 with h2 | rfl
 ·have hl := seg_len l (a := a) (b := b) (by omega) hb
  have := List.pairwise_iff_getElem.1 h (i - a) (j - a) (by omega) (by omega) (by omega)
  simp only [seg, List.getElem_take, List.getElem_drop] at this
  unfold kx
  rw [l_get (by omega), l_get (by omega)]
  have e1 : a + (i - a) = i := by omega
  have e2 : a + (j - a) = j := by omega
  simpa only [e1, e2] using this
 ·exact klt_irrefl _
theorem against_kx (l : List D) (i j : Nat) : decide (againstI (fieldD (l.getD i .nil) 0) (fieldD (l.getD j .nil) 0) < 0) = klt (kx l i) (kx l j) := against_lt _ _

theorem insL_of (P W R : List D) {a b : Int} (ha : a = (P.length : Int)) (hb : b = ((P.length + W.length : Nat) : Int)) : insL (P ++ W ++ R) a b = P ++ sortK keyE W ++ R := by
 subst ha hb
 unfold insL putSeg
 rw [Int.toNat_natCast, Int.toNat_natCast, seg_of rfl rfl, take_of rfl, drop_of rfl]
theorem insL_id (P W R : List D) {a b : Int} (ha : a = (P.length : Int)) (hb : b = ((P.length + W.length : Nat) : Int)) (h : Srt keyE W) : insL (P ++ W ++ R) a b = P ++ W ++ R := by
 rw [insL_of P W R ha hb, sortK_of_srt h]
theorem symOK_of {K : Nat} (P X Y R : List D) {a m b : Int} (ha : a = (P.length : Int)) (hm : m = ((P.length + X.length : Nat) : Int)) (hb : b = ((P.length + X.length + Y.length : Nat) : Int)) (hx : 0 < X.length) (hy : 0 < Y.length)
  (h1 : Srt keyE X) (h2 : Srt keyE Y) (hK : X.length + Y.length < K) (hbig : (P ++ X ++ Y ++ R).length <= 2147483648) : symOK K (P ++ X ++ Y ++ R) a m b = true := by
 subst ha hm hb
 have s1 : seg P.length (P.length + X.length) (P ++ X ++ Y ++ R) = X := by rw [show P ++ X ++ Y ++ R = P ++ X ++ (Y ++ R) by simp]; exact seg_of rfl rfl
 have s2 : seg (P.length + X.length) (P.length + X.length + Y.length) (P ++ X ++ Y ++ R) = Y := seg_of (A := P ++ X) (by simp) (by simp)
 simp only [List.length_append] at hbig
 unfold symOK
 simp only [Int.toNat_natCast, s1, s2, srtB_iff.2 h1, srtB_iff.2 h2, Bool.and_true, Bool.and_eq_true, decide_eq_true_eq, List.length_append]
 refine ⟨⟨⟨⟨⟨?_, ?_⟩, ?_⟩, ?_⟩, ?_⟩, ?_⟩ <;> omega

section
variable {ρ : Type} (F : List D -> Option ρ) (K : Nat)
def tl3 (A s M e mid B : Int) (l : List D) : Option ρ := bif ((decide (mid < e)) == true) then bif decide (e < B) then bif symOK K l mid e B then F (insL l mid B) else none else F l else F l
def tl2 (A s M e mid B : Int) (l : List D) : Option ρ := bif ((decide (A < s)) == true) then bif decide (s < mid) then bif symOK K l A s mid then tl3 F K A s M e mid B (insL l A mid) else none else tl3 F K A s M e mid B l else tl3 F K A s M e mid B l
def tl1 (A s M e mid B : Int) (l : List D) : Option ρ := bif ((decide (s < M)) == true) then bif decide (M < e) then bif rotOK l s M e then tl2 F K A s M e mid B (rotL l s M e) else none else tl2 F K A s M e mid B l else tl2 F K A s M e mid B l

theorem tl3_of (A s M : Int) (P X Y R : List D) {mid e B : Int} (ha : mid = (P.length : Int)) (hm : e = ((P.length + X.length : Nat) : Int)) (hb : B = ((P.length + X.length + Y.length : Nat) : Int))
  (h1 : Srt keyE X) (h2 : Srt keyE Y) (hK : X.length + Y.length < K) (hbig : (P ++ X ++ Y ++ R).length <= 2147483648) : tl3 F K A s M e mid B (P ++ X ++ Y ++ R) = F (P ++ sortK keyE (X ++ Y) ++ R) := by
 unfold tl3
 have e0 : P ++ X ++ Y ++ R = P ++ (X ++ Y) ++ R := by simp
 by_cases hx : 0 < X.length
 ·have g1 : decide (mid < e) = true := by rw [decide_eq_true_eq, ha, hm]; omega
  by_cases hy : 0 < Y.length
  ·have g2 : decide (e < B) = true := by rw [decide_eq_true_eq, hb, hm]; omega
   rw [g1, g2, symOK_of P X Y R ha hm hb hx hy h1 h2 hK hbig, e0, insL_of P (X ++ Y) R ha (by rw [hb]; simp; omega)]
   rfl
  ·have g2 : decide (e < B) = false := by rw [decide_eq_false_iff_not, hb, hm]; omega
   obtain rfl : Y = [] := List.length_eq_zero_iff.1 (by omega)
   rw [g1, g2, e0, List.append_nil, sortK_of_srt h1]
   rfl
 ·have g1 : decide (mid < e) = false := by rw [decide_eq_false_iff_not, ha, hm]; omega
  obtain rfl : X = [] := List.length_eq_zero_iff.1 (by omega)
  rw [g1, e0, List.nil_append, sortK_of_srt h2]
  rfl
theorem tl2_of (M e B : Int) (P X Y Q : List D) {A s mid : Int} (ha : A = (P.length : Int)) (hm : s = ((P.length + X.length : Nat) : Int)) (hb : mid = ((P.length + X.length + Y.length : Nat) : Int))
  (h1 : Srt keyE X) (h2 : Srt keyE Y) (hK : X.length + Y.length < K) (hbig : (P ++ X ++ Y ++ Q).length <= 2147483648) : tl2 F K A s M e mid B (P ++ X ++ Y ++ Q) = tl3 F K A s M e mid B (P ++ sortK keyE (X ++ Y) ++ Q) := by
 unfold tl2
 have e0 : P ++ X ++ Y ++ Q = P ++ (X ++ Y) ++ Q := by simp
 by_cases hx : 0 < X.length
 ·have g1 : decide (A < s) = true := by rw [decide_eq_true_eq, ha, hm]; omega
  by_cases hy : 0 < Y.length
  ·have g2 : decide (s < mid) = true := by rw [decide_eq_true_eq, hb, hm]; omega
   rw [g1, g2, symOK_of P X Y Q ha hm hb hx hy h1 h2 hK hbig, e0, insL_of P (X ++ Y) Q ha (by rw [hb]; simp; omega)]
   rfl
  ·have g2 : decide (s < mid) = false := by rw [decide_eq_false_iff_not, hb, hm]; omega
   obtain rfl : Y = [] := List.length_eq_zero_iff.1 (by omega)
   rw [g1, g2, e0, List.append_nil, sortK_of_srt h1]
   rfl
 ·have g1 : decide (A < s) = false := by rw [decide_eq_false_iff_not, ha, hm]; omega
  obtain rfl : X = [] := List.length_eq_zero_iff.1 (by omega)
  rw [g1, e0, List.nil_append, sortK_of_srt h2]
  rfl
theorem tl1_of (A mid B : Int) (P X Y R : List D) {s M e : Int} (ha : s = (P.length : Int)) (hm : M = ((P.length + X.length : Nat) : Int)) (hb : e = ((P.length + X.length + Y.length : Nat) : Int))
  (hbig : (P ++ X ++ Y ++ R).length <= 2147483648) : tl1 F K A s M e mid B (P ++ X ++ Y ++ R) = tl2 F K A s M e mid B (P ++ Y ++ X ++ R) := by
 unfold tl1
 by_cases hx : 0 < X.length
 ·have g1 : decide (s < M) = true := by rw [decide_eq_true_eq, ha, hm]; omega
  by_cases hy : 0 < Y.length
  ·have g2 : decide (M < e) = true := by rw [decide_eq_true_eq, hb, hm]; omega
   have g3 : rotOK (P ++ X ++ Y ++ R) s M e = true := by
    simp only [List.length_append] at hbig
    simp only [rotOK, Bool.and_eq_true, decide_eq_true_eq, List.length_append, ha, hm, hb]
    refine ⟨⟨⟨⟨?_, ?_⟩, ?_⟩, ?_⟩, ?_⟩ <;> omega
   rw [g1, g2, g3, rotL_of P X Y R ha hm hb]
   rfl
  ·have g2 : decide (M < e) = false := by rw [decide_eq_false_iff_not, hb, hm]; omega
   obtain rfl : Y = [] := List.length_eq_zero_iff.1 (by omega)
   rw [g1, g2]
   simp
 ·have g1 : decide (s < M) = false := by rw [decide_eq_false_iff_not, ha, hm]; omega
  obtain rfl : X = [] := List.length_eq_zero_iff.1 (by omega)
  rw [g1]
  simp

theorem seg_cut (l : List D) {a b c : Nat} (h1 : a <= b) (h2 : b <= c) : seg a c l = seg a b l ++ seg b c l := by
 unfold seg
 have e : c - a = (b - a) + (c - b) := by omega
 rw [e, List.take_add, List.drop_drop]
 have : a + (b - a) = b := by omega
 rw [this]
theorem insL_nat (l : List D) (A B : Nat) : insL l (A : Int) (B : Int) = l.take A ++ sortK keyE (seg A B l) ++ l.drop B := by
 unfold insL putSeg
 rw [Int.toNat_natCast, Int.toNat_natCast]

/-- What comes of it, where the search has ended well. -/
theorem tl1_end {l : List D} {A M B s : Nat} (hAM : A < M) (hMB : M < B) (hB : B <= l.length) (hbig : l.length <= 2147483648) (hX : Srt keyE (seg A M l)) (hY : Srt keyE (seg M B l)) (hK : B - A <= K)
  (g1 : A <= s) (g2 : s <= M) (g3 : s <= (A + B) / 2) (g4 : (A + B) / 2 + M <= B + s)
  (p1 : s = A \/ (A + B) / 2 + M = B + s \/ klt (kx l ((A + B) / 2 + M - s)) (kx l (s - 1)) = false) (p2 : s = M \/ s = (A + B) / 2 \/ klt (kx l ((A + B) / 2 + M - 1 - s)) (kx l s) = true) :
  tl1 F K (A : Int) (s : Int) (M : Int) (((A + B) / 2 + M - s : Nat) : Int) (((A + B) / 2 : Nat) : Int) (B : Int) l = F (insL l (A : Int) (B : Int)) := by
 obtain ⟨mid, hmid⟩ : ∃ mid, mid = (A + B) / 2 := ⟨_, rfl⟩
 rw [<- hmid] at g3 g4 p1 p2 ⊢
 obtain ⟨e, he⟩ : ∃ e, e = mid + M - s := ⟨_, rfl⟩
 rw [<- he] at p1 ⊢
 have he' : mid + M - 1 - s = e - 1 := by omega
 rw [he'] at p2
 have c1 : M <= e := by omega
 have c2 : e <= B := by omega
 have hl : l = l.take A ++ seg A s l ++ seg s M l ++ seg M e l ++ seg e B l ++ l.drop B := by
  conv => lhs; rw [seg_split l (a := A) (b := B) (by omega) hB, seg_cut l (a := A) (b := M) (c := B) (by omega) (by omega), seg_cut l (a := A) (b := s) (c := M) (by omega) (by omega), seg_cut l (a := M) (b := e) (c := B) (by omega) (by omega)]
  simp only [List.append_assoc]
 have lA : (l.take A).length = A := by simp; omega
 have l1 := seg_len l (a := A) (b := s) (by omega) (by omega)
 have l2 := seg_len l (a := s) (b := M) (by omega) (by omega)
 have l3 := seg_len l (a := M) (b := e) (by omega) (by omega)
 have l4 := seg_len l (a := e) (b := B) (by omega) (by omega)
 have hX' := hX
 have hY' := hY
 rw [seg_cut l (a := A) (b := s) (c := M) (by omega) (by omega)] at hX
 rw [seg_cut l (a := M) (b := e) (c := B) (by omega) (by omega)] at hY
 obtain ⟨x1, x2, _⟩ := srt_app.1 hX
 obtain ⟨y1, y2, _⟩ := srt_app.1 hY
 have d1 : ∀ x ∈ seg A s l, ∀ y ∈ seg e B l, klt (keyE y) (keyE x) = false := by
  intro x hx y hy
  obtain ⟨i, i1, i2, _, hi⟩ := mem_seg hx
  obtain ⟨j, j1, j2, _, hj⟩ := mem_seg hy
  rw [hi, hj]
  rcases p1 with p1 | p1 | p1
  ·omega
  ·omega
  ·exact nlt_trans (srt_seg hX' (by omega) (i := i) (j := s - 1) (by omega) (by omega) (by omega)) (nlt_trans p1 (srt_seg hY' hB (i := e) (j := j) (by omega) (by omega) (by omega)))
 have d2 : ∀ y ∈ seg M e l, ∀ x ∈ seg s M l, klt (keyE y) (keyE x) = true := by
  intro y hy x hx
  obtain ⟨i, i1, i2, _, hi⟩ := mem_seg hx
  obtain ⟨j, j1, j2, _, hj⟩ := mem_seg hy
  rw [hi, hj]
  rcases p2 with p2 | p2 | p2
  ·omega
  ·omega
  ·exact lt_of_nlt_lt (srt_seg hY' hB (i := j) (j := e - 1) (by omega) (by omega) (by omega)) (lt_of_lt_nlt p2 (srt_seg hX' (by omega) (i := s) (j := i) (by omega) (by omega) (by omega)))
 have hbig' : (l.take A ++ seg A s l ++ seg s M l ++ seg M e l ++ seg e B l ++ l.drop B).length <= 2147483648 := by rw [<- hl]; exact hbig
 have key : tl1 F K (A : Int) (s : Int) (M : Int) (e : Int) (mid : Int) (B : Int) (l.take A ++ seg A s l ++ seg s M l ++ seg M e l ++ seg e B l ++ l.drop B) = F (l.take A ++ sortK keyE (seg A s l ++ seg M e l) ++ sortK keyE (seg s M l ++ seg e B l) ++ l.drop B) := by
  simp only [List.length_append] at hbig'
  rw [show l.take A ++ seg A s l ++ seg s M l ++ seg M e l ++ seg e B l ++ l.drop B = (l.take A ++ seg A s l) ++ seg s M l ++ seg M e l ++ (seg e B l ++ l.drop B) by simp only [List.append_assoc],
   tl1_of F K (A : Int) (mid : Int) (B : Int) (l.take A ++ seg A s l) (seg s M l) (seg M e l) (seg e B l ++ l.drop B) (by simp only [List.length_append]; omega) (by simp only [List.length_append]; omega) (by simp only [List.length_append]; omega) (by simp only [List.length_append]; omega),
   show (l.take A ++ seg A s l) ++ seg M e l ++ seg s M l ++ (seg e B l ++ l.drop B) = l.take A ++ seg A s l ++ seg M e l ++ (seg s M l ++ seg e B l ++ l.drop B) by simp only [List.append_assoc],
   tl2_of F K (M : Int) (e : Int) (B : Int) (l.take A) (seg A s l) (seg M e l) (seg s M l ++ seg e B l ++ l.drop B) (by omega) (by omega) (by omega) x1 y1 (by omega) (by simp only [List.length_append]; omega),
   show l.take A ++ sortK keyE (seg A s l ++ seg M e l) ++ (seg s M l ++ seg e B l ++ l.drop B) = (l.take A ++ sortK keyE (seg A s l ++ seg M e l)) ++ seg s M l ++ seg e B l ++ l.drop B by simp only [List.append_assoc],
   tl3_of F K (A : Int) (s : Int) (M : Int) (l.take A ++ sortK keyE (seg A s l ++ seg M e l)) (seg s M l) (seg e B l) (l.drop B) (by simp only [List.length_append, sortK_len]; omega) (by simp only [List.length_append, sortK_len]; omega) (by simp only [List.length_append, sortK_len]; omega) x2 y2 (by omega) (by simp only [List.length_append, sortK_len]; omega)]
 rw [<- hl] at key
 rw [key, insL_nat]
 have hh := halves (key := keyE) hX hY d1 d2 (sortK_srt _) (sortK_seq (seg A s l ++ seg M e l)) (sortK_srt _) (sortK_seq (seg s M l ++ seg e B l))
 have := sortK_eq hh.1 hh.2
 rw [seg_cut l (a := A) (b := M) (c := B) (by omega) (by omega), seg_cut l (a := A) (b := s) (c := M) (by omega) (by omega), seg_cut l (a := M) (b := e) (c := B) (by omega) (by omega), <- this]
 simp only [List.append_assoc]

/-- One before a run. -/
theorem one_on {l : List D} {A B s : Nat} (hAB : A + 1 < B) (hB : B <= l.length) (hY : Srt keyE (seg (A + 1) B l)) (g1 : A + 1 <= s) (g2 : s <= B)
  (p1 : s = A + 1 \/ klt (kx l (s - 1)) (kx l A) = true) (p2 : s = B \/ klt (kx l s) (kx l A) = false) : insL l (A : Int) (B : Int) = l.take A ++ seg (A + 1) s l ++ l.getD A .nil :: (seg s B l ++ l.drop B) := by
 have hh := move_on (key := keyE) (S1 := seg (A + 1) s l) (S2 := seg s B l) (x := l.getD A .nil) (by rw [<- seg_cut l g1 g2]; exact hY) (by
  intro y hy
  obtain ⟨j, j1, j2, _, hj⟩ := mem_seg hy
  rw [hj]
  rcases p1 with p1 | p1
  ·omega
  ·exact lt_of_nlt_lt (srt_seg hY hB (i := j) (j := s - 1) (by omega) (by omega) (by omega)) p1) (by
  intro y hy
  obtain ⟨j, j1, j2, _, hj⟩ := mem_seg hy
  rw [hj]
  rcases p2 with p2 | p2
  ·omega
  ·exact nlt_trans p2 (srt_seg hY hB (i := s) (j := j) (by omega) (by omega) (by omega)))
 have h1 : seg A B l = l.getD A .nil :: (seg (A + 1) s l ++ seg s B l) := by
  rw [<- seg_cut l g1 g2, seg_cut l (a := A) (b := A + 1) (c := B) (by omega) (by omega), l_get (by omega)]
  have : seg A (A + 1) l = [l[A]] := by
   unfold seg
   rw [List.drop_eq_getElem_cons (by omega)]
   have : A + 1 - A = 1 := by omega
   rw [this]; rfl
  rw [this]; rfl
 rw [insL_nat, h1, <- sortK_eq hh.1 hh.2]
 simp only [List.append_assoc, List.cons_append]
/-- One behind a run. -/
theorem one_back {l : List D} {A M s : Nat} (hAM : A < M) (hB : M + 1 <= l.length) (hX : Srt keyE (seg A M l)) (g1 : A <= s) (g2 : s <= M)
  (p1 : s = A \/ klt (kx l M) (kx l (s - 1)) = false) (p2 : s = M \/ klt (kx l M) (kx l s) = true) : insL l (A : Int) ((M + 1 : Nat) : Int) = l.take A ++ seg A s l ++ l.getD M .nil :: (seg s M l ++ l.drop (M + 1)) := by
 have hh := move_back (key := keyE) (S1 := seg A s l) (S2 := seg s M l) (x := l.getD M .nil) (by rw [<- seg_cut l g1 g2]; exact hX) (by
  intro y hy
  obtain ⟨j, j1, j2, _, hj⟩ := mem_seg hy
  rw [hj]
  rcases p2 with p2 | p2
  ·omega
  ·exact lt_of_lt_nlt p2 (srt_seg hX (by omega) (i := s) (j := j) (by omega) (by omega) (by omega))) (by
  intro y hy
  obtain ⟨j, j1, j2, _, hj⟩ := mem_seg hy
  rw [hj]
  rcases p1 with p1 | p1
  ·omega
  ·exact nlt_trans (srt_seg hX (by omega) (i := j) (j := s - 1) (by omega) (by omega) (by omega)) p1)
 have h1 : seg A (M + 1) l = seg A s l ++ seg s M l ++ [l.getD M .nil] := by
  rw [<- seg_cut l g1 g2, seg_cut l (a := A) (b := M) (c := M + 1) (by omega) (by omega), l_get (by omega)]
  have : seg M (M + 1) l = [l[M]] := by
   unfold seg
   rw [List.drop_eq_getElem_cons (by omega)]
   have : M + 1 - M = 1 := by omega
   rw [this]; rfl
  rw [this]
 rw [insL_nat, h1, <- sortK_eq hh.1 hh.2]
 simp only [List.append_assoc, List.cons_append]
end
end
theorem seg_take (c d : Nat) (l : List D) : seg c d l = (l.take d).drop c := by unfold seg; rw [List.drop_take]
theorem seg_drop {b c d : Nat} (h : b <= c) (l : List D) : seg c d l = seg (c - b) (d - b) (l.drop b) := by
 unfold seg
 rw [List.drop_drop]
 congr 1
 ·omega
 ·congr 1; omega
theorem len_ins {l : List D} {A B : Nat} (hA : A <= B) (hB : B <= l.length) : (insL l (A : Int) (B : Int)).length = l.length := by
 rw [insL_nat]
 simp only [List.length_append, sortK_len, seg_len l hA hB, List.length_take, List.length_drop]
 omega
theorem seg_ins_lt {l : List D} {A B c d : Nat} (hA : A <= B) (hB : B <= l.length) (h : d <= A) : seg c d (insL l (A : Int) (B : Int)) = seg c d l := by
 rw [seg_take, seg_take c d l, insL_nat, List.append_assoc, List.take_append_of_le_length (by simp; omega), List.take_take]
 congr 2
 omega
theorem seg_ins_gt {l : List D} {A B c d : Nat} (hA : A <= B) (hB : B <= l.length) (h : B <= c) : seg c d (insL l (A : Int) (B : Int)) = seg c d l := by
 rw [seg_drop h, seg_drop h l, insL_nat]
 have : (l.take A ++ sortK keyE (seg A B l) ++ l.drop B).drop B = l.drop B := drop_of (by rw [sortK_len, seg_len l hA hB]; simp; omega)
 rw [this]
theorem seg_ins_eq {l : List D} {A B : Nat} (hA : A <= B) (hB : B <= l.length) : seg A B (insL l (A : Int) (B : Int)) = sortK keyE (seg A B l) := by
 rw [insL_nat]
 exact seg_of (by simp; omega) (by rw [sortK_len, seg_len l hA hB]; simp; omega)
theorem seq_ins {l : List D} {A B : Nat} (hA : A <= B) (hB : B <= l.length) : SEq keyE (insL l (A : Int) (B : Int)) l := by
 rw [insL_nat]
 have := SEq.app (SEq.app (SEq.refl (key := keyE) (l.take A)) (sortK_seq (key := keyE) (seg A B l))) (SEq.refl (l.drop B))
 rw [<- seg_split l hA hB] at this
 exact this
theorem seg_clip {l : List D} {c d : Nat} (h : l.length <= d) : seg c d l = l.drop c := by
 unfold seg
 exact List.take_of_length_le (by simp; omega)
theorem seg_out {l : List D} {c d : Nat} (h : l.length <= c) : seg c d l = [] := by
 unfold seg
 rw [List.drop_of_length_le h, List.take_nil]

def Blk (s : Nat) (l : List D) : Prop := ∀ k, Srt keyE (seg (k * s) ((k + 1) * s) l)
theorem blk_step {s j : Nat} {l : List D} (h : ∀ k, k < j -> Srt keyE (seg (k * s) ((k + 1) * s) l)) (hb : (j + 1) * s <= l.length) :
  ∀ k, k < j + 1 -> Srt keyE (seg (k * s) ((k + 1) * s) (insL l ((j * s : Nat) : Int) (((j + 1) * s : Nat) : Int))) := by
 intro k hk
 have hA : j * s <= (j + 1) * s := Nat.mul_le_mul_right s (by omega)
 by_cases he : k = j
 ·subst he
  rw [seg_ins_eq hA hb]
  exact sortK_srt _
 ·rw [seg_ins_lt hA hb (Nat.mul_le_mul_right s (by omega))]
  exact h k (by omega)
theorem blk_last {s j : Nat} {l : List D} (h : ∀ k, k < j -> Srt keyE (seg (k * s) ((k + 1) * s) l)) (hj : j * s <= l.length) (hj' : l.length < (j + 1) * s) :
  Blk s (insL l ((j * s : Nat) : Int) (l.length : Int)) := by
 intro k
 have hlen := len_ins (l := l) hj (Nat.le_refl _)
 rcases Nat.lt_trichotomy k j with hk | hk | hk
 ·rw [seg_ins_lt hj (Nat.le_refl _) (Nat.mul_le_mul_right s (by omega))]
  exact h k hk
 ·subst hk
  rw [seg_clip (by omega), <- seg_clip (d := l.length) (by omega), seg_ins_eq hj (Nat.le_refl _)]
  exact sortK_srt _
 ·have : (j + 1) * s <= k * s := Nat.mul_le_mul_right s (by omega)
  rw [seg_out (by omega)]
  exact srt_nil
theorem dbl_step {s j : Nat} {l : List D} (h : ∀ k, 2 * j <= k -> Srt keyE (seg (k * s) ((k + 1) * s) l)) (hb : (j + 1) * (2 * s) <= l.length) :
  ∀ k, 2 * (j + 1) <= k -> Srt keyE (seg (k * s) ((k + 1) * s) (insL l ((j * (2 * s) : Nat) : Int) (((j + 1) * (2 * s) : Nat) : Int))) := by
 intro k hk
 have hA : j * (2 * s) <= (j + 1) * (2 * s) := Nat.mul_le_mul_right _ (by omega)
 have : (j + 1) * (2 * s) = (2 * (j + 1)) * s := by rw [Nat.mul_comm 2 s, <- Nat.mul_assoc, Nat.mul_right_comm, Nat.mul_comm 2]
 rw [seg_ins_gt hA hb (by rw [this]; exact Nat.mul_le_mul_right s hk)]
 exact h k (by omega)
theorem dbl_eq (j s : Nat) : j * (2 * s) = (2 * j) * s := by rw [Nat.mul_comm 2 s, <- Nat.mul_assoc, Nat.mul_right_comm, Nat.mul_comm 2]
theorem dbl_none {s j : Nat} {l : List D} (h1 : ∀ k, k < j -> Srt keyE (seg (k * (2 * s)) ((k + 1) * (2 * s)) l)) (h2 : ∀ k, 2 * j <= k -> Srt keyE (seg (k * s) ((k + 1) * s) l)) (hj : l.length <= j * (2 * s) + s) : Blk (2 * s) l := by
 intro k
 rcases Nat.lt_trichotomy k j with hk | hk | hk
 ·exact h1 k hk
 ·subst hk
  have e1 : (k + 1) * (2 * s) = k * (2 * s) + 2 * s := Nat.succ_mul _ _
  have e2 : (2 * k + 1) * s = 2 * k * s + s := Nat.succ_mul _ _
  have h3 := h2 (2 * k) (Nat.le_refl _)
  rw [seg_clip (by rw [e2, <- dbl_eq]; exact hj)] at h3
  rw [seg_clip (by omega), dbl_eq]
  exact h3
 ·have e1 : (j + 1) * (2 * s) = j * (2 * s) + 2 * s := Nat.succ_mul _ _
  have : (j + 1) * (2 * s) <= k * (2 * s) := Nat.mul_le_mul_right _ (by omega)
  rw [seg_out (by omega)]
  exact srt_nil
theorem blk_done {s : Nat} {l es : List D} (h : Blk s l) (hs : l.length <= s) (hq : SEq keyE l es) : l = sortK keyE es := by
 refine sortK_eq ?_ hq
 have := h 0
 rw [seg_clip (by omega), Nat.zero_mul, List.drop_zero] at this
 exact this
theorem symOK_seg {K : Nat} {l : List D} {A M B : Nat} (h1 : A < M) (h2 : M < B) (h3 : B <= l.length) (h4 : l.length <= 2147483648) (h5 : B - A < K) (h6 : Srt keyE (seg A M l)) (h7 : Srt keyE (seg M B l)) : symOK K l (A : Int) (M : Int) (B : Int) = true := by
 unfold symOK
 simp only [Int.toNat_natCast, srtB_iff.2 h6, srtB_iff.2 h7, Bool.and_true, Bool.and_eq_true, decide_eq_true_eq]
 refine ⟨⟨⟨⟨⟨?_, ?_⟩, ?_⟩, ?_⟩, ?_⟩, ?_⟩ <;> omega
theorem insOK_nat {l : List D} {A B : Nat} (h1 : A <= B) (h3 : B <= l.length) (h4 : l.length <= 2147483648) : insOK l (A : Int) (B : Int) = true := by
 simp only [insOK, Bool.and_eq_true, decide_eq_true_eq]
 refine ⟨⟨⟨?_, ?_⟩, ?_⟩, ?_⟩ <;> omega

/-- Sorted with what it is sorted by, and without. -/
theorem insK_map {α β : Type} (key : β -> Key) (f : α -> β) (x : α) : ∀ l : List α, insK key (f x) (l.map f) = (insK (fun a => key (f a)) x l).map f
 | [] => rfl
 | y :: l => by
  have ih := insK_map key f x l
  simp only [insK, List.map_cons]
  split <;> simp_all
theorem sortK_map {α β : Type} (key : β -> Key) (f : α -> β) : ∀ l : List α, sortK key (l.map f) = (sortK (fun a => key (f a)) l).map f
 | [] => rfl
 | x :: l => by
  have ih := sortK_map key f l
  simp only [sortK, List.map_cons]
  rw [ih, insK_map]
end Go.Ev
