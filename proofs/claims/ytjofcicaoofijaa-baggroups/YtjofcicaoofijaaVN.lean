/- Pieces of lists that are sorted in place. Nothing here is trusted. -/
import Derived.Test.YtjofcicaoofijaaVL
namespace Go.Ev
set_option linter.unusedVariables false
set_option linter.unusedSimpArgs false

theorem against_lt (a b : D) : decide (againstI a b < 0) = klt (keyR a) (keyR b) := by
  unfold againstI
  cases h : rankEq a b with
  | true =>
    have : valueD a = valueD b := by
      unfold rankEq at h
      simp only [Bool.and_true, Bool.and_eq_true, beq_iff_eq] at h
      unfold valueD
      rw [h.1, h.2]
    have : keyR a = keyR b := by unfold keyR; rw [this]
    rw [this, klt_irrefl]
    rfl
  | false =>
    have : lessB (valueD a) (valueD b) = klt (keyR a) (keyR b) := rfl
    rw [this]
    cases klt (keyR a) (keyR b) <;> rfl

theorem l_at (A R : List D) (x : D) : (A ++ x :: R).getD A.length .nil = x := by simp [List.getD]
theorem l_at' (A R : List D) (x : D) {i : Nat} (h : i = A.length) : (A ++ x :: R).getD i .nil = x := by rw [h]; exact l_at A R x
theorem l_put (A R : List D) (x y : D) {i : Nat} (h : i = A.length) : (A ++ x :: R).set i y = A ++ y :: R := by
  subst h
  rw [List.set_append_right _ _ (Nat.le_refl _)]
  simp
/-- Two elements change places. -/
theorem l_swap (A M R : List D) (x y : D) {i j : Nat} (hi : i = A.length) (hj : j = A.length + 1 + M.length) :
    ((A ++ x :: (M ++ y :: R)).set i ((A ++ x :: (M ++ y :: R)).getD j .nil)).set j ((A ++ x :: (M ++ y :: R)).getD i .nil) = A ++ y :: (M ++ x :: R) := by
  have e1 : A ++ x :: (M ++ y :: R) = (A ++ x :: M) ++ y :: R := by simp
  have h1 : (A ++ x :: (M ++ y :: R)).getD j .nil = y := by rw [e1]; exact l_at' _ _ _ (by simp; omega)
  rw [h1, l_at' _ _ _ hi, l_put _ _ _ _ hi]
  have e2 : A ++ y :: (M ++ y :: R) = (A ++ y :: M) ++ y :: R := by simp
  rw [e2, l_put _ _ _ _ (by simp; omega)]
  simp
theorem l_swap' (A M R : List D) (x y : D) {i j : Nat} (hi : i = A.length) (hj : j = A.length + 1 + M.length) :
    ((A ++ x :: (M ++ y :: R)).set j ((A ++ x :: (M ++ y :: R)).getD i .nil)).set i ((A ++ x :: (M ++ y :: R)).getD j .nil) = A ++ y :: (M ++ x :: R) := by
  rw [List.set_comm _ _ (by omega : j ≠ i)]
  exact l_swap A M R x y hi hj

/-- A list is what stands ahead, a piece, and what stands behind. -/
theorem seg_split (es : List D) {a b : Nat} (h1 : a ≤ b) (h2 : b ≤ es.length) : es = es.take a ++ seg a b es ++ es.drop b := by
  unfold seg
  have : es.drop b = (es.drop a).drop (b - a) := by rw [List.drop_drop]; congr 1; omega
  rw [this, List.append_assoc, List.take_append_drop, List.take_append_drop]
theorem seg_len (es : List D) {a b : Nat} (h1 : a ≤ b) (h2 : b ≤ es.length) : (seg a b es).length = b - a := by
  unfold seg; simp; omega
theorem seg_of {A W R : List D} {a b : Nat} (ha : a = A.length) (hb : b = A.length + W.length) : seg a b (A ++ W ++ R) = W := by
  subst ha hb
  unfold seg
  rw [List.append_assoc, List.drop_left]
  have : A.length + W.length - A.length = W.length := by omega
  rw [this, List.take_left]
theorem take_of {A W R : List D} {a : Nat} (ha : a = A.length) : (A ++ W ++ R).take a = A := by
  subst ha; rw [List.append_assoc, List.take_left]
theorem drop_of {A W R : List D} {b : Nat} (hb : b = A.length + W.length) : (A ++ W ++ R).drop b = R := by
  subst hb
  rw [← List.length_append, List.drop_left]

theorem cut3 (l : List D) {a b : Nat} (h : a ≤ b) : l.drop a = (l.drop a).take (b - a) ++ l.drop b := by
  have : l.drop b = (l.drop a).drop (b - a) := by rw [List.drop_drop]; congr 1; omega
  rw [this, List.take_append_drop]
theorem swp_split (l : List D) {A B n : Nat} (q1 : A + n ≤ B) (q2 : B + n ≤ l.length) : ∃ P0 X M Y R : List D, l = P0 ++ X ++ M ++ Y ++ R ∧ P0.length = A ∧ X.length = n ∧ M.length = B - (A + n) ∧ Y.length = n ∧
    swpL l (A : Int) (B : Int) (n : Int) = P0 ++ Y ++ M ++ X ++ R := by
  refine ⟨l.take A, (l.drop A).take n, (l.drop (A + n)).take (B - (A + n)), (l.drop B).take n, l.drop (B + n), ?_, by simp; omega, by simp; omega, by simp; omega, by simp; omega, ?_⟩
  · have e1 := cut3 l (a := A) (b := A + n) (by omega)
    have e2 := cut3 l (a := A + n) (b := B) q1
    have e3 := cut3 l (a := B) (b := B + n) (by omega)
    have z1 : A + n - A = n := by omega
    have z2 : B + n - B = n := by omega
    rw [z1] at e1
    rw [z2] at e3
    conv => lhs; rw [← List.take_append_drop A l, e1, e2, e3]
    simp only [List.append_assoc]
  · unfold swpL
    have z1 : ((A : Int) + (n : Int)).toNat = A + n := by omega
    have z2 : ((B : Int) - ((A : Int) + (n : Int))).toNat = B - (A + n) := by omega
    have z3 : ((B : Int) + (n : Int)).toNat = B + n := by omega
    rw [z1, z2, z3, Int.toNat_natCast, Int.toNat_natCast, Int.toNat_natCast]

theorem swpL_of (P0 X M Y R : List D) {a b n : Int} (ha : a = (P0.length : Int)) (hn : n = (X.length : Int)) (hb : b = ((P0.length + X.length + M.length : Nat) : Int)) (hXY : Y.length = X.length) :
    swpL (P0 ++ X ++ M ++ Y ++ R) a b n = P0 ++ Y ++ M ++ X ++ R := by
  subst ha hn hb
  obtain ⟨P', X', M', Y', R', h, h1, h2, h3, h4, h5⟩ := swp_split (P0 ++ X ++ M ++ Y ++ R) (A := P0.length) (B := P0.length + X.length + M.length) (n := X.length) (by omega) (by simp; omega)
  rw [h5]
  simp only [List.append_assoc] at h
  obtain ⟨e1, ha⟩ := List.append_inj h h1.symm
  obtain ⟨e2, hb⟩ := List.append_inj ha h2.symm
  obtain ⟨e3, hc⟩ := List.append_inj hb (by omega)
  obtain ⟨e4, hd⟩ := List.append_inj hc (by omega)
  rw [← e1, ← e2, ← e3, ← e4, ← hd]
theorem swpOK_of (P0 X M Y R : List D) {a b n : Int} (ha : a = (P0.length : Int)) (hn : n = (X.length : Int)) (hb : b = ((P0.length + X.length + M.length : Nat) : Int)) (hXY : Y.length = X.length) (hbig : (P0 ++ X ++ M ++ Y ++ R).length ≤ 2147483648) :
    swpOK (P0 ++ X ++ M ++ Y ++ R) a b n = true := by
  subst ha hn hb
  simp only [List.length_append] at hbig
  simp only [swpOK, Bool.and_eq_true, decide_eq_true_eq, List.length_append]
  omega
theorem rot_split (l : List D) {A M B : Nat} (q1 : A ≤ M) (q2 : M ≤ B) (q3 : B ≤ l.length) : ∃ P0 X Y R : List D, l = P0 ++ X ++ Y ++ R ∧ P0.length = A ∧ X.length = M - A ∧ Y.length = B - M ∧
    rotL l (A : Int) (M : Int) (B : Int) = P0 ++ Y ++ X ++ R ∧ seg A M l = X ∧ seg M B l = Y := by
  refine ⟨l.take A, (l.drop A).take (M - A), (l.drop M).take (B - M), l.drop B, ?_, by simp; omega, by simp; omega, by simp; omega, ?_, rfl, rfl⟩
  · have e1 := cut3 l (a := A) (b := M) q1
    have e2 := cut3 l (a := M) (b := B) q2
    conv => lhs; rw [← List.take_append_drop A l, e1, e2]
    simp only [List.append_assoc]
  · unfold rotL
    have z1 : ((B : Int) - (M : Int)).toNat = B - M := by omega
    have z2 : ((M : Int) - (A : Int)).toNat = M - A := by omega
    rw [z1, z2, Int.toNat_natCast, Int.toNat_natCast, Int.toNat_natCast]
theorem rotL_of (P0 X Y R : List D) {a m b : Int} (ha : a = (P0.length : Int)) (hm : m = ((P0.length + X.length : Nat) : Int)) (hb : b = ((P0.length + X.length + Y.length : Nat) : Int)) :
    rotL (P0 ++ X ++ Y ++ R) a m b = P0 ++ Y ++ X ++ R := by
  subst ha hm hb
  obtain ⟨P', X', Y', R', h, h1, h2, h3, h4, _⟩ := rot_split (P0 ++ X ++ Y ++ R) (A := P0.length) (M := P0.length + X.length) (B := P0.length + X.length + Y.length) (by omega) (by omega) (by simp only [List.length_append]; omega)
  rw [h4]
  simp only [List.append_assoc] at h
  obtain ⟨e1, ha⟩ := List.append_inj h h1.symm
  obtain ⟨e2, hb⟩ := List.append_inj ha (by omega)
  obtain ⟨e3, hc⟩ := List.append_inj hb (by omega)
  rw [← e1, ← e2, ← e3, ← hc]

/-! ### In order, one by one -/
theorem adj_snoc (p : Int) (y x : D) : ∀ m : List D, adjB p (m ++ [x, y]) = (adjB p (m ++ [x]) && !klt (keyAt p y) (keyAt p x))
  | [] => by simp [adjB]
  | [z] => by simp [adjB]
  | z :: w :: m => by
    have ih := adj_snoc p y x (w :: m)
    simp only [List.cons_append, adjB] at ih ⊢
    rw [ih, Bool.and_assoc]
theorem adj_srt (p : Int) : ∀ {l : List D}, adjB p l = true ↔ Srt (keyAt p) l
  | [] => by simp [adjB, Srt]
  | [x] => by simp [adjB, Srt]
  | x :: y :: l => by
    have ih := adj_srt p (l := y :: l)
    unfold Srt at ih ⊢
    rw [adjB, Bool.and_eq_true, ih, List.pairwise_cons (a := x)]
    constructor
    · rintro ⟨h1, h2⟩
      refine ⟨fun z hz => ?_, h2⟩
      have h1 : klt (keyAt p y) (keyAt p x) = false := by simpa using h1
      rcases List.mem_cons.1 hz with rfl | hz
      · exact h1
      · exact nlt_trans h1 ((List.pairwise_cons.1 h2).1 z hz)
    · rintro ⟨h1, h2⟩
      exact ⟨by simpa using h1 y (by simp), h2⟩

end Go.Ev
