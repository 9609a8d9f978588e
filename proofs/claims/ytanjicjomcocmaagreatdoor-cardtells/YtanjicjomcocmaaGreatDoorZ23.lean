/- Trees of functions, and lemmas. Nothing here is trusted. -/
import Derived.Test.YtanjicjomcocmaaGreatDoorZ22
namespace Go.Ev
set_option linter.unusedVariables false
set_option linter.unusedSimpArgs false
/-! ### How many parts; how deep -/
def partsL (g : D -> Int) : List D -> Int -> Int
 | [], n => n
 | p :: l, n => bif decide (n < 31) then partsL g l (n + g p) else n
def partsK : Nat -> D -> Int -> Int
 | 0, _, _ => 1
 | k + 1, e, deep => bif decide (deep > 6) then 100 else partsL (fun p => partsK k p (deep + 1)) (kids e) 1
def partsP (K : Nat) (deep : Int) : Bool := decide (1 <= deep) && decide (deep <= 7) && decide (8 - deep <= (K : Int))
def deepK : Nat -> D -> Bool
 | 0, _ => false
 | k + 1, e => (kids e).all (deepK k)
def dOK : Nat -> D -> Int -> Bool
 | 0, _, _ => false
 | k + 1, e, deep => decide (deep <= 6) && (kids e).all fun p => dOK k p (deep + 1)
def fineK (K : Nat) (e : D) : Bool := okK K e
theorem partsK_succ (k : Nat) (e : D) (deep : Int) : partsK (k + 1) e deep = bif decide (deep > 6) then 100 else partsL (fun p => partsK k p (deep + 1)) (kids e) 1 := rfl
theorem dOK_succ (k : Nat) (e : D) (deep : Int) : dOK (k + 1) e deep = (decide (deep <= 6) && (kids e).all fun p => dOK k p (deep + 1)) := rfl
theorem deepK_succ (k : Nat) (e : D) : deepK (k + 1) e = (kids e).all (deepK k) := rfl
theorem partsL_ge {g : D -> Int} (hg : ∀ p, 1 <= g p) : ∀ (l : List D) (n : Int), n <= partsL g l n
 | [], n => Int.le_refl _
 | p :: l, n => by
  unfold partsL
  by_cases h : n < 31
  ·rw [decide_eq_true h, cond_true]
   have := partsL_ge hg l (n + g p)
   have := hg p
   omega
  ·rw [decide_eq_false h, cond_false]
   exact Int.le_refl _
theorem partsK_pos : ∀ (K : Nat) (e : D) (deep : Int), 1 <= partsK K e deep
 | 0, e, deep => Int.le_refl _
 | K + 1, e, deep => by
  rw [partsK_succ]
  by_cases h : deep > 6
  ·rw [decide_eq_true h, cond_true]; omega
  ·rw [decide_eq_false h, cond_false]
   exact partsL_ge (fun p => partsK_pos K p (deep + 1)) _ 1
theorem partsL_le {g : D -> Int} {M : Int} (hg : ∀ p, g p <= M) (hM : 0 <= M) : ∀ (l : List D) (n : Int), n <= 30 + M -> partsL g l n <= 30 + M
 | [], n, h => h
 | p :: l, n, h => by
  unfold partsL
  by_cases h1 : n < 31
  ·rw [decide_eq_true h1, cond_true]
   exact partsL_le hg hM l _ (by have := hg p; omega)
  ·rw [decide_eq_false h1, cond_false]; exact h
theorem partsK_le : ∀ (K : Nat) (e : D) (deep : Int), partsK K e deep <= 100 + 30 * (K : Int)
 | 0, e, deep => by show (1 : Int) <= _; omega
 | K + 1, e, deep => by
  rw [partsK_succ]
  by_cases h : deep > 6
  ·rw [decide_eq_true h, cond_true]; omega
  ·rw [decide_eq_false h, cond_false]
   have := partsL_le (g := fun p => partsK K p (deep + 1)) (M := 100 + 30 * (K : Int)) (fun p => partsK_le K p (deep + 1)) (by omega) (kids e) 1 (by omega)
   omega
/-- Up to 30 parts: all are counted. -/
theorem partsL_eq {g s : D -> Int} {o : D -> Bool} (hs : ∀ p, 1 <= s p) (hg1 : ∀ p, 1 <= g p) (hg : ∀ p, g p <= 30 ↔ (o p = true /\ s p <= 30)) (he : ∀ p, g p <= 30 -> g p = s p) :
  ∀ (l : List D) (n : Int), 0 <= n -> n <= 30 -> ((partsL g l n <= 30 ↔ (l.all o = true /\ n + (l.map s).sum <= 30)) /\ (partsL g l n <= 30 -> partsL g l n = n + (l.map s).sum))
 | [], n, _, h => by simp [partsL, h]
 | p :: l, n, hn, h => by
  have hsum : ∀ (l : List D), 0 <= (l.map s).sum := by
   intro l
   induction l with
   | nil => simp
   | cons q l ih => rw [List.map_cons, List.sum_cons]; have := hs q; omega
  have h0 := hsum l
  have hp := hg1 p
  unfold partsL
  rw [decide_eq_true (show n < 31 by omega), cond_true, List.all_cons, List.map_cons, List.sum_cons, Bool.and_eq_true]
  by_cases h1 : n + g p <= 30
  ·obtain ⟨ih1, ih2⟩ := partsL_eq hs hg1 hg he l (n + g p) (by omega) h1
   have hle : g p <= 30 := by omega
   have e1 := he p hle
   have e2 := (hg p).1 hle
   refine ⟨⟨fun hh => ?_, fun hh => ?_⟩, fun hh => ?_⟩
   ·have := ih1.1 hh
    exact ⟨⟨e2.1, this.1⟩, by omega⟩
   ·exact ih1.2 ⟨hh.1.2, by omega⟩
   ·have := ih2 hh
    omega
  ·have hbig := partsL_ge hg1 l (n + g p)
   constructor
   ·constructor
    ·intro hh; omega
    ·rintro ⟨⟨a, b⟩, c⟩
     exfalso
     have hsp : s p <= 30 := by omega
     have := (hg p).2 ⟨a, hsp⟩
     have := he p this
     omega
   ·intro hh; omega
/-- The document's word for a column of a query. -/
def colRB (c q : D) (x : Int) : Bool := belowB x 16 && (decide (x / 4 < ((qOcc q).length : Int)) && (belowB (intD ((qOcc q).getD (x / 4).toNat .nil)) ((tabs c).length : Int) && decide (x % 4 < tabC c q (x / 4))))
theorem colR_eq {c q : D} (h : occMayB c q = true) (x : Int) : colRB c q x = isColB c q x := by
 unfold colRB isColB
 cases hb : belowB x 16 with
 | false => rfl
 | true =>
  have h16 := below_iff.1 hb
  obtain ⟨e1, e2⟩ := split_in h16
  rw [e1, e2, Bool.true_and, Bool.true_and]
  by_cases hl : x / 4 < ((qOcc q).length : Int)
  ·unfold occMayB at h
   rw [Bool.and_eq_true, List.all_eq_true] at h
   have hlt : (x / 4).toNat < (qOcc q).length := by omega
   have := h.2 _ (List.getElem_mem hlt)
   rw [l_get hlt, this, Bool.true_and]
  ·rw [decide_eq_false hl, Bool.false_and, Bool.false_and]
def samePB (a b : List D) : Bool := a.map pairI == b.map pairI
/-! ### A bit of any number -/
theorem and_one (x : Int) : (andI .i64 x 1 == 1) = inS x 0 := by
 have hb : ∀ i, inS (andI .i64 x 1) i = (inS x i && decide (i = 0)) := by
  intro i
  rw [inS_and]
  congr 1
  unfold inS
  rw [show BitVec.ofInt 64 1 = 1#64 from rfl, BitVec.getLsbD_one]
  by_cases hi : i = 0 <;> simp [hi]
 cases h : inS x 0 with
 | true =>
  rw [beq_iff_eq]
  refine set_ext (wrap_inR _) (by decide) fun i => ?_
  rw [hb]
  by_cases hi : i = 0
  ·subst hi; rw [h]; decide
  ·have : inS 1 i = false := by
    unfold inS
    rw [show BitVec.ofInt 64 1 = 1#64 from rfl, BitVec.getLsbD_one]
    simp [hi]
   rw [this, decide_eq_false hi, Bool.and_false]
 | false =>
  rw [beq_eq_false_iff_ne]
  intro hh
  have := hb 0
  rw [hh, h] at this
  revert this
  decide
theorem inS_div (s : Int) (i : Nat) (hi : i < 64) : inS s i = decide (s / 2 ^ i % 2 = 1) := by
 unfold inS
 rw [BitVec.getLsbD, BitVec.toNat_ofInt, Nat.testBit_eq_decide_div_mod_eq]
 rw [Bool.eq_iff_iff, decide_eq_true_eq, decide_eq_true_eq]
 have h64 : (2 : Int) ^ 64 = 2 ^ i * 2 ^ (64 - i) := by rw [<- Int.pow_add]; congr 1; omega
 have hp : (0 : Int) < 2 ^ i := Int.pow_pos (by omega)
 have key : (s % 2 ^ 64) / 2 ^ i % 2 = s / 2 ^ i % 2 := by
  have e1 : s = s % 2 ^ 64 + 2 ^ 64 * (s / 2 ^ 64) := (Int.emod_add_mul_ediv s (2 ^ 64)).symm
  have e2 : s / 2 ^ i = (s % 2 ^ 64) / 2 ^ i + 2 ^ (64 - i) * (s / 2 ^ 64) := by
   conv => lhs; rw [e1]
   rw [h64, Int.mul_assoc, Int.add_mul_ediv_left _ _ (by omega)]
  rw [e2]
  have e3 : (2 : Int) ^ (64 - i) = 2 * 2 ^ (63 - i) := by
   rw [show 64 - i = (63 - i) + 1 by omega, Int.pow_succ, Int.mul_comm]
  rw [e3, Int.mul_assoc, Int.add_mul_emod_self_left]
 rw [<- key]
 have h0 : 0 <= s % 2 ^ 64 := Int.emod_nonneg _ (by decide)
 have hn : (((s % ((2 ^ 64 : Nat) : Int)).toNat : Nat) : Int) = s % 2 ^ 64 := Int.toNat_of_nonneg h0
 generalize (s % ((2 ^ 64 : Nat) : Int)).toNat = m at hn ⊢
 rw [<- hn]
 have hc : ((m / 2 ^ i % 2 : Nat) : Int) = (m : Int) / 2 ^ i % 2 := by
  rw [Int.natCast_emod, Int.natCast_ediv, Int.natCast_pow]
  rfl
 omega
theorem half_eq : ∀ (n : Nat) (s : Int), halfN n s = s / 2 ^ n
 | 0, s => by simp [halfN]
 | n + 1, s => by
  unfold halfN
  rw [half_eq n, show (2 : Int) ^ min (1 : Int).toNat (IntKind.bits .i64) = 2 from rfl, Int.fdiv_eq_ediv_of_nonneg _ (by decide), Int.ediv_ediv_of_nonneg (by decide), Int.pow_succ, Int.mul_comm]
theorem bit_any {s o : Int} (h : 0 <= o /\ o < 64) : bitB s o = inS s o.toNat := by
 unfold bitB
 rw [and_one, half_eq, inS_div _ 0 (by decide), inS_div s o.toNat (by omega)]
 simp
/-! ### Numbers the other way round -/
def revL (l : List D) (k : Nat) : List D := ((l.take k).reverse).map fun d => litI (intD d)
theorem revL_step {l : List D} {k : Nat} (h : k < l.length) : revL l (k + 1) = [litI (intD (l.getD k .nil))] ++ revL l k := by
 unfold revL
 rw [List.take_succ_eq_append_getElem h, List.reverse_append, List.map_append, l_get h]
 rfl
theorem prodN_map (l : List D) : prodN (l.map fun d => litI (intD d)) = prodN l := by
 induction l with
 | nil => rfl
 | cons x l ih => rw [List.map_cons, prodN, prodN, ih]; rfl
theorem prodN_rev (l : List D) : prodN (revL l l.length) = prodN l := by
 unfold revL
 rw [prodN_map, List.take_of_length_le (Nat.le_refl _)]
 exact prodN_perm (List.reverse_perm l)
theorem times_rev (l : List D) : timesL 1 (revL l l.length) = timesL 1 l := by rw [times_eq, times_eq, prodN_rev]
theorem times_two (l k : List D) : timesL 1 [litI (timesL 1 l), litI (timesL 1 k)] = timesL 1 (l ++ k) := by
 rw [times_eq, times_eq, times_eq, times_eq, prodN_lit, Int.toNat_natCast, Int.toNat_natCast, capN_mul, capN_mul', prodN_append]
theorem times_nonneg (l : List D) : 0 <= timesL 1 l /\ timesL 1 l <= 1099511627776 := by
 have := capN_le (prodN l)
 rw [times_eq]
 omega
theorem times_more {l k : List D} (h : 1 <= timesL 1 k) : timesL 1 l <= timesL 1 (l ++ k) := by
 rw [times_eq] at h
 rw [times_eq, times_eq, prodN_append]
 have hk : 1 <= prodN k := by
  rcases Nat.eq_zero_or_pos (prodN k) with h0 | h0
  ·rw [h0] at h; exact absurd h (by decide)
  ·exact h0
 have := capN_mono (Nat.le_mul_of_pos_right (prodN l) hk)
 omega

/-! ### Two sets -/
theorem rowsI_may {c q : D} (h : mayQ c q = true) (s : Int) : rowsI c q s = ((rowsN c q s : Nat) : Int) := by unfold rowsI; rw [h]; rfl
theorem rowsI_in {c q : D} (h : mayQ c q = true) (s : Int) : 1 <= rowsI c q s /\ rowsI c q s <= 1099511627776 := by
 rw [rowsI_may h]
 have h1 := rowsN_pos c q s
 have h2 := rowsN_le c q s
 omega
theorem range_lt {c q : D} (h : occMayB c q = true) : ∀ o ∈ List.range (qOcc q).length, o < 4 := by
 intro o ho
 rw [List.mem_range] at ho
 have := occ_len9 h
 omega
theorem own_ex {c q : D} (h : mayQ c q = true) : ∀ e ∈ qP q, ∃ i, inS (ofE e) i = true := by
 intro e he
 exact of_ex ((mayQ_parts h).2.2.2 e he).1
theorem rows_two {c q : D} {a b : Int} (h : mayQ c q = true) (hd : andI .i64 a b = 0) : rowsI c q (orI .i64 a b) <= timesL 1 [litI (rowsI c q a + 1), litI (rowsI c q b + 1)] := by
 obtain ⟨h1, h2, _, _⟩ := mayQ_parts h
 have ha := bases_pos (s := a) h1 h2
 have hb := bases_pos (s := b) h1 h2
 have hp : prodN (basesL c q (orI .i64 a b)) = prodN (basesL c q a) * prodN (basesL c q b) := bases_two hd _ (range_lt h2)
 have hx : capN (prodN (basesL c q a)) / divN a (qP q) <= rowsN c q a := by unfold rowsN; omega
 have hy : capN (prodN (basesL c q b)) / divN b (qP q) <= rowsN c q b := by unfold rowsN; omega
 have hk := parts_less ha hb (divN_pos a (qP q)) (divN_pos b (qP q)) (divN_two hd (qP q) (own_ex h)) hx hy
 rw [<- hp] at hk
 rw [rowsI_may h, rowsI_may h, rowsI_may h, times_eq, prodN_lit]
 have e1 : (((rowsN c q a : Nat) : Int) + 1).toNat = rowsN c q a + 1 := by omega
 have e2 : (((rowsN c q b : Nat) : Int) + 1).toNat = rowsN c q b + 1 := by omega
 rw [e1, e2]
 have h4 := rowsN_le c q (orI .i64 a b)
 have h5 : rowsN c q (orI .i64 a b) <= (rowsN c q a + 1) * (rowsN c q b + 1) := by
  have : rowsN c q (orI .i64 a b) = max 1 (capN (prodN (basesL c q (orI .i64 a b))) / divN (orI .i64 a b) (qP q)) := rfl
  have hm : 1 <= (rowsN c q a + 1) * (rowsN c q b + 1) := Nat.mul_pos (by omega) (by omega)
  omega
 have h6 : rowsN c q (orI .i64 a b) <= capN ((rowsN c q a + 1) * (rowsN c q b + 1)) := by unfold capN; omega
 omega
theorem div_none {q : D} {s : Int} (h : ownL q s = []) : divN s (qP q) = 1 := divN_none s _ (own_nil h)
theorem rowsN_none {c q : D} {s : Int} (h : mayQ c q = true) (hd : divN s (qP q) = 1) : rowsN c q s = capN (prodN (basesL c q s)) := by
 obtain ⟨h1, h2, _, _⟩ := mayQ_parts h
 have := capN_pos (bases_pos (s := s) h1 h2)
 unfold rowsN
 rw [hd, Nat.div_one]
 omega
theorem rows_free {c q : D} {a b : Int} (h : mayQ c q = true) (hd : andI .i64 a b = 0) (ho : ownL q (orI .i64 a b) = []) : rowsI c q (orI .i64 a b) = timesL 1 [litI (rowsI c q a), litI (rowsI c q b)] := by
 obtain ⟨h1, h2, _, _⟩ := mayQ_parts h
 have hn := own_nil ho
 have hna : divN a (qP q) = 1 := divN_none a _ fun e he => by
  cases hx : hasS a (ofE e) with
  | false => rfl
  | true => have := hn e he; rw [has_orl hx] at this; cases this
 have hnb : divN b (qP q) = 1 := divN_none b _ fun e he => by
  cases hx : hasS b (ofE e) with
  | false => rfl
  | true => have := hn e he; rw [has_orr hx] at this; cases this
 have hp : prodN (basesL c q (orI .i64 a b)) = prodN (basesL c q a) * prodN (basesL c q b) := bases_two hd _ (range_lt h2)
 rw [rowsI_may h, rowsI_may h, rowsI_may h, rowsN_none h (div_none ho), rowsN_none h hna, rowsN_none h hnb, times_eq, prodN_lit, Int.toNat_natCast, Int.toNat_natCast, capN_mul, capN_mul', hp]

/-! ### Groups; one expression more -/
theorem groups_in {c q : D} (h : mayQ c q = true) : 1 <= groupsI c q /\ groupsI c q <= rowsI c q 15 := by
 have h1 := rowsN_pos c q 15
 have h2 : rowsN c q 15 / 5 <= rowsN c q 15 := Nat.div_le_self _ _
 rw [rowsI_may h]
 unfold groupsI
 rw [h, cond_true]
 omega
theorem rows_less {c o p s u b r e : D} {k : Int} (h1 : mayQ c (.agg [.slice (elemsD o) [], .slice (elemsD p ++ [e]) [], b, s, u, r]) = true) (h2 : mayQ c (.agg [.slice (elemsD o) [], .slice (elemsD p) [], b, s, u, r]) = true) :
  rowsI c (.agg [.slice (elemsD o) [], .slice (elemsD p ++ [e]) [], b, s, u, r]) k <= rowsI c (.agg [.slice (elemsD o) [], .slice (elemsD p) [], b, s, u, r]) k := by
 rw [rowsI_may h1, rowsI_may h2]
 have hb : basesL c (.agg [.slice (elemsD o) [], .slice (elemsD p ++ [e]) [], b, s, u, r]) k = basesL c (.agg [.slice (elemsD o) [], .slice (elemsD p) [], b, s, u, r]) k := rfl
 have hd : divN k (elemsD p) <= divN k (elemsD p ++ [e]) := by
  rw [divN_append]
  exact Nat.le_mul_of_pos_right _ (divN_pos k [e])
 have : capN (prodN (basesL c (.agg [.slice (elemsD o) [], .slice (elemsD p) [], b, s, u, r]) k)) / divN k (elemsD p ++ [e]) <= capN (prodN (basesL c (.agg [.slice (elemsD o) [], .slice (elemsD p) [], b, s, u, r]) k)) / divN k (elemsD p) :=
  Nat.div_le_div_left hd (divN_pos k _)
 unfold rowsN
 rw [hb]
 have e1 : qP (.agg [.slice (elemsD o) [], .slice (elemsD p ++ [e]) [], b, s, u, r]) = elemsD p ++ [e] := rfl
 have e2 : qP (.agg [.slice (elemsD o) [], .slice (elemsD p) [], b, s, u, r]) = elemsD p := rfl
 rw [e1, e2]
 omega

/-! ### A set's bit, asked by halves -/
theorem bit_mem {s : Int} {o : Nat} (ho : o < 4) : bitB s (o : Int) = memB s (o : Int) := by
 have hf : ∀ n x : Int, 0 < n -> Int.fdiv x n = x / n := fun n x hn => Int.fdiv_eq_ediv_of_nonneg _ (by omega)
 unfold bitB memB
 rw [Int.toNat_natCast]
 have h4 : o = 0 \/ o = 1 \/ o = 2 \/ o = 3 := by omega
 rcases h4 with rfl | rfl | rfl | rfl
 ·show (andI .i64 s 1 == 1) = (andI .i64 (Int.fdiv s 1) 1 == 1)
  rw [hf 1 s (by omega), Int.ediv_one]
 ·rfl
 ·show (andI .i64 (Int.fdiv (Int.fdiv s 2) 2) 1 == 1) = (andI .i64 (Int.fdiv s 4) 1 == 1)
  rw [hf 2 _ (by omega), hf 2 s (by omega), hf 4 s (by omega), show s / 2 / 2 = s / 4 by omega]
 ·show (andI .i64 (Int.fdiv (Int.fdiv (Int.fdiv s 2) 2) 2) 1 == 1) = (andI .i64 (Int.fdiv s 8) 1 == 1)
  rw [hf 2 _ (by omega), hf 2 _ (by omega), hf 2 s (by omega), hf 8 s (by omega), show s / 2 / 2 / 2 = s / 8 by omega]
end Go.Ev
