/- Trees of functions, and lemmas. Nothing here is trusted. -/
import Derived.Test.YtanjicjomcocmaaDoorZ23
namespace Go.Ev
set_option linter.unusedVariables false
set_option linter.unusedSimpArgs false
/-! ### Numbers the other way round -/
def revL (l : List D) (k : Nat) : List D := ((l.take k).reverse).map fun d => litI (intD d)
theorem revL_step {l : List D} {k : Nat} (h : k < l.length) : revL l (k + 1) = [litI (intD (l.getD k .nil))] ++ revL l k := by
 unfold revL
 rw [List.take_succ_eq_append_getElem h, List.reverse_append, List.map_append, l_get h]
 rfl
theorem prodN_map (l : List D) : prodN (l.map fun d => litI (intD d)) = prodN l := by
 induction l with
 | nil => rfl
 | cons x l ih => rw [List.map_cons, prodN, prodN, ih]; rfl
theorem prodN_rev (l : List D) : prodN (revL l l.length) = prodN l := by
 unfold revL
 rw [prodN_map, List.take_of_length_le (Nat.le_refl _)]
 exact prodN_perm (List.reverse_perm l)
theorem times_rev (l : List D) : timesL 1 (revL l l.length) = timesL 1 l := by rw [times_eq, times_eq, prodN_rev]
theorem times_two (l k : List D) : timesL 1 [litI (timesL 1 l), litI (timesL 1 k)] = timesL 1 (l ++ k) := by
 rw [times_eq, times_eq, times_eq, times_eq, prodN_lit, Int.toNat_natCast, Int.toNat_natCast, capN_mul, capN_mul', prodN_append]
theorem times_nonneg (l : List D) : 0 <= timesL 1 l /\ timesL 1 l <= 1099511627776 := by
 have := capN_le (prodN l)
 rw [times_eq]
 omega
theorem times_more {l k : List D} (h : 1 <= timesL 1 k) : timesL 1 l <= timesL 1 (l ++ k) := by
 rw [times_eq] at h
 rw [times_eq, times_eq, prodN_append]
 have hk : 1 <= prodN k := by
  rcases Nat.eq_zero_or_pos (prodN k) with h0 | h0
  ·rw [h0] at h; exact absurd h (by decide)
  ·exact h0
 have := capN_mono (Nat.le_mul_of_pos_right (prodN l) hk)
 omega

/-! ### Two sets -/
theorem rowsI_may {c q : D} (h : mayQ c q = true) (s : Int) : rowsI c q s = ((rowsN c q s : Nat) : Int) := by unfold rowsI; rw [h]; rfl
theorem rowsI_in {c q : D} (h : mayQ c q = true) (s : Int) : 1 <= rowsI c q s /\ rowsI c q s <= 1099511627776 := by
 rw [rowsI_may h]
 have h1 := rowsN_pos c q s
 have h2 := rowsN_le c q s
 omega
theorem range_lt {c q : D} (h : occMayB c q = true) : ∀ o ∈ List.range (qOcc q).length, o < 4 := by
 intro o ho
 rw [List.mem_range] at ho
 have := occ_len9 h
 omega
theorem own_ex {c q : D} (h : mayQ c q = true) : ∀ e ∈ qP q, ∃ i, inS (ofE e) i = true := by
 intro e he
 exact of_ex ((mayQ_parts h).2.2.2 e he).1
theorem rows_two {c q : D} {a b : Int} (h : mayQ c q = true) (hd : andI .i64 a b = 0) : rowsI c q (orI .i64 a b) <= timesL 1 [litI (rowsI c q a + 1), litI (rowsI c q b + 1)] := by
 obtain ⟨h1, h2, _, _⟩ := mayQ_parts h
 have ha := bases_pos (s := a) h1 h2
 have hb := bases_pos (s := b) h1 h2
 have hp : prodN (basesL c q (orI .i64 a b)) = prodN (basesL c q a) * prodN (basesL c q b) := bases_two hd _ (range_lt h2)
 have hx : capN (prodN (basesL c q a)) / divN a (qP q) <= rowsN c q a := by unfold rowsN; omega
 have hy : capN (prodN (basesL c q b)) / divN b (qP q) <= rowsN c q b := by unfold rowsN; omega
 have hk := parts_less ha hb (divN_pos a (qP q)) (divN_pos b (qP q)) (divN_two hd (qP q) (own_ex h)) hx hy
 rw [<- hp] at hk
 rw [rowsI_may h, rowsI_may h, rowsI_may h, times_eq, prodN_lit]
 have e1 : (((rowsN c q a : Nat) : Int) + 1).toNat = rowsN c q a + 1 := by omega
 have e2 : (((rowsN c q b : Nat) : Int) + 1).toNat = rowsN c q b + 1 := by omega
 rw [e1, e2]
 have h4 := rowsN_le c q (orI .i64 a b)
 have h5 : rowsN c q (orI .i64 a b) <= (rowsN c q a + 1) * (rowsN c q b + 1) := by
  have : rowsN c q (orI .i64 a b) = max 1 (capN (prodN (basesL c q (orI .i64 a b))) / divN (orI .i64 a b) (qP q)) := rfl
  have hm : 1 <= (rowsN c q a + 1) * (rowsN c q b + 1) := Nat.mul_pos (by omega) (by omega)
  omega
 have h6 : rowsN c q (orI .i64 a b) <= capN ((rowsN c q a + 1) * (rowsN c q b + 1)) := by unfold capN; omega
 omega
theorem div_none {q : D} {s : Int} (h : ownL q s = []) : divN s (qP q) = 1 := divN_none s _ (own_nil h)
theorem rowsN_none {c q : D} {s : Int} (h : mayQ c q = true) (hd : divN s (qP q) = 1) : rowsN c q s = capN (prodN (basesL c q s)) := by
 obtain ⟨h1, h2, _, _⟩ := mayQ_parts h
 have := capN_pos (bases_pos (s := s) h1 h2)
 unfold rowsN
 rw [hd, Nat.div_one]
 omega
theorem rows_free {c q : D} {a b : Int} (h : mayQ c q = true) (hd : andI .i64 a b = 0) (ho : ownL q (orI .i64 a b) = []) : rowsI c q (orI .i64 a b) = timesL 1 [litI (rowsI c q a), litI (rowsI c q b)] := by
 obtain ⟨h1, h2, _, _⟩ := mayQ_parts h
 have hn := own_nil ho
 have hna : divN a (qP q) = 1 := divN_none a _ fun e he => by
  cases hx : hasS a (ofE e) with
  | false => rfl
  | true => have := hn e he; rw [has_orl hx] at this; cases this
 have hnb : divN b (qP q) = 1 := divN_none b _ fun e he => by
  cases hx : hasS b (ofE e) with
  | false => rfl
  | true => have := hn e he; rw [has_orr hx] at this; cases this
 have hp : prodN (basesL c q (orI .i64 a b)) = prodN (basesL c q a) * prodN (basesL c q b) := bases_two hd _ (range_lt h2)
 rw [rowsI_may h, rowsI_may h, rowsI_may h, rowsN_none h (div_none ho), rowsN_none h hna, rowsN_none h hnb, times_eq, prodN_lit, Int.toNat_natCast, Int.toNat_natCast, capN_mul, capN_mul', hp]

/-! ### Groups; one expression more -/
theorem groups_in {c q : D} (h : mayQ c q = true) : 1 <= groupsI c q /\ groupsI c q <= rowsI c q 15 := by
 have h1 := rowsN_pos c q 15
 have h2 : rowsN c q 15 / 5 <= rowsN c q 15 := Nat.div_le_self _ _
 rw [rowsI_may h]
 unfold groupsI
 rw [h, cond_true]
 omega
theorem rows_less {c q q' e : D} {k : Int} (ho : qOcc q' = qOcc q) (hp : qP q' = qP q ++ [e]) (h1 : mayQ c q' = true) (h2 : mayQ c q = true) : rowsI c q' k <= rowsI c q k := by
 rw [rowsI_may h1, rowsI_may h2]
 have hr : ∀ o, rowsC c q' o = rowsC c q o := fun o => by unfold rowsC; rw [ho]
 have hb : basesL c q' k = basesL c q k := by
  unfold basesL
  rw [ho]
  exact flat_congr _ fun o _ => congrArg (fun z => bif memB k (o : Int) then [litI z] else []) (hr o)
 have hd : divN k (qP q) <= divN k (qP q ++ [e]) := by
  rw [divN_append]
  exact Nat.le_mul_of_pos_right _ (divN_pos k [e])
 have : capN (prodN (basesL c q k)) / divN k (qP q ++ [e]) <= capN (prodN (basesL c q k)) / divN k (qP q) := Nat.div_le_div_left hd (divN_pos k _)
 unfold rowsN
 rw [hb, hp]
 generalize capN (prodN (basesL c q k)) / divN k (qP q ++ [e]) = a at this
 generalize capN (prodN (basesL c q k)) / divN k (qP q) = b at this
 omega
theorem may_fewer {c : D} {o p p' s u : List D} {b r : D} (hl : p'.length <= p.length) (hm : ∀ e ∈ p', e ∈ p) (h : mayQ c (.agg [.slice o [], .slice p [], b, .slice s [], .slice u [], r]) = true) : mayQ c (.agg [.slice o [], .slice p' [], b, .slice s [], .slice u [], r]) = true := by
 unfold mayQ at h ⊢
 simp only [Bool.and_eq_true] at h ⊢
 obtain ⟨h1, h2, h3, h4⟩ := h
 refine ⟨h1, h2, ?_, h4⟩
 unfold exprMayB at h3 ⊢
 rw [Bool.and_eq_true, decide_eq_true_eq, List.all_eq_true] at h3 ⊢
 have h31 : p.length <= 6 := h3.1
 exact ⟨show p'.length <= 6 by omega, fun e he => h3.2 e (hm e he)⟩

/-! ### A set's bit, asked by halves -/
theorem bit_mem {s : Int} {o : Nat} (ho : o < 4) : bitB s (o : Int) = memB s (o : Int) := by
 have hf : ∀ n x : Int, 0 < n -> Int.fdiv x n = x / n := fun n x hn => Int.fdiv_eq_ediv_of_nonneg _ (by omega)
 unfold bitB memB
 rw [Int.toNat_natCast]
 have h4 : o = 0 \/ o = 1 \/ o = 2 \/ o = 3 := by omega
 rcases h4 with rfl | rfl | rfl | rfl
 ·show (andI .i64 s 1 == 1) = (andI .i64 (Int.fdiv s 1) 1 == 1)
  rw [hf 1 s (by omega), Int.ediv_one]
 ·rfl
 ·show (andI .i64 (Int.fdiv (Int.fdiv s 2) 2) 1 == 1) = (andI .i64 (Int.fdiv s 4) 1 == 1)
  rw [hf 2 _ (by omega), hf 2 s (by omega), hf 4 s (by omega), show s / 2 / 2 = s / 4 by omega]
 ·show (andI .i64 (Int.fdiv (Int.fdiv (Int.fdiv s 2) 2) 2) 1 == 1) = (andI .i64 (Int.fdiv s 8) 1 == 1)
  rw [hf 2 _ (by omega), hf 2 _ (by omega), hf 2 s (by omega), hf 8 s (by omega), show s / 2 / 2 / 2 = s / 8 by omega]
/-! ### A catalog with one table of more rows -/
def greatD (ts : List D) (i : Nat) (r : Int) : D := .agg [.slice (ts.set i (setD (ts.getD i .nil) 1 (litI r))) []]
def plainD (ts : List D) : D := .agg [.slice ts []]
theorem great_get {ts : List D} {i k : Nat} {r : Int} : (tabs (greatD ts i r)).getD k .nil = if k = i /\ i < ts.length then setD (ts.getD i .nil) 1 (litI r) else ts.getD k .nil := by
 show (ts.set i (setD (ts.getD i .nil) 1 (litI r))).getD k .nil = _
 rw [List.getD_eq_getElem?_getD, List.getElem?_set]
 by_cases h : i = k
 ·subst h
  by_cases hl : i < ts.length
  ·rw [if_pos rfl, if_pos hl, if_pos ⟨rfl, hl⟩]; rfl
  ·rw [if_pos rfl, if_neg hl, if_neg (fun hh => hl hh.2), List.getD_eq_getElem?_getD, List.getElem?_eq_none (by omega)]
 ·rw [if_neg h, if_neg (fun hh => h hh.1.symm), List.getD_eq_getElem?_getD]
theorem great_len {ts : List D} {i : Nat} {r : Int} : (tabs (greatD ts i r)).length = ts.length := List.length_set
/-- A table's form. -/
def isDef (t : D) : Prop := ∃ c r, t = defD c r
theorem great_cols {ts : List D} {i : Nat} {r : Int} {q : D} {o : Int} (hf : ∀ t ∈ ts, isDef t) : tabC (greatD ts i r) q o = tabC (plainD ts) q o := by
 unfold tabC
 rw [great_get]
 show _ = defC (ts.getD _ .nil)
 split
 ·rename_i h
  obtain ⟨h1, h2⟩ := h
  rw [h1, l_get h2]
  obtain ⟨c, r0, ht⟩ := hf _ (List.getElem_mem h2)
  rw [ht]
  rfl
 ·rfl
theorem great_rows {ts : List D} {i : Nat} {r : Int} {q : D} {o : Int} (hf : ∀ t ∈ ts, isDef t) (hr : defR (ts.getD i .nil) <= r) : rowsC (plainD ts) q o <= rowsC (greatD ts i r) q o := by
 unfold rowsC
 rw [great_get]
 show intD (fieldD (ts.getD _ .nil) 1) <= _
 split
 ·rename_i h
  obtain ⟨h1, h2⟩ := h
  rw [h1]
  refine Int.le_trans hr ?_
  rw [l_get h2]
  obtain ⟨c, r0, ht⟩ := hf _ (List.getElem_mem h2)
  rw [ht]
  exact Int.le_refl _
 ·exact Int.le_refl _
theorem great_cat {ts : List D} {i : Nat} {r : Int} (hf : ∀ t ∈ ts, isDef t) (h : mayCat (plainD ts) = true) (h1 : 1 <= r) (h2 : r <= 1000000) : mayCat (greatD ts i r) = true := by
 rw [mayCat_iff] at h ⊢
 obtain ⟨a1, a2, a3⟩ := h
 rw [great_len]
 refine ⟨a1, a2, fun t ht => ?_⟩
 have ht : t ∈ ts.set i (setD (ts.getD i .nil) 1 (litI r)) := ht
 by_cases hl : i < ts.length
 ·rcases List.mem_or_eq_of_mem_set ht with ht | ht
  ·exact a3 t ht
  ·rw [l_get hl] at ht
   obtain ⟨c, r0, hd⟩ := hf _ (List.getElem_mem hl)
   have hm := mayDef_iff.1 (a3 _ (List.getElem_mem hl))
   rw [hd] at ht hm
   rw [ht, mayDef_iff]
   exact ⟨hm.1, hm.2.1, h1, h2⟩
 ·rw [List.set_eq_of_length_le (by omega)] at ht
  exact a3 t ht
theorem mayQ_like {c c' q : D} (hC : ∀ o, tabC c' q o = tabC c q o) (hl : (tabs c').length = (tabs c).length) (hm : mayCat c' = true) (h : mayQ c q = true) : mayQ c' q = true := by
 have hcol : ∀ x, isColB c' q x = isColB c q x := fun x => by unfold isColB; rw [hC]
 have hare : ∀ l, areColB c' q l = areColB c q l := fun l => by
  unfold areColB
  exact congrArg (fun f => l.all f) (funext fun x => hcol (intD x))
 unfold mayQ at h ⊢
 simp only [Bool.and_eq_true] at h ⊢
 obtain ⟨h1, h2, h3, h4⟩ := h
 refine ⟨hm, ?_, ?_, ?_⟩
 ·unfold occMayB at h2 ⊢
  rw [hl]
  exact h2
 ·unfold exprMayB at h3 ⊢
  rw [show exprB c' q = exprB c q from funext fun e => by unfold exprB; rw [hare]]
  exact h3
 ·unfold endB at h4 ⊢
  rw [show toldB c' q = toldB c q by unfold toldB; rw [hare], show groupsB c' q = groupsB c q by unfold groupsB; rw [hcol, hare]]
  exact h4
theorem bases_more {c c' q : D} {s : Int} (hr : ∀ o, rowsC c q o <= rowsC c' q o) (l : List Nat) : prodN (basesF c q s l) <= prodN (basesF c' q s l) := by
 induction l with
 | nil => exact Nat.le_refl _
 | cons o l ih =>
  rw [bases_cons, bases_cons]
  refine Nat.mul_le_mul ?_ ih
  cases memB s (o : Int)
  ·exact Nat.le_refl _
  ·have := hr (o : Int)
   show (rowsC c q (o : Int)).toNat <= (rowsC c' q (o : Int)).toNat
   omega
theorem rowsN_more {c c' q : D} (hr : ∀ o, rowsC c q o <= rowsC c' q o) (s : Int) : rowsN c q s <= rowsN c' q s := by
 have h1 : capN (prodN (basesL c q s)) <= capN (prodN (basesL c' q s)) := capN_mono (bases_more hr _)
 have h2 : capN (prodN (basesL c q s)) / divN s (qP q) <= capN (prodN (basesL c' q s)) / divN s (qP q) := Nat.div_le_div_right h1
 unfold rowsN
 generalize capN (prodN (basesL c q s)) / divN s (qP q) = a at h2
 generalize capN (prodN (basesL c' q s)) / divN s (qP q) = b at h2
 omega
theorem rowsI_more {c c' q : D} (hr : ∀ o, rowsC c q o <= rowsC c' q o) (h1 : mayQ c q = true) (h2 : mayQ c' q = true) (s : Int) : rowsI c q s <= rowsI c' q s := by
 rw [rowsI_may h1, rowsI_may h2]
 have := rowsN_more hr s
 omega
theorem groupsI_more {c c' q : D} (hr : ∀ o, rowsC c q o <= rowsC c' q o) (h1 : mayQ c q = true) (h2 : mayQ c' q = true) : groupsI c q <= groupsI c' q := by
 have h3 := rowsN_more hr 15
 have h4 : rowsN c q 15 / 5 <= rowsN c' q 15 / 5 := Nat.div_le_div_right h3
 unfold groupsI
 rw [h1, h2, cond_true, cond_true]
 omega

/-! ### One occurrence alone -/
def bitI (o : Nat) : Int := ((2 ^ o : Nat) : Int)
theorem bit_at : ∀ (o k : Fin 4), memB (bitI o.val) ((k.val : Nat) : Int) = decide (k.val = o.val) := by decide
theorem bases_alone {c q : D} {o : Nat} (ho : o < 4) : ∀ l : List Nat, (∀ k ∈ l, k < 4) -> l.Nodup -> prodN (basesF c q (bitI o) l) = if o ∈ l then (rowsC c q (o : Int)).toNat else 1
 | [], _, _ => rfl
 | k :: l, hl, hn => by
  have hk := hl k (List.mem_cons_self ..)
  rw [List.nodup_cons] at hn
  rw [bases_cons, bases_alone ho l (fun x hx => hl x (List.mem_cons_of_mem _ hx)) hn.2]
  have hb := bit_at ⟨o, ho⟩ ⟨k, hk⟩
  have hb : memB (bitI o) (k : Int) = decide (k = o) := hb
  rw [hb]
  by_cases hko : k = o
  ·subst hko
   rw [decide_eq_true rfl, if_neg hn.1, if_pos (List.mem_cons_self ..), cond_true, Nat.mul_one]
  ·rw [decide_eq_false hko, cond_false, Nat.one_mul]
   by_cases hm : o ∈ l
   ·rw [if_pos hm, if_pos (List.mem_cons_of_mem _ hm)]
   ·rw [if_neg hm, if_neg (fun hh => by rcases List.mem_cons.1 hh with hh | hh; exact hko hh.symm; exact hm hh)]
theorem rows_alone {c q : D} {o : Nat} (h : mayQ c q = true) (ho : o < (qOcc q).length) (hown : ownL q (bitI o) = []) : rowsI c q (bitI o) = baseI c q (o : Int) := by
 obtain ⟨h1, h2, _, _⟩ := mayQ_parts h
 have h4 := occ_len9 h2
 have hr := rowsC_in h1 h2 ho
 have hb : prodN (basesL c q (bitI o)) = (rowsC c q (o : Int)).toNat := by
  unfold basesL
  rw [bases_alone (by omega) _ (range_lt h2) List.nodup_range, if_pos (List.mem_range.2 ho)]
 rw [rowsI_may h, rowsN_none h (div_none hown), hb, capN_small (by omega)]
 unfold baseI
 rw [h, l_idx ho]
 show (((rowsC c q (o : Int)).toNat : Nat) : Int) = rowsC c q (o : Int)
 omega
/-! ### Sets of the occurrences that there are -/
theorem mod_in : ∀ (s : Fin 16) (n : Fin 5) (k : Fin 4), inS (Int.tmod ((s.val : Nat) : Int) ((2 ^ n.val : Nat) : Int)) k.val = (inS ((s.val : Nat) : Int) k.val && decide (k.val < n.val)) := by decide
theorem mod_inS {s : Int} {n k : Nat} (h : 0 <= s /\ s <= 15) (hn : n <= 4) (hk : k < 4) : inS (Int.tmod s (bitI n)) k = (inS s k && decide (k < n)) := by
 have := mod_in ⟨s.toNat, by omega⟩ ⟨n, by omega⟩ ⟨k, hk⟩
 have e1 : ((s.toNat : Nat) : Int) = s := by omega
 simp only [e1] at this
 exact this
theorem inS_high {e : D} {i : Nat} (h : inS (ofE e) i = true) : i < 4 := by
 rw [inS_of, List.any_eq_true] at h
 obtain ⟨c, _, hc⟩ := h
 have hc := of_decide_eq_true hc
 have := split_lt (intD c)
 omega
theorem rows_mod {c q : D} {s : Int} (h : mayQ c q = true) (hs : 0 <= s /\ s <= 15) : rowsI c q (Int.tmod s (bitI (qOcc q).length)) = rowsI c q s := by
 obtain ⟨h1, h2, _, h4⟩ := mayQ_parts h
 have ho := occ_len9 h2
 have hb : basesL c q (Int.tmod s (bitI (qOcc q).length)) = basesL c q s := by
  unfold basesL
  refine bases_congr _ fun k hk => ?_
  rw [List.mem_range] at hk
  rw [memB_in (show k < 4 by omega), memB_in (show k < 4 by omega), mod_inS hs ho.2 (by omega), decide_eq_true hk, Bool.and_true]
 have hd : divN (Int.tmod s (bitI (qOcc q).length)) (qP q) = divN s (qP q) := by
  refine divN_congr _ fun e he => ?_
  rw [Bool.eq_iff_iff, hasS_iff, hasS_iff]
  refine forall_congr' fun i => ?_
  constructor
  ·intro hh hi
   have := hh hi
   have hi4 := inS_high hi
   rw [mod_inS hs ho.2 hi4, Bool.and_eq_true] at this
   exact this.1
  ·intro hh hi
   have hi4 := inS_high hi
   have hlt : i < (qOcc q).length := by
    have hcols := (h4 e he).2
    rw [inS_of, List.any_eq_true] at hi
    obtain ⟨c', hc, hci⟩ := hi
    have hci := of_decide_eq_true hci
    unfold areColB at hcols
    rw [List.all_eq_true] at hcols
    have := hcols c' hc
    unfold isColB at this
    simp only [Bool.and_eq_true, decide_eq_true_eq] at this
    have := this.2.1
    omega
   rw [mod_inS hs ho.2 hi4, hh hi, decide_eq_true hlt]
   rfl
 rw [rowsI_may h, rowsI_may h]
 unfold rowsN
 rw [hb, hd]
theorem rows_perm {c o s u b r : D} {p p' : List D} {k : Int} (hp : p'.Perm p) (h : mayQ c (.agg [.slice (elemsD o) [], .slice p [], b, .slice (elemsD s) [], .slice (elemsD u) [], r]) = true) :
  rowsI c (.agg [.slice (elemsD o) [], .slice p [], b, .slice (elemsD s) [], .slice (elemsD u) [], r]) k = rowsI c (.agg [.slice (elemsD o) [], .slice p' [], b, .slice (elemsD s) [], .slice (elemsD u) [], r]) k := by
 have h' := may_fewer (p' := p') (Nat.le_of_eq hp.length_eq) (fun e he => hp.mem_iff.1 he) h
 rw [rowsI_may h, rowsI_may h']
 have hd : divN k p = divN k p' := divN_perm k hp.symm
 have e1 : rowsN c (.agg [.slice (elemsD o) [], .slice p [], b, .slice (elemsD s) [], .slice (elemsD u) [], r]) k = max 1 (capN (prodN (basesL c (.agg [.slice (elemsD o) [], .slice p [], b, .slice (elemsD s) [], .slice (elemsD u) [], r]) k)) / divN k p) := rfl
 have e2 : rowsN c (.agg [.slice (elemsD o) [], .slice p' [], b, .slice (elemsD s) [], .slice (elemsD u) [], r]) k = max 1 (capN (prodN (basesL c (.agg [.slice (elemsD o) [], .slice p [], b, .slice (elemsD s) [], .slice (elemsD u) [], r]) k)) / divN k p') := rfl
 rw [e1, e2, hd]
theorem bases_zero (c q : D) : ∀ l : List Nat, (∀ k ∈ l, k < 4) -> prodN (basesF c q 0 l) = 1
 | [], _ => rfl
 | k :: l, h => by
  rw [bases_cons, bases_zero c q l (fun x hx => h x (List.mem_cons_of_mem _ hx)), memB_in (h k (List.mem_cons_self ..)), inS_zero]
  rfl
theorem rows_zero {c q : D} (h : mayQ c q = true) : rowsI c q 0 = 1 := by
 obtain ⟨_, h2, _, _⟩ := mayQ_parts h
 have hb : prodN (basesL c q 0) = 1 := bases_zero c q _ (range_lt h2)
 have hd : divN 0 (qP q) = 1 := divN_none 0 _ fun e he => by
  obtain ⟨i, hi⟩ := own_ex h e he
  cases hx : hasS 0 (ofE e) with
  | false => rfl
  | true =>
   have := hasS_iff.1 hx i hi
   rw [inS_zero] at this
   cases this
 rw [rowsI_may h]
 unfold rowsN
 rw [hb, hd]
 rfl
end Go.Ev
