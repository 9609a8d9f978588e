/- Trees of functions, and lemmas. Nothing here is trusted. -/
import Derived.Test.YtdacippnonhahaaDoorZ20
namespace Go.Ev
set_option linter.unusedVariables false
set_option linter.unusedSimpArgs false
/-- A part of a text, and how long it is. -/
def partK : Nat -> List UInt8 -> D × Nat
 | 0, _ => (leafD 0, 0)
 | k + 1, s => bif s.length == 0 then (leafD 0, 0) else
  bif decide (48 <= (s.getD 0 0).toNat) && decide ((s.getD 0 0).toNat <= 51) then (leafD (((s.getD 0 0).toNat : Int) - 48), 1) else
  bif (s.getD 0 0).toNat != 40 then (leafD 0, 0) else
  bif (partK k (s.drop 1)).2 == 0 then (leafD 0, 0) else
  bif (partK k (s.drop (1 + (partK k (s.drop 1)).2))).2 == 0 then (leafD 0, 0) else
  bif decide (1 + (partK k (s.drop 1)).2 + (partK k (s.drop (1 + (partK k (s.drop 1)).2))).2 >= s.length) then (leafD 0, 0) else
  bif (s.getD (1 + (partK k (s.drop 1)).2 + (partK k (s.drop (1 + (partK k (s.drop 1)).2))).2) 0).toNat != 41 then (leafD 0, 0) else
  (nodeD [(partK k (s.drop 1)).1, (partK k (s.drop (1 + (partK k (s.drop 1)).2))).1], (partK k (s.drop 1)).2 + (partK k (s.drop (1 + (partK k (s.drop 1)).2))).2 + 2)
theorem partK_succ (k : Nat) (s : List UInt8) : partK (k + 1) s = bif s.length == 0 then (leafD 0, 0) else
  bif decide (48 <= (s.getD 0 0).toNat) && decide ((s.getD 0 0).toNat <= 51) then (leafD (((s.getD 0 0).toNat : Int) - 48), 1) else
  bif (s.getD 0 0).toNat != 40 then (leafD 0, 0) else
  bif (partK k (s.drop 1)).2 == 0 then (leafD 0, 0) else
  bif (partK k (s.drop (1 + (partK k (s.drop 1)).2))).2 == 0 then (leafD 0, 0) else
  bif decide (1 + (partK k (s.drop 1)).2 + (partK k (s.drop (1 + (partK k (s.drop 1)).2))).2 >= s.length) then (leafD 0, 0) else
  bif (s.getD (1 + (partK k (s.drop 1)).2 + (partK k (s.drop (1 + (partK k (s.drop 1)).2))).2) 0).toNat != 41 then (leafD 0, 0) else
  (nodeD [(partK k (s.drop 1)).1, (partK k (s.drop (1 + (partK k (s.drop 1)).2))).1], (partK k (s.drop 1)).2 + (partK k (s.drop (1 + (partK k (s.drop 1)).2))).2 + 2) := rfl
theorem partK_nil (k : Nat) : partK k [] = (leafD 0, 0) := by cases k <;> rfl
theorem partK_cons (k : Nat) (c : UInt8) (r : List UInt8) : partK (k + 1) (c :: r) =
  bif decide (48 <= c.toNat) && decide (c.toNat <= 51) then (leafD ((c.toNat : Int) - 48), 1) else
  bif c.toNat != 40 then (leafD 0, 0) else
  bif (partK k r).2 == 0 then (leafD 0, 0) else
  bif (partK k (r.drop (partK k r).2)).2 == 0 then (leafD 0, 0) else
  bif decide ((partK k r).2 + (partK k (r.drop (partK k r).2)).2 >= r.length) then (leafD 0, 0) else
  bif (r.getD ((partK k r).2 + (partK k (r.drop (partK k r).2)).2) 0).toNat != 41 then (leafD 0, 0) else
  (nodeD [(partK k r).1, (partK k (r.drop (partK k r).2)).1], (partK k r).2 + (partK k (r.drop (partK k r).2)).2 + 2) := by
 have h0 : ((c :: r).length == 0) = false := by simp
 have h1 : (c :: r).getD 0 0 = c := rfl
 have h2 : (c :: r).drop 1 = r := rfl
 have h3 : ∀ n, (c :: r).drop (1 + n) = r.drop n := fun n => by rw [Nat.add_comm]; rfl
 have h4 : ∀ n m, (c :: r).getD (1 + n + m) 0 = r.getD (n + m) 0 := fun n m => by rw [show 1 + n + m = (n + m) + 1 by omega]; rfl
 have h5 : ∀ n m, decide (1 + n + m >= (c :: r).length) = decide (n + m >= r.length) := fun n m => by
  rw [List.length_cons]
  by_cases h : n + m >= r.length
  ·have : 1 + n + m >= r.length + 1 := by omega
   simp [h, this]
  ·have : ¬ (1 + n + m >= r.length + 1) := by omega
   rw [decide_eq_false h, decide_eq_false this]
 rw [partK_succ, h0, cond_false, h1, h2, h3, h4, h5]
theorem digit_of {c : UInt8} (h1 : 48 <= c.toNat) (h2 : c.toNat <= 51) : digitL ((c.toNat : Int) - 48) = [c] := by
 have : c.toNat = 48 \/ c.toNat = 49 \/ c.toNat = 50 \/ c.toNat = 51 := by omega
 rcases this with h | h | h | h
 ·have : c = 48 := UInt8.toNat_inj.1 h
  subst this; decide
 ·have : c = 49 := UInt8.toNat_inj.1 h
  subst this; decide
 ·have : c = 50 := UInt8.toNat_inj.1 h
  subst this; decide
 ·have : c = 51 := UInt8.toNat_inj.1 h
  subst this; decide
/-- What a part is: its text stands there. -/
theorem part_sound : ∀ (k : Nat) (s : List UInt8), (partK k s).2 ≠ 0 -> (partK k s).2 <= s.length /\ cano k (partK k s).1 /\ textK k (partK k s).1 = s.take (partK k s).2
 | 0, s, h => absurd rfl h
 | k + 1, [], h => absurd (by rw [partK_nil]) h
 | k + 1, c :: r, h => by
  rw [partK_cons] at h ⊢
  cases hd : (decide (48 <= c.toNat) && decide (c.toNat <= 51)) with
  | true =>
   rw [Bool.and_eq_true, decide_eq_true_eq, decide_eq_true_eq] at hd
   rw [cond_true]
   refine ⟨by show 1 <= r.length + 1; omega, cano_leaf k _, ?_⟩
   show textK (k + 1) (leafD _) = [c]
   rw [textK_leaf]
   exact digit_of hd.1 hd.2
  | false =>
   rw [hd, cond_false] at h
   rw [cond_false]
   cases h1 : (c.toNat != 40) with
   | true => rw [h1] at h; exact absurd rfl h
   | false =>
    rw [h1, cond_false] at h
    rw [cond_false]
    cases h2 : ((partK k r).2 == 0) with
    | true => rw [h2] at h; exact absurd rfl h
    | false =>
     rw [h2, cond_false] at h
     rw [cond_false]
     cases h3 : ((partK k (r.drop (partK k r).2)).2 == 0) with
     | true => rw [h3] at h; exact absurd rfl h
     | false =>
      rw [h3, cond_false] at h
      rw [cond_false]
      cases h4 : decide ((partK k r).2 + (partK k (r.drop (partK k r).2)).2 >= r.length) with
      | true => rw [h4] at h; exact absurd rfl h
      | false =>
       rw [h4, cond_false] at h
       rw [cond_false]
       cases h5 : ((r.getD ((partK k r).2 + (partK k (r.drop (partK k r).2)).2) 0).toNat != 41) with
       | true => rw [h5] at h; exact absurd rfl h
       | false =>
        rw [cond_false]
        obtain ⟨a1, a2, a3⟩ := part_sound k r (by simpa using h2)
        obtain ⟨b1, b2, b3⟩ := part_sound k (r.drop (partK k r).2) (by simpa using h3)
        rw [decide_eq_false_iff_not] at h4
        have hlt : (partK k r).2 + (partK k (r.drop (partK k r).2)).2 < r.length := by omega
        refine ⟨by show _ <= r.length + 1; omega, cano_node a2 b2, ?_⟩
        show textK (k + 1) (nodeD _) = _
        have hc : c = 40 := UInt8.toNat_inj.1 (by simpa using h1)
        have h6 : r[(partK k r).2 + (partK k (r.drop (partK k r).2)).2] = 41 := by
         have : (r.getD ((partK k r).2 + (partK k (r.drop (partK k r).2)).2) 0) = r[(partK k r).2 + (partK k (r.drop (partK k r).2)).2] := by simp [List.getD, hlt]
         rw [this] at h5
         exact UInt8.toNat_inj.1 (by simpa using h5)
        rw [textK_node, a3, b3, hc, show (partK k r).2 + (partK k (r.drop (partK k r).2)).2 + 2 = ((partK k r).2 + (partK k (r.drop (partK k r).2)).2 + 1) + 1 by omega, List.take_succ_cons, List.take_succ_eq_append_getElem hlt, h6, List.take_add]
theorem text_mono : ∀ (k : Nat) (t : D), setK k t ≠ 0 -> textK (k + 1) t = textK k t
 | 0, t, h => absurd rfl h
 | k + 1, t, h => by
  rcases set_cases k t with e | ⟨e1, _, _⟩ | ⟨a, b, e1, _, sa, sb, _, _⟩
  ·exact absurd e h
  ·rw [textK_succ (k + 1) t, textK_succ k t, e1]; rfl
  ·rw [textK_succ (k + 1) t, textK_succ k t, e1]
   show 40 :: (textK (k + 1) a ++ textK (k + 1) b ++ [41]) = 40 :: (textK k a ++ textK k b ++ [41])
   rw [text_mono k a sa, text_mono k b sb]
theorem may_set {t : D} (h : mayT t = true) : setK 4 t ≠ 0 := by simpa [mayT, setT] using h
theorem set_may {t : D} (h : setK 4 t ≠ 0) : mayT t = true := by simpa [mayT, setT] using h
theorem text_five {t : D} (h : mayT t = true) : textK 5 t = textT t := by
 rw [text_mono 4 t (may_set h)]
 unfold textT
 rw [h]
 rfl
theorem text_pos {k j : Nat} {t : D} (hc : cano j t) (h : setK k t ≠ 0) : 1 <= (textK k t).length := by
 have := text_len3 k j t hc h
 omega
theorem part_text : ∀ (k j m : Nat) (t : D) (r : List UInt8), cano j t -> setK k t ≠ 0 -> k <= m -> partK m (textK k t ++ r) = (t, (textK k t).length)
 | 0, j, m, t, r, _, h, _ => absurd rfl h
 | k + 1, j, 0, t, r, _, h, hm => by omega
 | k + 1, j, m + 1, t, r, hc, h, hm => by
  rcases may_shape hc h with ⟨n, rfl, hn⟩ | ⟨a, b, i, rfl, rfl, ca, cb, sa, sb, _⟩
  ·obtain ⟨c, h1, h2, h3⟩ := digit_val hn
   rw [textK_leaf, h1]
   show partK (m + 1) (c :: r) = _
   unfold isOccB at hn
   rw [Bool.and_eq_true, decide_eq_true_eq, decide_eq_true_eq] at hn
   have hd : (decide (48 <= c.toNat) && decide (c.toNat <= 51)) = true := by
    rw [Bool.and_eq_true, decide_eq_true_eq, decide_eq_true_eq]; omega
   rw [partK_cons, hd, cond_true, show (c.toNat : Int) - 48 = n by omega]
   rfl
  ·have e : textK (k + 1) (nodeD [a, b]) ++ r = 40 :: (textK k a ++ (textK k b ++ 41 :: r)) := by rw [textK_node]; simp
   have ia := part_text k i m a (textK k b ++ 41 :: r) ca sa (by omega)
   have ib := part_text k i m b (41 :: r) cb sb (by omega)
   have pa := text_pos ca sa
   have pb := text_pos cb sb
   have z1 : ((textK k a).length == 0) = false := by rw [beq_eq_false_iff_ne]; omega
   have z2 : ((textK k b).length == 0) = false := by rw [beq_eq_false_iff_ne]; omega
   have z3 : decide ((textK k a).length + (textK k b).length >= (textK k a ++ (textK k b ++ 41 :: r)).length) = false := by
    rw [decide_eq_false_iff_not]; simp only [List.length_append, List.length_cons]; omega
   have z4 : (textK k a ++ (textK k b ++ 41 :: r)).getD ((textK k a).length + (textK k b).length) 0 = 41 := by
    rw [<- List.append_assoc, <- List.length_append]
    simp [List.getD]
   have z5 : (decide (48 <= (40 : UInt8).toNat) && decide ((40 : UInt8).toNat <= 51)) = false := rfl
   have z6 : ((40 : UInt8).toNat != 40) = false := rfl
   have z7 : ((41 : UInt8).toNat != 41) = false := rfl
   rw [e, partK_cons, ia]
   show (bif _ then _ else bif _ then _ else bif (textK k a).length == 0 then _ else _) = _
   rw [z5, z6, z1, List.drop_left, ib]
   show (bif (textK k b).length == 0 then _ else _) = _
   rw [z2]
   show (bif decide ((textK k a).length + (textK k b).length >= (textK k a ++ (textK k b ++ 41 :: r)).length) then _ else _) = _
   rw [z3]
   show (bif ((textK k a ++ (textK k b ++ 41 :: r)).getD ((textK k a).length + (textK k b).length) 0).toNat != 41 then _ else _) = _
   rw [z4, z7, textK_node]
   show (nodeD [a, b], (textK k a).length + (textK k b).length + 2) = _
   congr 1
   simp only [List.length_cons, List.length_append, List.length_nil]
/-- What is read has the form of trees. -/
theorem rd_cano (s : List UInt8) : ∀ (n q : Nat) (l l' : List D), rdL s n q l = some l' -> (∀ x ∈ l, ∃ j, cano j x) -> ∀ x ∈ l', ∃ j, cano j x
 | 0, q, l, l', h, _ => by cases h
 | n + 1, q, l, l', h, hl => by
  rw [rdL_succ] at h
  cases h1 : decide (q < s.length) with
  | false =>
   rw [h1, cond_false] at h
   cases h
   exact hl
  | true =>
   rw [h1, cond_true] at h
   cases h2 : (((runeAt s q).1 : Int) == 40) with
   | true =>
    rw [h2, cond_true] at h
    exact rd_cano s n _ l l' h hl
   | false =>
    rw [h2, cond_false] at h
    cases h3 : isOccB (((runeAt s q).1 : Int) - 48) with
    | true =>
     rw [h3, cond_true] at h
     refine rd_cano s n _ _ l' h (fun x hx => ?_)
     rcases List.mem_append.1 hx with hx | hx
     ·exact hl x hx
     ·rw [List.mem_singleton.1 hx]
      exact ⟨1, cano_leaf 0 _⟩
    | false =>
     rw [h3, cond_false] at h
     cases h4 : ((((runeAt s q).1 : Int) == 41) && decide (2 <= l.length)) with
     | false => rw [h4] at h; cases h
     | true =>
      rw [h4, cond_true] at h
      rw [Bool.and_eq_true, decide_eq_true_eq] at h4
      refine rd_cano s n _ _ l' h (fun x hx => ?_)
      rcases List.mem_append.1 hx with hx | hx
      ·exact hl x (List.mem_of_mem_take hx)
      ·rw [List.mem_singleton.1 hx]
       have g0 : l.length - 2 < l.length := by omega
       have g1 : l.length - 1 < l.length := by omega
       obtain ⟨i, hi⟩ := hl _ (List.getElem_mem g0)
       obtain ⟨j, hj⟩ := hl _ (List.getElem_mem g1)
       rw [getD_lt g0, getD_lt g1]
       exact ⟨max i j + 1, cano_node (cano_le hi (Nat.le_max_left _ _)) (cano_le hj (Nat.le_max_right _ _))⟩
theorem read_cano {s : List UInt8} {y : D} (h : readT s = some y) : ∃ j, cano j y := by
 unfold readT at h
 cases hd : decide (s.length > 10) with
 | true => rw [hd] at h; cases h
 | false =>
  rw [hd, cond_false] at h
  split at h
  ·rename_i t hr
   cases he : (textT t == s) with
   | false => rw [he] at h; cases h
   | true =>
    rw [he, cond_true] at h
    cases h
    exact rd_cano s 12 0 [] [y] hr (fun x hx => by cases hx) y (by simp)
  ·cases h
theorem read_part (s : List UInt8) : (((partK 5 s).2 == 0) || ((partK 5 s).2 != s.length) || !(mayT (partK 5 s).1)) = true /\ readT s = none \/
  (((partK 5 s).2 == 0) || ((partK 5 s).2 != s.length) || !(mayT (partK 5 s).1)) = false /\ readT s = some (partK 5 s).1 := by
 cases h : (((partK 5 s).2 == 0) || ((partK 5 s).2 != s.length) || !(mayT (partK 5 s).1)) with
 | false =>
  refine .inr ⟨rfl, ?_⟩
  rw [Bool.or_eq_false_iff, Bool.or_eq_false_iff] at h
  obtain ⟨⟨h1, h2⟩, h3⟩ := h
  obtain ⟨_, hc, ht⟩ := part_sound 5 s (by simpa using h1)
  have hl : (partK 5 s).2 = s.length := by simpa using h2
  have hm : mayT (partK 5 s).1 = true := by simpa using h3
  rw [hl, List.take_length, text_five hm] at ht
  have := read_text hc hm
  rw [ht] at this
  exact this
 | true =>
  refine .inl ⟨rfl, ?_⟩
  cases hr : readT s with
  | none => rfl
  | some y =>
   exfalso
   obtain ⟨j, hc⟩ := read_cano hr
   obtain ⟨hm, ht⟩ := read_back hr
   have hp := part_text 4 j 5 y [] hc (may_set hm) (by omega)
   have h4 : textK 4 y = s := by
    rw [<- ht]; unfold textT; rw [hm]; rfl
   have hpos := text_pos hc (may_set hm)
   rw [h4, List.append_nil] at hp
   rw [h4] at hpos
   rw [hp] at h
   have e1 : (s.length == 0) = false := by rw [beq_eq_false_iff_ne]; omega
   have e2 : (s.length != s.length) = false := by simp
   have h : ((s.length == 0) || (s.length != s.length) || !(mayT y)) = true := h
   rw [e1, e2, hm] at h
   cases h
/-- How deep they are. -/
theorem set_ok : ∀ (k : Nat) (t : D), setK k t ≠ 0 -> okT k t = true
 | 0, t, h => absurd rfl h
 | k + 1, t, h => by
  rw [okT_succ]
  rcases set_cases k t with e | ⟨e1, _, _⟩ | ⟨a, b, e1, _, sa, sb, _, _⟩
  ·exact absurd e h
  ·rw [e1]; rfl
  ·rw [e1]
   show (okT k a && (okT k b && true)) = true
   rw [set_ok k a sa, set_ok k b sb]
   rfl
theorem rd_ok (s : List UInt8) : okT 130 (rdTree s) = true := by
 unfold rdTree
 cases h : readT s with
 | none => rfl
 | some y => exact okT_le (set_ok 4 y (may_set (read_back h).1)) (by omega)
theorem first_ok (n : Int) : okT 130 (firstD n) = true := by
 unfold firstD
 split <;> rfl
theorem all_deep (x : Int) : (allT x).all (okT 130) = true := by
 by_cases h : 1 <= x /\ x <= 15
 ·have h := all_ok h.1 h.2
  simp only [allChk, Bool.and_eq_true, decide_eq_true_eq] at h
  obtain ⟨⟨⟨⟨⟨a, _⟩, _⟩, _⟩, _⟩, _⟩ := h
  rw [List.all_eq_true] at a ⊢
  intro t ht
  have := a t ht
  simp only [oneChk, Bool.and_eq_true, decide_eq_true_eq, beq_iff_eq] at this
  exact okT_le this.1.2 (by omega)
 ·have : (decide (1 <= x) && decide (x <= 15)) = false := by
   rw [Bool.and_eq_false_iff, decide_eq_false_iff_not, decide_eq_false_iff_not]
   omega
  unfold allT
  rw [this]
  rfl
theorem lists_refl {l : List D} (h : l.all (okT 130) = true) : eq2 eqT l l = true := by
 rw [List.all_eq_true] at h
 exact eq2_refl l (fun x hx => eqK_refl 130 x (h x hx))
end Go.Ev
