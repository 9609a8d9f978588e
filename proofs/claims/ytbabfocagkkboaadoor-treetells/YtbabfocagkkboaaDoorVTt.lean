/- Trees: a text is read as its tree. Nothing here is trusted. -/
import Derived.Test.YtbabfocagkkboaaDoorVTs
namespace Go.Ev
set_option linter.unusedVariables false
set_option linter.unusedSimpArgs false

/-- A sign that takes one byte. -/
theorem rune_at {s u r : List UInt8} {c : UInt8} (h : s = u ++ c :: r) (hc : c.toNat < 128) : runeAt s u.length = (c.toNat, 1) := by
  have hg : (⟨s.toArray⟩ : ByteArray).get! (u.length + 0) = c := by
    have h1 : (⟨s.toArray⟩ : ByteArray).get! (u.length + 0) = s.toArray[u.length + 0]! := rfl
    rw [h1, h]
    simp
  unfold runeAt Utf8.decode
  exact Eq.trans (if_pos (show ((⟨s.toArray⟩ : ByteArray).get! (u.length + 0)).toNat < 128 by rw [hg]; exact hc)) (show (((⟨s.toArray⟩ : ByteArray).get! (u.length + 0)).toNat, 1) = (c.toNat, 1) by rw [hg])
theorem digit_val {n : Int} (h : isOccB n = true) : ∃ c : UInt8, digitL n = [c] ∧ (c.toNat : Int) = 48 + n ∧ c.toNat < 128 := by
  unfold isOccB at h
  rw [Bool.and_eq_true, decide_eq_true_eq, decide_eq_true_eq] at h
  have : n = 0 ∨ n = 1 ∨ n = 2 ∨ n = 3 := by omega
  rcases this with rfl | rfl | rfl | rfl
  · exact ⟨48, rfl, by decide, by decide⟩
  · exact ⟨49, rfl, by decide, by decide⟩
  · exact ⟨50, rfl, by decide, by decide⟩
  · exact ⟨51, rfl, by decide, by decide⟩
/-- Going through the text of a tree puts it behind what there is. -/
theorem rd_text : ∀ (k : Nat) (j : Nat) (t : D) (s u r : List UInt8) (n : Nat) (l : List D), cano j t → setK k t ≠ 0 → s = u ++ (textK k t ++ r) → rdL s (n + (textK k t).length) u.length l = rdL s n (u.length + (textK k t).length) (l ++ [t])
  | 0, j, t, s, u, r, n, l, _, h, _ => absurd rfl h
  | k + 1, j, t, s, u, r, n, l, hc, h, hs => by
    rcases may_shape hc h with ⟨m, rfl, hm⟩ | ⟨a, b, i, rfl, rfl, ca, cb, sa, sb, _⟩
    · rw [textK_leaf] at hs ⊢
      obtain ⟨c, h1, h2, h3⟩ := digit_val hm
      rw [h1] at hs ⊢
      have hr := rune_at (u := u) (c := c) (r := r) hs h3
      show rdL s (n + 1) u.length l = _
      rw [rdL_succ, hr]
      have hlt : decide (u.length < s.length) = true := by
        rw [decide_eq_true_eq, hs]
        simp only [List.length_append, List.length_cons]
        omega
      unfold isOccB at hm
      have hm' := hm
      rw [Bool.and_eq_true, decide_eq_true_eq, decide_eq_true_eq] at hm
      have e1 : (((c.toNat : Nat) : Int) == 40) = false := by rw [beq_eq_false_iff_ne]; omega
      have e2 : ((c.toNat : Nat) : Int) - 48 = m := by omega
      simp only [hlt, e1, e2, cond_true, cond_false, isOccB, hm']
      rfl
    · rw [textK_node] at hs ⊢
      have hs1 : s = u ++ 40 :: (textK k a ++ (textK k b ++ (41 :: r))) := by rw [hs]; simp
      have hr := rune_at (u := u) (c := 40) hs1 (by decide)
      have hl : (40 :: (textK k a ++ textK k b ++ [41]) : List UInt8).length = 1 + (textK k b).length + (textK k a).length + 1 := by
        simp only [List.length_cons, List.length_append, List.length_nil]; omega
      rw [hl, show n + (1 + (textK k b).length + (textK k a).length + 1) = (n + 1 + (textK k b).length + (textK k a).length) + 1 by omega, rdL_succ, hr]
      have hlt : decide (u.length < s.length) = true := by
        rw [decide_eq_true_eq, hs1]
        simp only [List.length_append, List.length_cons]
        omega
      have e1 : (((((40 : UInt8).toNat, 1) : Nat × Nat).1 : Int) == 40) = true := by decide
      rw [hlt, cond_true, e1, cond_true]
      have u1 : u.length + (((40 : UInt8).toNat, 1) : Nat × Nat).2 = (u ++ [40]).length := by simp
      rw [u1, rd_text k i a s (u ++ [40]) (textK k b ++ (41 :: r)) (n + 1 + (textK k b).length) l ca sa (by rw [hs1]; simp)]
      have u2 : (u ++ [40]).length + (textK k a).length = (u ++ [40] ++ textK k a).length := by simp only [List.length_append]
      rw [u2, rd_text k i b s (u ++ [40] ++ textK k a) (41 :: r) (n + 1) (l ++ [a]) cb sb (by rw [hs1]; simp)]
      have hs2 : s = (u ++ [40] ++ textK k a ++ textK k b) ++ 41 :: r := by rw [hs1]; simp
      have u3 : (u ++ [40] ++ textK k a).length + (textK k b).length = (u ++ [40] ++ textK k a ++ textK k b).length := by simp only [List.length_append]
      have hr2 := rune_at (u := u ++ [40] ++ textK k a ++ textK k b) (c := 41) hs2 (by decide)
      rw [u3, rdL_succ, hr2]
      have hlt2 : decide ((u ++ [40] ++ textK k a ++ textK k b).length < s.length) = true := by
        rw [decide_eq_true_eq, hs2]
        simp only [List.length_append, List.length_cons]
        omega
      have f1 : (((((41 : UInt8).toNat, 1) : Nat × Nat).1 : Int) == 40) = false := by decide
      have f2 : isOccB (((((41 : UInt8).toNat, 1) : Nat × Nat).1 : Int) - 48) = false := by decide
      have f3 : (((((41 : UInt8).toNat, 1) : Nat × Nat).1 : Int) == 41) = true := by decide
      have f4 : decide (2 ≤ (l ++ [a] ++ [b]).length) = true := by rw [decide_eq_true_eq]; simp
      rw [hlt2, cond_true, f1, cond_false, f2, cond_false, f3, f4, Bool.and_self, cond_true]
      have g0 : (l ++ [a] ++ [b]).length - 2 = l.length := by simp
      have g1 : (l ++ [a] ++ [b]).length - 1 = l.length + 1 := by simp
      have g2 : (l ++ [a] ++ [b]).take l.length = l := by simp
      have g3 : (l ++ [a] ++ [b]).getD l.length .nil = a := by simp [List.getD]
      have g4 : (l ++ [a] ++ [b]).getD (l.length + 1) .nil = b := by simp [List.getD]
      rw [g0, g1, g2, g3, g4]
      congr 1
      simp only [List.length_append, List.length_cons, List.length_nil]
      omega
/-- How long a text is. -/
theorem text_len3 : ∀ (k j : Nat) (t : D), cano j t → setK k t ≠ 0 → ((textK k t).length : Int) + 2 = 3 * popI (setK k t)
  | 0, j, t, _, h => absurd rfl h
  | k + 1, j, t, hc, h => by
    rcases may_shape hc h with ⟨m, rfl, hm⟩ | ⟨a, b, i, rfl, rfl, ca, cb, sa, sb, hand, hor⟩
    · obtain ⟨c, h1, _⟩ := digit_val hm
      rw [textK_leaf, h1, setK_leaf (t := leafD m) rfl hm]
      have hm := hm
      unfold isOccB at hm
      rw [Bool.and_eq_true, decide_eq_true_eq, decide_eq_true_eq] at hm
      have : m = 0 ∨ m = 1 ∨ m = 2 ∨ m = 3 := by omega
      show ((1 : Nat) : Int) + 2 = 3 * popI (shlI .i64 1 m)
      rcases this with rfl | rfl | rfl | rfl <;> decide
    · have h1 := text_len3 k i a ca sa
      have h2 := text_len3 k i b cb sb
      obtain ⟨o1, _, o3⟩ := (b4 (setK_in k a) (setK_in k b)).or hand
      rw [textK_node, hor, o1, o3]
      simp only [List.length_cons, List.length_append, List.length_nil]
      omega
theorem pop4 : ∀ x : Fin 16, popI (x.val : Int) ≤ 4 := by decide
theorem pop_le {x : Int} (h : inS x) : popI x ≤ 4 := by
  obtain ⟨n, rfl⟩ := inS_fin h
  exact pop4 n
theorem read_text {j : Nat} {t : D} (hc : cano j t) (h : mayT t = true) : readT (textT t) = some t := by
  have hs : setK 4 t ≠ 0 := by simpa [mayT, setT] using h
  have ht : textT t = textK 4 t := by unfold textT; rw [h]; rfl
  have h3 := text_len3 4 j t hc hs
  have h4 := pop_le (setK_in 4 t)
  have hlen : (textK 4 t).length ≤ 10 := by omega
  unfold readT
  have d : decide ((textT t).length > 10) = false := by rw [decide_eq_false_iff_not, ht]; omega
  rw [d, cond_false]
  have hrd : rdL (textT t) 12 0 [] = some [t] := by
    have := rd_text 4 j t (textT t) [] [] (12 - (textK 4 t).length) [] hc hs (by rw [ht]; simp)
    rw [show 12 - (textK 4 t).length + (textK 4 t).length = 12 by omega] at this
    show rdL (textT t) 12 ([] : List UInt8).length [] = _
    rw [this]
    obtain ⟨m, hm⟩ : ∃ m, 12 - (textK 4 t).length = m + 1 := ⟨11 - (textK 4 t).length, by omega⟩
    rw [hm, rdL_succ]
    have d2 : decide (([] : List UInt8).length + (textK 4 t).length < (textT t).length) = false := by rw [decide_eq_false_iff_not, ht]; simp
    rw [d2, cond_false]
    rfl
  rw [hrd]
  show (bif textT t == textT t then some t else none) = some t
  rw [beq_self_eq_true, cond_true]
theorem read_none : readT [] = none := by decide +kernel
/-- What is read is a tree that may be, and its text is what was read. -/
theorem read_back {s : List UInt8} {y : D} (h : readT s = some y) : mayT y = true ∧ textT y = s := by
  have h0 := h
  unfold readT at h
  cases hd : decide (s.length > 10) with
  | true => rw [hd] at h; cases h
  | false =>
    rw [hd, cond_false] at h
    split at h
    · rename_i t hr
      cases he : (textT t == s) with
      | false => rw [he] at h; cases h
      | true =>
        rw [he, cond_true] at h
        cases h
        have e := eq_of_beq he
        refine ⟨?_, e⟩
        cases hm : mayT y with
        | true => rfl
        | false =>
          exfalso
          have : s = [] := by rw [← e]; unfold textT; rw [hm]; rfl
          rw [this, read_none] at h0
          cases h0
    · cases h
/-- All occurrences, as the document tells them. -/
def lvK : Nat → D → List D × Bool
  | 0, _ => ([], false)
  | k + 1, t => bif (((tkids t).length : Int) == 0) then ([.lit (.int .i64 (tocc t))], decide (tocc t ≥ 0) && decide (tocc t ≤ 3)) else
    bif (((tkids t).length : Int) != 2) || (tocc t != 0) then ([], false) else
    ((lvK k ((tkids t).getD 0 .nil)).1 ++ (lvK k ((tkids t).getD 1 .nil)).1, (lvK k ((tkids t).getD 0 .nil)).2 && (lvK k ((tkids t).getD 1 .nil)).2)
theorem lvK_succ (k : Nat) (t : D) : lvK (k + 1) t = bif (((tkids t).length : Int) == 0) then ([.lit (.int .i64 (tocc t))], decide (tocc t ≥ 0) && decide (tocc t ≤ 3)) else
    bif (((tkids t).length : Int) != 2) || (tocc t != 0) then ([], false) else
    ((lvK k ((tkids t).getD 0 .nil)).1 ++ (lvK k ((tkids t).getD 1 .nil)).1, (lvK k ((tkids t).getD 0 .nil)).2 && (lvK k ((tkids t).getD 1 .nil)).2) := rfl
theorem lv_len : ∀ (k : Nat) (t : D), (lvK k t).1.length ≤ 2 ^ k
  | 0, t => by show (0 : Nat) ≤ _; omega
  | k + 1, t => by
    rw [lvK_succ]
    have h0 := lv_len k ((tkids t).getD 0 .nil)
    have h1 := lv_len k ((tkids t).getD 1 .nil)
    have h2 : 2 ^ (k + 1) = 2 * 2 ^ k := by rw [Nat.pow_succ]; omega
    have h3 : 1 ≤ 2 ^ k := Nat.one_le_two_pow
    cases (((tkids t).length : Int) == 0) with
    | true => show (1 : Nat) ≤ _; omega
    | false =>
      cases ((((tkids t).length : Int) != 2) || (tocc t != 0)) with
      | true => show (0 : Nat) ≤ _; omega
      | false =>
        show ((lvK k ((tkids t).getD 0 .nil)).1 ++ (lvK k ((tkids t).getD 1 .nil)).1).length ≤ _
        rw [List.length_append]
        omega
theorem lv_pop : ∀ (k j : Nat) (t : D), cano j t → setK k t ≠ 0 → ((lvK k t).1.length : Int) = popI (setK k t)
  | 0, j, t, _, h => absurd rfl h
  | k + 1, j, t, hc, h => by
    rcases may_shape hc h with ⟨m, rfl, hm⟩ | ⟨a, b, i, rfl, rfl, ca, cb, sa, sb, hand, hor⟩
    · rw [setK_leaf (t := leafD m) rfl hm]
      unfold isOccB at hm
      rw [Bool.and_eq_true, decide_eq_true_eq, decide_eq_true_eq] at hm
      have : m = 0 ∨ m = 1 ∨ m = 2 ∨ m = 3 := by omega
      show ((1 : Nat) : Int) = popI (shlI .i64 1 m)
      rcases this with rfl | rfl | rfl | rfl <;> decide
    · have h1 := lv_pop k i a ca sa
      have h2 := lv_pop k i b cb sb
      obtain ⟨o1, _, o3⟩ := (b4 (setK_in k a) (setK_in k b)).or hand
      rw [hor, o1, o3]
      show (((lvK k a).1 ++ (lvK k b).1).length : Int) = _
      rw [List.length_append]
      omega
theorem eq2_cons (e : D → D → Bool) (x y : D) (xs ys : List D) : eq2 e (x :: xs) (y :: ys) = (e x y && eq2 e xs ys) := rfl
end Go.Ev
