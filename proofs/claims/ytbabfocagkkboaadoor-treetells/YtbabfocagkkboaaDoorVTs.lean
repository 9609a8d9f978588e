/- Trees: their sets and texts. Nothing here is trusted. -/
import Derived.Test.YtbabfocagkkboaaDoorVTr
namespace Go.Ev
set_option linter.unusedVariables false
set_option linter.unusedSimpArgs false

theorem bits4 : ∀ x y : Fin 16, (andI .i64 (x.val : Int) (y.val : Int) = 0 → (orI .i64 (x.val : Int) (y.val : Int) : Int) = ((x.val + y.val : Nat) : Int) ∧ x.val + y.val ≤ 15 ∧ popI ((x.val + y.val : Nat) : Int) = popI (x.val : Int) + popI (y.val : Int)) ∧
    andI .i64 (x.val : Int) (y.val : Int) = andI .i64 (y.val : Int) (x.val : Int) ∧ andI .i64 (x.val : Int) (x.val : Int) = (x.val : Int) ∧ (popI (x.val : Int) ≥ 4 → x.val = 15) ∧ andI .i64 15 (y.val : Int) = (y.val : Int) ∧ 0 ≤ popI (x.val : Int) ∧ (x.val ≠ 0 → 1 ≤ popI (x.val : Int)) := by decide +kernel
theorem shl4 : ∀ n : Fin 4, 1 ≤ (shlI .i64 1 (n.val : Int)) ∧ (shlI .i64 1 (n.val : Int)) ≤ 15 := by decide +kernel
def inS (x : Int) : Prop := 0 ≤ x ∧ x ≤ 15
theorem inS_fin {x : Int} (h : inS x) : ∃ n : Fin 16, x = (n.val : Int) := ⟨⟨x.toNat, by have := h.1; have := h.2; omega⟩, by have := h.1; simp; omega⟩
structure B4 (x y : Int) : Prop where
  or : andI .i64 x y = 0 → orI .i64 x y = x + y ∧ x + y ≤ 15 ∧ popI (x + y) = popI x + popI y
  comm : andI .i64 x y = andI .i64 y x
  self : andI .i64 x x = x
  full : popI x ≥ 4 → x = 15
  all : andI .i64 15 y = y
  pos : 0 ≤ popI x
  one : x ≠ 0 → 1 ≤ popI x
theorem b4 {x y : Int} (hx : inS x) (hy : inS y) : B4 x y := by
  obtain ⟨n, rfl⟩ := inS_fin hx
  obtain ⟨m, rfl⟩ := inS_fin hy
  obtain ⟨h1, h2, h3, h4, h5, h6, h7⟩ := bits4 n m
  refine ⟨fun h => ?_, h2, h3, fun h => ?_, h5, h6, fun h => h7 (by omega)⟩
  · obtain ⟨a, b, c⟩ := h1 h
    exact ⟨by rw [a]; omega, by omega, by rw [← c]; congr 1⟩
  · have := h4 h; omega
theorem occ_shl {n : Int} (h : isOccB n = true) : 1 ≤ shlI .i64 1 n ∧ shlI .i64 1 n ≤ 15 := by
  unfold isOccB at h
  rw [Bool.and_eq_true, decide_eq_true_eq, decide_eq_true_eq] at h
  have := shl4 ⟨n.toNat, by omega⟩
  have e : ((n.toNat : Nat) : Int) = n := by omega
  simp only [e] at this
  exact this
/-- What a set of one more level is. -/
theorem set_cases (k : Nat) (t : D) : (setK (k + 1) t = 0) ∨ (tkids t = [] ∧ isOccB (tocc t) = true ∧ setK (k + 1) t = shlI .i64 1 (tocc t)) ∨
    (∃ a b, tkids t = [a, b] ∧ tocc t = 0 ∧ setK k a ≠ 0 ∧ setK k b ≠ 0 ∧ andI .i64 (setK k a) (setK k b) = 0 ∧ setK (k + 1) t = orI .i64 (setK k a) (setK k b)) := by
  rw [setK_succ]
  cases h1 : ((((tkids t).length : Int) == 0) && isOccB (tocc t)) with
  | true =>
    rw [Bool.and_eq_true] at h1
    have h0 := eq_of_beq h1.1
    exact .inr (.inl ⟨List.length_eq_zero_iff.1 (by omega), h1.2, by rw [cond_true]⟩)
  | false =>
    rw [cond_false]
    cases h2 : ((((tkids t).length : Int) != 2) || (tocc t != 0)) with
    | true => exact .inl (by rw [cond_true])
    | false =>
      rw [cond_false]
      cases h3 : ((setK k ((tkids t).getD 0 .nil) == 0) || (setK k ((tkids t).getD 1 .nil) == 0) || (andI .i64 (setK k ((tkids t).getD 0 .nil)) (setK k ((tkids t).getD 1 .nil)) != 0)) with
      | true => exact .inl (by rw [cond_true])
      | false =>
        rw [cond_false]
        rw [Bool.or_eq_false_iff] at h2
        have hl : ((tkids t).length : Int) = 2 := by simpa using h2.1
        have ho : tocc t = 0 := by simpa using h2.2
        match hk : tkids t, hl with
        | [a, b], _ =>
          rw [hk] at h3
          simp only [Bool.or_eq_false_iff, beq_eq_false_iff_ne, bne_eq_false_iff_eq] at h3
          exact .inr (.inr ⟨a, b, rfl, ho, h3.1.1, h3.1.2, h3.2, rfl⟩)
        | [], h => simp at h
        | [_], h => simp at h
        | _ :: _ :: _ :: l, h => simp only [List.length_cons] at h; omega
theorem setK_in : ∀ (k : Nat) (t : D), inS (setK k t)
  | 0, t => ⟨Int.le_refl _, by show (0 : Int) ≤ 15; omega⟩
  | k + 1, t => by
    rcases set_cases k t with h | ⟨_, h2, h⟩ | ⟨a, b, _, _, h1, h2, h3, h⟩
    · rw [h]; exact ⟨Int.le_refl _, by omega⟩
    · rw [h]
      have := occ_shl h2
      exact ⟨by omega, this.2⟩
    · have B := b4 (setK_in k a) (setK_in k b)
      obtain ⟨o1, o2, _⟩ := B.or h3
      have := (setK_in k a).1
      have := (setK_in k b).1
      rw [h, o1]
      exact ⟨by omega, o2⟩
theorem setK_leaf {k : Nat} {t : D} (h1 : tkids t = []) (h2 : isOccB (tocc t) = true) : setK (k + 1) t = shlI .i64 1 (tocc t) := by
  rw [setK_succ, h1, h2]
  rfl
theorem setK_node {k : Nat} {t a b : D} (h1 : tkids t = [a, b]) (h2 : tocc t = 0) : setK (k + 1) t = bif (setK k a == 0) || (setK k b == 0) || (andI .i64 (setK k a) (setK k b) != 0) then 0 else orI .i64 (setK k a) (setK k b) := by
  rw [setK_succ, h1, h2]
  rfl
theorem setK_node1 {k : Nat} {t a b : D} (h1 : tkids t = [a, b]) (h2 : tocc t = 0) (ha : setK k a ≠ 0) (hb : setK k b ≠ 0) (h : andI .i64 (setK k a) (setK k b) = 0) : setK (k + 1) t = orI .i64 (setK k a) (setK k b) := by
  rw [setK_node h1 h2]
  have e1 : (setK k a == 0) = false := by simpa using ha
  have e2 : (setK k b == 0) = false := by simpa using hb
  rw [e1, e2, h]
  rfl
theorem setK_mono : ∀ (k : Nat) (t : D), setK k t ≠ 0 → setK (k + 1) t = setK k t
  | 0, t, h => absurd rfl h
  | k + 1, t, h => by
    rcases set_cases k t with h0 | ⟨h1, h2, h3⟩ | ⟨a, b, hk, ho, ha, hb, hab, h3⟩
    · exact absurd h0 h
    · rw [setK_leaf h1 h2, h3]
    · have ea := setK_mono k a ha
      have eb := setK_mono k b hb
      rw [setK_node1 hk ho (by rw [ea]; exact ha) (by rw [eb]; exact hb) (by rw [ea, eb]; exact hab), ea, eb, h3]
theorem setK_pop : ∀ (k : Nat) (t : D), setK (k + 1) t ≠ 0 → setK k t = 0 → ((k + 1 : Nat) : Int) ≤ popI (setK (k + 1) t)
  | 0, t, h, _ => by
    have := (b4 (setK_in 1 t) (setK_in 1 t)).one h
    exact this
  | k + 1, t, h, h0 => by
    rcases set_cases (k + 1) t with e | ⟨h1, h2, h3⟩ | ⟨a, b, hk, ho, ha, hb, hab, h3⟩
    · exact absurd e h
    · rw [setK_leaf h1 h2] at h0
      have := occ_shl h2
      omega
    · have B := b4 (setK_in (k + 1) a) (setK_in (k + 1) b)
      obtain ⟨o1, o2, o3⟩ := B.or hab
      have B2 := b4 (setK_in (k + 1) b) (setK_in (k + 1) a)
      have p1 := B.one ha
      have p2 := B2.one hb
      rw [h3, o1, o3]
      by_cases za : setK k a = 0
      · have := setK_pop k a ha za
        omega
      · by_cases zb : setK k b = 0
        · have := setK_pop k b hb zb
          omega
        · exfalso
          have ea := setK_mono k a za
          have eb := setK_mono k b zb
          rw [ea, eb] at hab
          rw [setK_node1 hk ho za zb hab] at h0
          have B := b4 (setK_in k a) (setK_in k b)
          obtain ⟨q1, _, _⟩ := B.or hab
          have := (setK_in k a).1
          have := (setK_in k b).1
          omega
/-- The set of two trees. -/
theorem set_join (a b : D) : (setT a ≠ 0 ∧ setT b ≠ 0 ∧ andI .i64 (setT a) (setT b) = 0 → setT (nodeD [a, b]) = orI .i64 (setT a) (setT b) ∧ setT (nodeD [a, b]) ≠ 0) ∧ (¬ (setT a ≠ 0 ∧ setT b ≠ 0 ∧ andI .i64 (setT a) (setT b) = 0) → setT (nodeD [a, b]) = 0) := by
  have hk : tkids (nodeD [a, b]) = [a, b] := rfl
  have ho : tocc (nodeD [a, b]) = 0 := rfl
  have Ia := setK_in 4 a
  have Ib := setK_in 4 b
  refine ⟨fun ⟨h1, h2, h3⟩ => ?_, fun h => ?_⟩
  · have e1 : setK 3 a = setK 4 a := by
      by_cases z : setK 3 a = 0
      · exfalso
        have := setK_pop 3 a h1 z
        have e15 := (b4 Ia Ib).full (by simpa using this)
        have h3 : andI .i64 (setK 4 a) (setK 4 b) = 0 := h3
        rw [e15, (b4 Ia Ib).all] at h3
        exact h2 h3
      · exact (setK_mono 3 a z).symm
    have e2 : setK 3 b = setK 4 b := by
      by_cases z : setK 3 b = 0
      · exfalso
        have := setK_pop 3 b h2 z
        have e15 := (b4 Ib Ia).full (by simpa using this)
        have h3 : andI .i64 (setK 4 a) (setK 4 b) = 0 := h3
        rw [(b4 Ia Ib).comm, e15, (b4 Ib Ia).all] at h3
        exact h1 h3
      · exact (setK_mono 3 b z).symm
    have h1' : setK 4 a ≠ 0 := h1
    have h2' : setK 4 b ≠ 0 := h2
    have h3' : andI .i64 (setK 4 a) (setK 4 b) = 0 := h3
    have e : setT (nodeD [a, b]) = orI .i64 (setK 4 a) (setK 4 b) := by
      show setK (3 + 1) (nodeD [a, b]) = _
      rw [setK_node1 hk ho (by rw [e1]; exact h1') (by rw [e2]; exact h2') (by rw [e1, e2]; exact h3'), e1, e2]
    refine ⟨e, ?_⟩
    rw [e, ((b4 Ia Ib).or h3').1]
    have := Ia.1
    have := Ib.1
    omega
  · rcases set_cases 3 (nodeD [a, b]) with e | ⟨h1, _⟩ | ⟨x, y, hxy, _, hx, hy, hand, e⟩
    · exact e
    · cases h1
    · exfalso
      rw [hk] at hxy
      cases hxy
      refine h ⟨?_, ?_, ?_⟩
      · show setK 4 a ≠ 0
        rw [setK_mono 3 a hx]; exact hx
      · show setK 4 b ≠ 0
        rw [setK_mono 3 b hy]; exact hy
      · show andI .i64 (setK 4 a) (setK 4 b) = 0
        rw [setK_mono 3 a hx, setK_mono 3 b hy]; exact hand
theorem may_pos (t : D) : mayT t = decide (setT t > 0) := by
  have := setK_in 4 t
  unfold mayT
  by_cases h : setT t = 0
  · rw [h]; rfl
  · have h1 : (setT t != 0) = true := by rw [bne_iff_ne]; exact h
    have h2 : decide (setT t > 0) = true := by
      rw [decide_eq_true_eq]
      have h0 : 0 ≤ setT t := this.1
      omega
    rw [h1, h2]
theorem node_small {a b : D} (ha : szK 101 a 100 ≤ 100) (hb : szK 101 b 100 ≤ 100) : smT (nodeD [a, b]) = true := by
  obtain ⟨a1, a2⟩ := few_small ha
  obtain ⟨b1, b2⟩ := few_small hb
  unfold smT smK
  rw [Bool.and_eq_true, decide_eq_true_eq]
  refine ⟨?_, ?_⟩
  · refine okT_le (k := 102) ?_ (by omega)
    rw [okT_succ]
    show (okT 101 a && (okT 101 b && true)) = true
    rw [a1, b1]
    rfl
  · have h0 : szT 130 (nodeD [a, b]) = 1 + (szT 129 a + (szT 129 b + 0)) := rfl
    have h1 : szT 129 a ≤ szT 130 a := szT_mono 129 a
    have h2 : szT 129 b ≤ szT 130 b := szT_mono 129 b
    rw [h0]
    omega
theorem eqT_refl {a : D} (h : smT a = true) : eqT a a = true := by
  unfold smT smK at h
  rw [Bool.and_eq_true] at h
  exact eqK_refl 130 a h.1

/-! ### Texts -/
theorem digit_at {n : Int} (h : isOccB n = true) : ∃ c : UInt8, digitL n = [c] ∧ c ≠ 40 ∧ c ≠ 41 := by
  unfold isOccB at h
  rw [Bool.and_eq_true, decide_eq_true_eq, decide_eq_true_eq] at h
  have : n = 0 ∨ n = 1 ∨ n = 2 ∨ n = 3 := by omega
  rcases this with rfl | rfl | rfl | rfl
  · exact ⟨48, rfl, by decide, by decide⟩
  · exact ⟨49, rfl, by decide, by decide⟩
  · exact ⟨50, rfl, by decide, by decide⟩
  · exact ⟨51, rfl, by decide, by decide⟩
theorem digit_inj {n m : Int} (hn : isOccB n = true) (hm : isOccB m = true) (h : digitL n = digitL m) : n = m := by
  unfold isOccB at hn hm
  rw [Bool.and_eq_true, decide_eq_true_eq, decide_eq_true_eq] at hn hm
  have e1 : n = 0 ∨ n = 1 ∨ n = 2 ∨ n = 3 := by omega
  have e2 : m = 0 ∨ m = 1 ∨ m = 2 ∨ m = 3 := by omega
  rcases e1 with rfl | rfl | rfl | rfl <;> rcases e2 with rfl | rfl | rfl | rfl <;> first | rfl | (exfalso; revert h; decide)
/-- A tree that may be: an occurrence, or two. -/
theorem may_shape {k j : Nat} {t : D} (hc : cano j t) (h : setK (k + 1) t ≠ 0) : (∃ n, t = leafD n ∧ isOccB n = true) ∨ (∃ a b i, t = nodeD [a, b] ∧ j = i + 1 ∧ cano i a ∧ cano i b ∧ setK k a ≠ 0 ∧ setK k b ≠ 0 ∧ andI .i64 (setK k a) (setK k b) = 0 ∧ setK (k + 1) t = orI .i64 (setK k a) (setK k b)) := by
  cases j with
  | zero => exact hc.elim
  | succ j =>
    obtain ⟨n, ks, rfl, hks⟩ := hc
    rcases set_cases k (.agg [.lit (.int .i64 n), .slice ks []]) with e | ⟨h1, h2, _⟩ | ⟨a, b, h1, h2, h3⟩
    · exact absurd e h
    · have h1 : ks = [] := h1
      subst h1
      exact .inl ⟨n, rfl, h2⟩
    · have h1 : ks = [a, b] := h1
      have h2 : n = 0 := h2
      subst h1 h2
      exact .inr ⟨a, b, j, rfl, rfl, hks a (by simp), hks b (by simp), h3⟩
theorem textK_leaf (k : Nat) (n : Int) : textK (k + 1) (leafD n) = digitL n := rfl
theorem textK_node (k : Nat) (a b : D) : textK (k + 1) (nodeD [a, b]) = 40 :: (textK k a ++ textK k b ++ [41]) := rfl
theorem text_inj : ∀ (k : Nat) (m i j : Nat) (a b : D) (r r' : List UInt8), cano i a → cano j b → setK k a ≠ 0 → setK m b ≠ 0 → textK k a ++ r = textK m b ++ r' → a = b ∧ r = r'
  | 0, m, i, j, a, b, r, r', _, _, h, _, _ => absurd rfl h
  | k + 1, 0, i, j, a, b, r, r', _, _, _, h, _ => absurd rfl h
  | k + 1, m + 1, i, j, a, b, r, r', hi, hj, ha, hb, h => by
    rcases may_shape hi ha with ⟨n, rfl, hn⟩ | ⟨x, y, i', rfl, rfl, cx, cy, sx, sy, _⟩
    · rcases may_shape hj hb with ⟨n', rfl, hn'⟩ | ⟨x', y', j', rfl, rfl, cx', cy', sx', sy', _⟩
      · rw [textK_leaf, textK_leaf] at h
        obtain ⟨c, hc, _⟩ := digit_at hn
        obtain ⟨c', hc', _⟩ := digit_at hn'
        rw [hc, hc'] at h
        simp only [List.cons_append, List.nil_append, List.cons.injEq] at h
        exact ⟨by rw [digit_inj hn hn' (by rw [hc, hc', h.1])], h.2⟩
      · exfalso
        rw [textK_leaf, textK_node] at h
        obtain ⟨c, hc, h40, _⟩ := digit_at hn
        rw [hc] at h
        simp only [List.cons_append, List.cons.injEq] at h
        exact h40 h.1
    · rcases may_shape hj hb with ⟨n', rfl, hn'⟩ | ⟨x', y', j', rfl, rfl, cx', cy', sx', sy', _⟩
      · exfalso
        rw [textK_leaf, textK_node] at h
        obtain ⟨c, hc, h40, _⟩ := digit_at hn'
        rw [hc] at h
        simp only [List.cons_append, List.cons.injEq] at h
        exact h40 h.1.symm
      · rw [textK_node, textK_node] at h
        simp only [List.cons_append, List.cons.injEq, true_and, List.append_assoc] at h
        obtain ⟨e1, h⟩ := text_inj k m i' j' x x' _ _ cx cx' sx sx' h
        obtain ⟨e2, h⟩ := text_inj k m i' j' y y' _ _ cy cy' sy sy' h
        simp only [List.cons_append, List.nil_append, List.cons.injEq, true_and] at h
        exact ⟨by rw [e1, e2], h⟩
theorem textT_inj {i j : Nat} {a b : D} (hi : cano i a) (hj : cano j b) (ha : mayT a = true) (hb : mayT b = true) (h : textT a = textT b) : a = b := by
  unfold textT at h
  rw [ha, hb, cond_true, cond_true] at h
  have ha : setK 4 a ≠ 0 := by simpa [mayT, setT] using ha
  have hb : setK 4 b ≠ 0 := by simpa [mayT, setT] using hb
  exact (text_inj 4 4 i j a b [] [] hi hj ha hb (by rw [List.append_nil, List.append_nil]; exact h)).1
theorem text_ne {a : D} {i : Nat} (hi : cano i a) (ha : mayT a = true) : textT a ≠ [] := by
  unfold textT
  rw [ha, cond_true]
  have ha : setK (3 + 1) a ≠ 0 := by simpa [mayT, setT] using ha
  rcases may_shape hi ha with ⟨n, rfl, hn⟩ | ⟨x, y, i', rfl, _⟩
  · obtain ⟨c, hc, _⟩ := digit_at hn
    rw [textK_leaf, hc]
    simp
  · rw [textK_node]
    simp
/-- Two trees that may be have the same text just if they are the same. -/
theorem text_same {i j : Nat} {a b : D} (hi : cano i a) (hj : cano j b) (hik : i ≤ 130) (hs : smT a = true) (ha : mayT a = true) (hb : mayT b = true) : (textT a == textT b) = eqT a b := by
  by_cases h : a = b
  · subst h
    rw [eqT_refl hs]
    simp
  · have h1 : (textT a == textT b) = false := by
      rw [beq_eq_false_iff_ne]
      exact fun he => h (textT_inj hi hj ha hb he)
    have h2 : eqT a b = false := by
      cases he : eqT a b with
      | false => rfl
      | true => exact absurd (eqK_eq (cano_le hi hik) hj he) h
    rw [h1, h2]
end Go.Ev
