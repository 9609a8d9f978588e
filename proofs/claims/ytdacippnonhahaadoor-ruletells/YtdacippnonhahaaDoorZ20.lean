/- Trees of functions, and lemmas. Nothing here is trusted. -/
import Derived.Test.YtdacippnonhahaaDoorZ18
import Derived.KernelRfl
namespace Go.Ev
set_option linter.unusedVariables false
set_option linter.unusedSimpArgs false
theorem bits4 : ∀ x y : Fin 16, (andI .i64 (x.val : Int) (y.val : Int) = 0 -> (orI .i64 (x.val : Int) (y.val : Int) : Int) = ((x.val + y.val : Nat) : Int) /\ x.val + y.val <= 15 /\ popI ((x.val + y.val : Nat) : Int) = popI (x.val : Int) + popI (y.val : Int)) /\
  andI .i64 (x.val : Int) (y.val : Int) = andI .i64 (y.val : Int) (x.val : Int) /\ andI .i64 (x.val : Int) (x.val : Int) = (x.val : Int) /\ (popI (x.val : Int) >= 4 -> x.val = 15) /\ andI .i64 15 (y.val : Int) = (y.val : Int) /\ 0 <= popI (x.val : Int) /\ (x.val ≠ 0 -> 1 <= popI (x.val : Int)) := by decide +kernel
theorem shl4 : ∀ n : Fin 4, 1 <= (shlI .i64 1 (n.val : Int)) /\ (shlI .i64 1 (n.val : Int)) <= 15 := by decide +kernel
def inT (x : Int) : Prop := 0 <= x /\ x <= 15
theorem inT_fin {x : Int} (h : inT x) : ∃ n : Fin 16, x = (n.val : Int) := ⟨⟨x.toNat, by have := h.1; have := h.2; omega⟩, by have := h.1; simp; omega⟩
structure B4 (x y : Int) : Prop where
 or : andI .i64 x y = 0 -> orI .i64 x y = x + y /\ x + y <= 15 /\ popI (x + y) = popI x + popI y
 comm : andI .i64 x y = andI .i64 y x
 self : andI .i64 x x = x
 full : popI x >= 4 -> x = 15
 all : andI .i64 15 y = y
 pos : 0 <= popI x
 one : x ≠ 0 -> 1 <= popI x
theorem b4 {x y : Int} (hx : inT x) (hy : inT y) : B4 x y := by
 obtain ⟨n, rfl⟩ := inT_fin hx
 obtain ⟨m, rfl⟩ := inT_fin hy
 obtain ⟨h1, h2, h3, h4, h5, h6, h7⟩ := bits4 n m
 refine ⟨fun h => ?_, h2, h3, fun h => ?_, h5, h6, fun h => h7 (by omega)⟩
 ·obtain ⟨a, b, c⟩ := h1 h
  exact ⟨by rw [a]; omega, by omega, by rw [<- c]; congr 1⟩
 ·have := h4 h; omega
theorem occ_shl {n : Int} (h : isOccB n = true) : 1 <= shlI .i64 1 n /\ shlI .i64 1 n <= 15 := by
 unfold isOccB at h
 rw [Bool.and_eq_true, decide_eq_true_eq, decide_eq_true_eq] at h
 have := shl4 ⟨n.toNat, by omega⟩
 have e : ((n.toNat : Nat) : Int) = n := by omega
 simp only [e] at this
 exact this
/-- What a set of one more level is. -/
theorem set_cases (k : Nat) (t : D) : (setK (k + 1) t = 0) \/ (tkids t = [] /\ isOccB (tocc t) = true /\ setK (k + 1) t = shlI .i64 1 (tocc t)) \/
  (∃ a b, tkids t = [a, b] /\ tocc t = 0 /\ setK k a ≠ 0 /\ setK k b ≠ 0 /\ andI .i64 (setK k a) (setK k b) = 0 /\ setK (k + 1) t = orI .i64 (setK k a) (setK k b)) := by
 rw [setK_succ]
 cases h1 : ((((tkids t).length : Int) == 0) && isOccB (tocc t)) with
 | true =>
  rw [Bool.and_eq_true] at h1
  have h0 := eq_of_beq h1.1
  exact .inr (.inl ⟨List.length_eq_zero_iff.1 (by omega), h1.2, by rw [cond_true]⟩)
 | false =>
  rw [cond_false]
  cases h2 : ((((tkids t).length : Int) != 2) || (tocc t != 0)) with
  | true => exact .inl (by rw [cond_true])
  | false =>
   rw [cond_false]
   cases h3 : ((setK k ((tkids t).getD 0 .nil) == 0) || (setK k ((tkids t).getD 1 .nil) == 0) || (andI .i64 (setK k ((tkids t).getD 0 .nil)) (setK k ((tkids t).getD 1 .nil)) != 0)) with
   | true => exact .inl (by rw [cond_true])
   | false =>
    rw [cond_false]
    rw [Bool.or_eq_false_iff] at h2
    have hl : ((tkids t).length : Int) = 2 := by simpa using h2.1
    have ho : tocc t = 0 := by simpa using h2.2
    match hk : tkids t, hl with
    | [a, b], _ =>
     rw [hk] at h3
     simp only [Bool.or_eq_false_iff, beq_eq_false_iff_ne, bne_eq_false_iff_eq] at h3
     exact .inr (.inr ⟨a, b, rfl, ho, h3.1.1, h3.1.2, h3.2, rfl⟩)
    | [], h => simp at h
    | [_], h => simp at h
    | _ :: _ :: _ :: l, h => simp only [List.length_cons] at h; omega
theorem setK_in : ∀ (k : Nat) (t : D), inT (setK k t)
 | 0, t => ⟨Int.le_refl _, by show (0 : Int) <= 15; omega⟩
 | k + 1, t => by
  rcases set_cases k t with h | ⟨_, h2, h⟩ | ⟨a, b, _, _, h1, h2, h3, h⟩
  ·rw [h]; exact ⟨Int.le_refl _, by omega⟩
  ·rw [h]
   have := occ_shl h2
   exact ⟨by omega, this.2⟩
  ·have B := b4 (setK_in k a) (setK_in k b)
   obtain ⟨o1, o2, _⟩ := B.or h3
   have := (setK_in k a).1
   have := (setK_in k b).1
   rw [h, o1]
   exact ⟨by omega, o2⟩
theorem setK_leaf {k : Nat} {t : D} (h1 : tkids t = []) (h2 : isOccB (tocc t) = true) : setK (k + 1) t = shlI .i64 1 (tocc t) := by
 rw [setK_succ, h1, h2]
 rfl
theorem setK_node {k : Nat} {t a b : D} (h1 : tkids t = [a, b]) (h2 : tocc t = 0) : setK (k + 1) t = bif (setK k a == 0) || (setK k b == 0) || (andI .i64 (setK k a) (setK k b) != 0) then 0 else orI .i64 (setK k a) (setK k b) := by
 rw [setK_succ, h1, h2]
 rfl
theorem setK_node1 {k : Nat} {t a b : D} (h1 : tkids t = [a, b]) (h2 : tocc t = 0) (ha : setK k a ≠ 0) (hb : setK k b ≠ 0) (h : andI .i64 (setK k a) (setK k b) = 0) : setK (k + 1) t = orI .i64 (setK k a) (setK k b) := by
 rw [setK_node h1 h2]
 have e1 : (setK k a == 0) = false := by simpa using ha
 have e2 : (setK k b == 0) = false := by simpa using hb
 rw [e1, e2, h]
 rfl
theorem setK_mono : ∀ (k : Nat) (t : D), setK k t ≠ 0 -> setK (k + 1) t = setK k t
 | 0, t, h => absurd rfl h
 | k + 1, t, h => by
  rcases set_cases k t with h0 | ⟨h1, h2, h3⟩ | ⟨a, b, hk, ho, ha, hb, hab, h3⟩
  ·exact absurd h0 h
  ·rw [setK_leaf h1 h2, h3]
  ·have ea := setK_mono k a ha
   have eb := setK_mono k b hb
   rw [setK_node1 hk ho (by rw [ea]; exact ha) (by rw [eb]; exact hb) (by rw [ea, eb]; exact hab), ea, eb, h3]
theorem setK_pop : ∀ (k : Nat) (t : D), setK (k + 1) t ≠ 0 -> setK k t = 0 -> ((k + 1 : Nat) : Int) <= popI (setK (k + 1) t)
 | 0, t, h, _ => by
  have := (b4 (setK_in 1 t) (setK_in 1 t)).one h
  exact this
 | k + 1, t, h, h0 => by
  rcases set_cases (k + 1) t with e | ⟨h1, h2, h3⟩ | ⟨a, b, hk, ho, ha, hb, hab, h3⟩
  ·exact absurd e h
  ·rw [setK_leaf h1 h2] at h0
   have := occ_shl h2
   omega
  ·have B := b4 (setK_in (k + 1) a) (setK_in (k + 1) b)
   obtain ⟨o1, o2, o3⟩ := B.or hab
   have B2 := b4 (setK_in (k + 1) b) (setK_in (k + 1) a)
   have p1 := B.one ha
   have p2 := B2.one hb
   rw [h3, o1, o3]
   by_cases za : setK k a = 0
   ·have := setK_pop k a ha za
    omega
   ·by_cases zb : setK k b = 0
    ·have := setK_pop k b hb zb
     omega
    ·exfalso
     have ea := setK_mono k a za
     have eb := setK_mono k b zb
     rw [ea, eb] at hab
     rw [setK_node1 hk ho za zb hab] at h0
     have B := b4 (setK_in k a) (setK_in k b)
     obtain ⟨q1, _, _⟩ := B.or hab
     have := (setK_in k a).1
     have := (setK_in k b).1
     omega
/-- The set of two trees. -/
theorem set_join (a b : D) : (setT a ≠ 0 /\ setT b ≠ 0 /\ andI .i64 (setT a) (setT b) = 0 -> setT (nodeD [a, b]) = orI .i64 (setT a) (setT b) /\ setT (nodeD [a, b]) ≠ 0) /\ (¬ (setT a ≠ 0 /\ setT b ≠ 0 /\ andI .i64 (setT a) (setT b) = 0) -> setT (nodeD [a, b]) = 0) := by
 have hk : tkids (nodeD [a, b]) = [a, b] := rfl
 have ho : tocc (nodeD [a, b]) = 0 := rfl
 have Ia := setK_in 4 a
 have Ib := setK_in 4 b
 refine ⟨fun ⟨h1, h2, h3⟩ => ?_, fun h => ?_⟩
 ·have e1 : setK 3 a = setK 4 a := by
   by_cases z : setK 3 a = 0
   ·exfalso
    have := setK_pop 3 a h1 z
    have e15 := (b4 Ia Ib).full (by simpa using this)
    have h3 : andI .i64 (setK 4 a) (setK 4 b) = 0 := h3
    rw [e15, (b4 Ia Ib).all] at h3
    exact h2 h3
   ·exact (setK_mono 3 a z).symm
  have e2 : setK 3 b = setK 4 b := by
   by_cases z : setK 3 b = 0
   ·exfalso
    have := setK_pop 3 b h2 z
    have e15 := (b4 Ib Ia).full (by simpa using this)
    have h3 : andI .i64 (setK 4 a) (setK 4 b) = 0 := h3
    rw [(b4 Ia Ib).comm, e15, (b4 Ib Ia).all] at h3
    exact h1 h3
   ·exact (setK_mono 3 b z).symm
  have h1' : setK 4 a ≠ 0 := h1
  have h2' : setK 4 b ≠ 0 := h2
  have h3' : andI .i64 (setK 4 a) (setK 4 b) = 0 := h3
  have e : setT (nodeD [a, b]) = orI .i64 (setK 4 a) (setK 4 b) := by
   show setK (3 + 1) (nodeD [a, b]) = _
   rw [setK_node1 hk ho (by rw [e1]; exact h1') (by rw [e2]; exact h2') (by rw [e1, e2]; exact h3'), e1, e2]
  refine ⟨e, ?_⟩
  rw [e, ((b4 Ia Ib).or h3').1]
  have := Ia.1
  have := Ib.1
  omega
 ·rcases set_cases 3 (nodeD [a, b]) with e | ⟨h1, _⟩ | ⟨x, y, hxy, _, hx, hy, hand, e⟩
  ·exact e
  ·cases h1
  ·exfalso
   rw [hk] at hxy
   cases hxy
   refine h ⟨?_, ?_, ?_⟩
   ·show setK 4 a ≠ 0
    rw [setK_mono 3 a hx]; exact hx
   ·show setK 4 b ≠ 0
    rw [setK_mono 3 b hy]; exact hy
   ·show andI .i64 (setK 4 a) (setK 4 b) = 0
    rw [setK_mono 3 a hx, setK_mono 3 b hy]; exact hand
theorem may_pos (t : D) : mayT t = decide (setT t > 0) := by
 have := setK_in 4 t
 unfold mayT
 by_cases h : setT t = 0
 ·rw [h]; rfl
 ·have h1 : (setT t != 0) = true := by rw [bne_iff_ne]; exact h
  have h2 : decide (setT t > 0) = true := by
   rw [decide_eq_true_eq]
   have h0 : 0 <= setT t := this.1
   omega
  rw [h1, h2]
theorem node_small {a b : D} (ha : szK 101 a 100 <= 100) (hb : szK 101 b 100 <= 100) : smT (nodeD [a, b]) = true := by
 obtain ⟨a1, a2⟩ := few_small ha
 obtain ⟨b1, b2⟩ := few_small hb
 unfold smT smK
 rw [Bool.and_eq_true, decide_eq_true_eq]
 refine ⟨?_, ?_⟩
 ·refine okT_le (k := 102) ?_ (by omega)
  rw [okT_succ]
  show (okT 101 a && (okT 101 b && true)) = true
  rw [a1, b1]
  rfl
 ·have h0 : szT 130 (nodeD [a, b]) = 1 + (szT 129 a + (szT 129 b + 0)) := rfl
  have h1 : szT 129 a <= szT 130 a := szT_mono 129 a
  have h2 : szT 129 b <= szT 130 b := szT_mono 129 b
  rw [h0]
  omega
theorem eqT_refl {a : D} (h : smT a = true) : eqT a a = true := by
 unfold smT smK at h
 rw [Bool.and_eq_true] at h
 exact eqK_refl 130 a h.1

/-! ### Texts -/
theorem digit_at {n : Int} (h : isOccB n = true) : ∃ c : UInt8, digitL n = [c] /\ c ≠ 40 /\ c ≠ 41 := by
 unfold isOccB at h
 rw [Bool.and_eq_true, decide_eq_true_eq, decide_eq_true_eq] at h
 have : n = 0 \/ n = 1 \/ n = 2 \/ n = 3 := by omega
 rcases this with rfl | rfl | rfl | rfl
 ·exact ⟨48, rfl, by decide, by decide⟩
 ·exact ⟨49, rfl, by decide, by decide⟩
 ·exact ⟨50, rfl, by decide, by decide⟩
 ·exact ⟨51, rfl, by decide, by decide⟩
theorem digit_inj {n m : Int} (hn : isOccB n = true) (hm : isOccB m = true) (h : digitL n = digitL m) : n = m := by
 unfold isOccB at hn hm
 rw [Bool.and_eq_true, decide_eq_true_eq, decide_eq_true_eq] at hn hm
 have e1 : n = 0 \/ n = 1 \/ n = 2 \/ n = 3 := by omega
 have e2 : m = 0 \/ m = 1 \/ m = 2 \/ m = 3 := by omega
 rcases e1 with rfl | rfl | rfl | rfl <;> rcases e2 with rfl | rfl | rfl | rfl <;> first | rfl | (exfalso; revert h; decide)
/-- A tree that may be: an occurrence, or two. -/
theorem may_shape {k j : Nat} {t : D} (hc : cano j t) (h : setK (k + 1) t ≠ 0) : (∃ n, t = leafD n /\ isOccB n = true) \/ (∃ a b i, t = nodeD [a, b] /\ j = i + 1 /\ cano i a /\ cano i b /\ setK k a ≠ 0 /\ setK k b ≠ 0 /\ andI .i64 (setK k a) (setK k b) = 0 /\ setK (k + 1) t = orI .i64 (setK k a) (setK k b)) := by
 cases j with
 | zero => exact hc.elim
 | succ j =>
  obtain ⟨n, ks, rfl, hks⟩ := hc
  rcases set_cases k (.agg [.lit (.int .i64 n), .slice ks []]) with e | ⟨h1, h2, _⟩ | ⟨a, b, h1, h2, h3⟩
  ·exact absurd e h
  ·have h1 : ks = [] := h1
   subst h1
   exact .inl ⟨n, rfl, h2⟩
  ·have h1 : ks = [a, b] := h1
   have h2 : n = 0 := h2
   subst h1 h2
   exact .inr ⟨a, b, j, rfl, rfl, hks a (by simp), hks b (by simp), h3⟩
theorem textK_leaf (k : Nat) (n : Int) : textK (k + 1) (leafD n) = digitL n := rfl
theorem textK_node (k : Nat) (a b : D) : textK (k + 1) (nodeD [a, b]) = 40 :: (textK k a ++ textK k b ++ [41]) := rfl
theorem text_inj : ∀ (k : Nat) (m i j : Nat) (a b : D) (r r' : List UInt8), cano i a -> cano j b -> setK k a ≠ 0 -> setK m b ≠ 0 -> textK k a ++ r = textK m b ++ r' -> a = b /\ r = r'
 | 0, m, i, j, a, b, r, r', _, _, h, _, _ => absurd rfl h
 | k + 1, 0, i, j, a, b, r, r', _, _, _, h, _ => absurd rfl h
 | k + 1, m + 1, i, j, a, b, r, r', hi, hj, ha, hb, h => by
  rcases may_shape hi ha with ⟨n, rfl, hn⟩ | ⟨x, y, i', rfl, rfl, cx, cy, sx, sy, _⟩
  ·rcases may_shape hj hb with ⟨n', rfl, hn'⟩ | ⟨x', y', j', rfl, rfl, cx', cy', sx', sy', _⟩
   ·rw [textK_leaf, textK_leaf] at h
    obtain ⟨c, hc, _⟩ := digit_at hn
    obtain ⟨c', hc', _⟩ := digit_at hn'
    rw [hc, hc'] at h
    simp only [List.cons_append, List.nil_append, List.cons.injEq] at h
    exact ⟨by rw [digit_inj hn hn' (by rw [hc, hc', h.1])], h.2⟩
   ·exfalso
    rw [textK_leaf, textK_node] at h
    obtain ⟨c, hc, h40, _⟩ := digit_at hn
    rw [hc] at h
    simp only [List.cons_append, List.cons.injEq] at h
    exact h40 h.1
  ·rcases may_shape hj hb with ⟨n', rfl, hn'⟩ | ⟨x', y', j', rfl, rfl, cx', cy', sx', sy', _⟩
   ·exfalso
    rw [textK_leaf, textK_node] at h
    obtain ⟨c, hc, h40, _⟩ := digit_at hn'
    rw [hc] at h
    simp only [List.cons_append, List.cons.injEq] at h
    exact h40 h.1.symm
   ·rw [textK_node, textK_node] at h
    simp only [List.cons_append, List.cons.injEq, true_and, List.append_assoc] at h
    obtain ⟨e1, h⟩ := text_inj k m i' j' x x' _ _ cx cx' sx sx' h
    obtain ⟨e2, h⟩ := text_inj k m i' j' y y' _ _ cy cy' sy sy' h
    simp only [List.cons_append, List.nil_append, List.cons.injEq, true_and] at h
    exact ⟨by rw [e1, e2], h⟩
theorem textT_inj {i j : Nat} {a b : D} (hi : cano i a) (hj : cano j b) (ha : mayT a = true) (hb : mayT b = true) (h : textT a = textT b) : a = b := by
 unfold textT at h
 rw [ha, hb, cond_true, cond_true] at h
 have ha : setK 4 a ≠ 0 := by simpa [mayT, setT] using ha
 have hb : setK 4 b ≠ 0 := by simpa [mayT, setT] using hb
 exact (text_inj 4 4 i j a b [] [] hi hj ha hb (by rw [List.append_nil, List.append_nil]; exact h)).1
theorem text_ne {a : D} {i : Nat} (hi : cano i a) (ha : mayT a = true) : textT a ≠ [] := by
 unfold textT
 rw [ha, cond_true]
 have ha : setK (3 + 1) a ≠ 0 := by simpa [mayT, setT] using ha
 rcases may_shape hi ha with ⟨n, rfl, hn⟩ | ⟨x, y, i', rfl, _⟩
 ·obtain ⟨c, hc, _⟩ := digit_at hn
  rw [textK_leaf, hc]
  simp
 ·rw [textK_node]
  simp
/-- Two trees that may be have the same text just if they are the same. -/
theorem text_same {i j : Nat} {a b : D} (hi : cano i a) (hj : cano j b) (hik : i <= 130) (hs : smT a = true) (ha : mayT a = true) (hb : mayT b = true) : (textT a == textT b) = eqT a b := by
 by_cases h : a = b
 ·subst h
  rw [eqT_refl hs]
  simp
 ·have h1 : (textT a == textT b) = false := by
   rw [beq_eq_false_iff_ne]
   exact fun he => h (textT_inj hi hj ha hb he)
  have h2 : eqT a b = false := by
   cases he : eqT a b with
   | false => rfl
   | true => exact absurd (eqK_eq (cano_le hi hik) hj he) h
  rw [h1, h2]
/-- A sign that takes one byte. -/
theorem rune_at {s u r : List UInt8} {c : UInt8} (h : s = u ++ c :: r) (hc : c.toNat < 128) : runeAt s u.length = (c.toNat, 1) := by
 have hg : (⟨s.toArray⟩ : ByteArray).get! (u.length + 0) = c := by
  have h1 : (⟨s.toArray⟩ : ByteArray).get! (u.length + 0) = s.toArray[u.length + 0]! := rfl
  rw [h1, h]
  simp
 unfold runeAt Utf8.decode
 exact Eq.trans (if_pos (show ((⟨s.toArray⟩ : ByteArray).get! (u.length + 0)).toNat < 128 by rw [hg]; exact hc)) (show (((⟨s.toArray⟩ : ByteArray).get! (u.length + 0)).toNat, 1) = (c.toNat, 1) by rw [hg])
theorem digit_val {n : Int} (h : isOccB n = true) : ∃ c : UInt8, digitL n = [c] /\ (c.toNat : Int) = 48 + n /\ c.toNat < 128 := by
 unfold isOccB at h
 rw [Bool.and_eq_true, decide_eq_true_eq, decide_eq_true_eq] at h
 have : n = 0 \/ n = 1 \/ n = 2 \/ n = 3 := by omega
 rcases this with rfl | rfl | rfl | rfl
 ·exact ⟨48, rfl, by decide, by decide⟩
 ·exact ⟨49, rfl, by decide, by decide⟩
 ·exact ⟨50, rfl, by decide, by decide⟩
 ·exact ⟨51, rfl, by decide, by decide⟩
/-- Going through the text of a tree puts it behind what there is. -/
theorem rd_text : ∀ (k : Nat) (j : Nat) (t : D) (s u r : List UInt8) (n : Nat) (l : List D), cano j t -> setK k t ≠ 0 -> s = u ++ (textK k t ++ r) -> rdL s (n + (textK k t).length) u.length l = rdL s n (u.length + (textK k t).length) (l ++ [t])
 | 0, j, t, s, u, r, n, l, _, h, _ => absurd rfl h
 | k + 1, j, t, s, u, r, n, l, hc, h, hs => by
  rcases may_shape hc h with ⟨m, rfl, hm⟩ | ⟨a, b, i, rfl, rfl, ca, cb, sa, sb, _⟩
  ·rw [textK_leaf] at hs ⊢
   obtain ⟨c, h1, h2, h3⟩ := digit_val hm
   rw [h1] at hs ⊢
   have hr := rune_at (u := u) (c := c) (r := r) hs h3
   show rdL s (n + 1) u.length l = _
   rw [rdL_succ, hr]
   have hlt : decide (u.length < s.length) = true := by
    rw [decide_eq_true_eq, hs]
    simp only [List.length_append, List.length_cons]
    omega
   unfold isOccB at hm
   have hm' := hm
   rw [Bool.and_eq_true, decide_eq_true_eq, decide_eq_true_eq] at hm
   have e1 : (((c.toNat : Nat) : Int) == 40) = false := by rw [beq_eq_false_iff_ne]; omega
   have e2 : ((c.toNat : Nat) : Int) - 48 = m := by omega
   simp only [hlt, e1, e2, cond_true, cond_false, isOccB, hm']
   rfl
  ·rw [textK_node] at hs ⊢
   have hs1 : s = u ++ 40 :: (textK k a ++ (textK k b ++ (41 :: r))) := by rw [hs]; simp
   have hr := rune_at (u := u) (c := 40) hs1 (by decide)
   have hl : (40 :: (textK k a ++ textK k b ++ [41]) : List UInt8).length = 1 + (textK k b).length + (textK k a).length + 1 := by
    simp only [List.length_cons, List.length_append, List.length_nil]; omega
   rw [hl, show n + (1 + (textK k b).length + (textK k a).length + 1) = (n + 1 + (textK k b).length + (textK k a).length) + 1 by omega, rdL_succ, hr]
   have hlt : decide (u.length < s.length) = true := by
    rw [decide_eq_true_eq, hs1]
    simp only [List.length_append, List.length_cons]
    omega
   have e1 : (((((40 : UInt8).toNat, 1) : Nat × Nat).1 : Int) == 40) = true := by decide
   rw [hlt, cond_true, e1, cond_true]
   have u1 : u.length + (((40 : UInt8).toNat, 1) : Nat × Nat).2 = (u ++ [40]).length := by simp
   rw [u1, rd_text k i a s (u ++ [40]) (textK k b ++ (41 :: r)) (n + 1 + (textK k b).length) l ca sa (by rw [hs1]; simp)]
   have u2 : (u ++ [40]).length + (textK k a).length = (u ++ [40] ++ textK k a).length := by simp only [List.length_append]
   rw [u2, rd_text k i b s (u ++ [40] ++ textK k a) (41 :: r) (n + 1) (l ++ [a]) cb sb (by rw [hs1]; simp)]
   have hs2 : s = (u ++ [40] ++ textK k a ++ textK k b) ++ 41 :: r := by rw [hs1]; simp
   have u3 : (u ++ [40] ++ textK k a).length + (textK k b).length = (u ++ [40] ++ textK k a ++ textK k b).length := by simp only [List.length_append]
   have hr2 := rune_at (u := u ++ [40] ++ textK k a ++ textK k b) (c := 41) hs2 (by decide)
   rw [u3, rdL_succ, hr2]
   have hlt2 : decide ((u ++ [40] ++ textK k a ++ textK k b).length < s.length) = true := by
    rw [decide_eq_true_eq, hs2]
    simp only [List.length_append, List.length_cons]
    omega
   have f1 : (((((41 : UInt8).toNat, 1) : Nat × Nat).1 : Int) == 40) = false := by decide
   have f2 : isOccB (((((41 : UInt8).toNat, 1) : Nat × Nat).1 : Int) - 48) = false := by decide
   have f3 : (((((41 : UInt8).toNat, 1) : Nat × Nat).1 : Int) == 41) = true := by decide
   have f4 : decide (2 <= (l ++ [a] ++ [b]).length) = true := by rw [decide_eq_true_eq]; simp
   rw [hlt2, cond_true, f1, cond_false, f2, cond_false, f3, f4, Bool.and_self, cond_true]
   have g0 : (l ++ [a] ++ [b]).length - 2 = l.length := by simp
   have g1 : (l ++ [a] ++ [b]).length - 1 = l.length + 1 := by simp
   have g2 : (l ++ [a] ++ [b]).take l.length = l := by simp
   have g3 : (l ++ [a] ++ [b]).getD l.length .nil = a := by simp [List.getD]
   have g4 : (l ++ [a] ++ [b]).getD (l.length + 1) .nil = b := by simp [List.getD]
   rw [g0, g1, g2, g3, g4]
   congr 1
   simp only [List.length_append, List.length_cons, List.length_nil]
   omega
/-- How long a text is. -/
theorem text_len3 : ∀ (k j : Nat) (t : D), cano j t -> setK k t ≠ 0 -> ((textK k t).length : Int) + 2 = 3 * popI (setK k t)
 | 0, j, t, _, h => absurd rfl h
 | k + 1, j, t, hc, h => by
  rcases may_shape hc h with ⟨m, rfl, hm⟩ | ⟨a, b, i, rfl, rfl, ca, cb, sa, sb, hand, hor⟩
  ·obtain ⟨c, h1, _⟩ := digit_val hm
   rw [textK_leaf, h1, setK_leaf (t := leafD m) rfl hm]
   have hm := hm
   unfold isOccB at hm
   rw [Bool.and_eq_true, decide_eq_true_eq, decide_eq_true_eq] at hm
   have : m = 0 \/ m = 1 \/ m = 2 \/ m = 3 := by omega
   show ((1 : Nat) : Int) + 2 = 3 * popI (shlI .i64 1 m)
   rcases this with rfl | rfl | rfl | rfl <;> decide
  ·have h1 := text_len3 k i a ca sa
   have h2 := text_len3 k i b cb sb
   obtain ⟨o1, _, o3⟩ := (b4 (setK_in k a) (setK_in k b)).or hand
   rw [textK_node, hor, o1, o3]
   simp only [List.length_cons, List.length_append, List.length_nil]
   omega
theorem pop4 : ∀ x : Fin 16, popI (x.val : Int) <= 4 := by decide
theorem pop_le {x : Int} (h : inT x) : popI x <= 4 := by
 obtain ⟨n, rfl⟩ := inT_fin h
 exact pop4 n
theorem read_text {j : Nat} {t : D} (hc : cano j t) (h : mayT t = true) : readT (textT t) = some t := by
 have hs : setK 4 t ≠ 0 := by simpa [mayT, setT] using h
 have ht : textT t = textK 4 t := by unfold textT; rw [h]; rfl
 have h3 := text_len3 4 j t hc hs
 have h4 := pop_le (setK_in 4 t)
 have hlen : (textK 4 t).length <= 10 := by omega
 unfold readT
 have d : decide ((textT t).length > 10) = false := by rw [decide_eq_false_iff_not, ht]; omega
 rw [d, cond_false]
 have hrd : rdL (textT t) 12 0 [] = some [t] := by
  have := rd_text 4 j t (textT t) [] [] (12 - (textK 4 t).length) [] hc hs (by rw [ht]; simp)
  rw [show 12 - (textK 4 t).length + (textK 4 t).length = 12 by omega] at this
  show rdL (textT t) 12 ([] : List UInt8).length [] = _
  rw [this]
  obtain ⟨m, hm⟩ : ∃ m, 12 - (textK 4 t).length = m + 1 := ⟨11 - (textK 4 t).length, by omega⟩
  rw [hm, rdL_succ]
  have d2 : decide (([] : List UInt8).length + (textK 4 t).length < (textT t).length) = false := by rw [decide_eq_false_iff_not, ht]; simp
  rw [d2, cond_false]
  rfl
 rw [hrd]
 show (bif textT t == textT t then some t else none) = some t
 rw [beq_self_eq_true, cond_true]
theorem read_none : readT [] = none := by decide +kernel
/-- What is read is a tree that may be, and its text is what was read. -/
theorem read_back {s : List UInt8} {y : D} (h : readT s = some y) : mayT y = true /\ textT y = s := by
 have h0 := h
 unfold readT at h
 cases hd : decide (s.length > 10) with
 | true => rw [hd] at h; cases h
 | false =>
  rw [hd, cond_false] at h
  split at h
  ·rename_i t hr
   cases he : (textT t == s) with
   | false => rw [he] at h; cases h
   | true =>
    rw [he, cond_true] at h
    cases h
    have e := eq_of_beq he
    refine ⟨?_, e⟩
    cases hm : mayT y with
    | true => rfl
    | false =>
     exfalso
     have : s = [] := by rw [<- e]; unfold textT; rw [hm]; rfl
     rw [this, read_none] at h0
     cases h0
  ·cases h
/-- All occurrences, as the document tells them. -/
def lvK : Nat -> D -> List D × Bool
 | 0, _ => ([], false)
 | k + 1, t => bif (((tkids t).length : Int) == 0) then ([.lit (.int .i64 (tocc t))], decide (tocc t >= 0) && decide (tocc t <= 3)) else
  bif (((tkids t).length : Int) != 2) || (tocc t != 0) then ([], false) else
  ((lvK k ((tkids t).getD 0 .nil)).1 ++ (lvK k ((tkids t).getD 1 .nil)).1, (lvK k ((tkids t).getD 0 .nil)).2 && (lvK k ((tkids t).getD 1 .nil)).2)
theorem lvK_succ (k : Nat) (t : D) : lvK (k + 1) t = bif (((tkids t).length : Int) == 0) then ([.lit (.int .i64 (tocc t))], decide (tocc t >= 0) && decide (tocc t <= 3)) else
  bif (((tkids t).length : Int) != 2) || (tocc t != 0) then ([], false) else
  ((lvK k ((tkids t).getD 0 .nil)).1 ++ (lvK k ((tkids t).getD 1 .nil)).1, (lvK k ((tkids t).getD 0 .nil)).2 && (lvK k ((tkids t).getD 1 .nil)).2) := rfl
theorem lv_len : ∀ (k : Nat) (t : D), (lvK k t).1.length <= 2 ^ k
 | 0, t => by show (0 : Nat) <= _; omega
 | k + 1, t => by
  rw [lvK_succ]
  have h0 := lv_len k ((tkids t).getD 0 .nil)
  have h1 := lv_len k ((tkids t).getD 1 .nil)
  have h2 : 2 ^ (k + 1) = 2 * 2 ^ k := by rw [Nat.pow_succ]; omega
  have h3 : 1 <= 2 ^ k := Nat.one_le_two_pow
  cases (((tkids t).length : Int) == 0) with
  | true => show (1 : Nat) <= _; omega
  | false =>
   cases ((((tkids t).length : Int) != 2) || (tocc t != 0)) with
   | true => show (0 : Nat) <= _; omega
   | false =>
    show ((lvK k ((tkids t).getD 0 .nil)).1 ++ (lvK k ((tkids t).getD 1 .nil)).1).length <= _
    rw [List.length_append]
    omega
theorem lv_pop : ∀ (k j : Nat) (t : D), cano j t -> setK k t ≠ 0 -> ((lvK k t).1.length : Int) = popI (setK k t)
 | 0, j, t, _, h => absurd rfl h
 | k + 1, j, t, hc, h => by
  rcases may_shape hc h with ⟨m, rfl, hm⟩ | ⟨a, b, i, rfl, rfl, ca, cb, sa, sb, hand, hor⟩
  ·rw [setK_leaf (t := leafD m) rfl hm]
   unfold isOccB at hm
   rw [Bool.and_eq_true, decide_eq_true_eq, decide_eq_true_eq] at hm
   have : m = 0 \/ m = 1 \/ m = 2 \/ m = 3 := by omega
   show ((1 : Nat) : Int) = popI (shlI .i64 1 m)
   rcases this with rfl | rfl | rfl | rfl <;> decide
  ·have h1 := lv_pop k i a ca sa
   have h2 := lv_pop k i b cb sb
   obtain ⟨o1, _, o3⟩ := (b4 (setK_in k a) (setK_in k b)).or hand
   rw [hor, o1, o3]
   show (((lvK k a).1 ++ (lvK k b).1).length : Int) = _
   rw [List.length_append]
   omega
theorem eq2_cons (e : D -> D -> Bool) (x y : D) (xs ys : List D) : eq2 e (x :: xs) (y :: ys) = (e x y && eq2 e xs ys) := rfl
section
set_option maxRecDepth 100000
def oneChk (set : Int) (t : D) : Bool := mayT t && (setT t == set) && smT t && okT 5 t && decide ((textT t).length <= 10)
def pairChk (l : List D) : Bool := (List.range l.length).all fun i => (List.range i).all fun k => !eqT (l.getD i .nil) (l.getD k .nil)
def nextChk (l : List D) : Bool := (List.range l.length).all fun i => i == 0 || !(textT (l.getD i .nil) == textT (l.getD (i - 1) .nil))
def cntChk (x0 : Int) : Bool := (decide (0 <= (IntKind.wrap .i64 ((IntKind.wrap .i64 ((IntKind.wrap .i64 ((Int.tmod x0 2) + (Int.tmod (IntKind.wrap .i64 (Int.tdiv x0 2)) 2))) + (Int.tmod (IntKind.wrap .i64 (Int.tdiv x0 4)) 2))) + (Int.tmod (IntKind.wrap .i64 (Int.tdiv x0 8)) 2)))) && decide ((IntKind.wrap .i64 ((IntKind.wrap .i64 ((IntKind.wrap .i64 ((Int.tmod x0 2) + (Int.tmod (IntKind.wrap .i64 (Int.tdiv x0 2)) 2))) + (Int.tmod (IntKind.wrap .i64 (Int.tdiv x0 4)) 2))) + (Int.tmod (IntKind.wrap .i64 (Int.tdiv x0 8)) 2))) < 5))
def lenChk (x0 : Int) : Bool := ((((allT x0).length : Int) == (intD (([.lit (.int .i64 0), .lit (.int .i64 1), .lit (.int .i64 2), .lit (.int .i64 12), .lit (.int .i64 120)] : List D).getD (IntKind.wrap .i64 ((IntKind.wrap .i64 ((IntKind.wrap .i64 ((Int.tmod x0 2) + (Int.tmod (IntKind.wrap .i64 (Int.tdiv x0 2)) 2))) + (Int.tmod (IntKind.wrap .i64 (Int.tdiv x0 4)) 2))) + (Int.tmod (IntKind.wrap .i64 (Int.tdiv x0 8)) 2))).toNat .nil))))
def allChk (set : Int) : Bool := (allT set).all (oneChk set) && pairChk (allT set) && nextChk (allT set) && cntChk set && lenChk set && decide ((allT set).length <= 120)
theorem all_1 : allChk 1 = true := by kernel_rfl
theorem all_2 : allChk 2 = true := by kernel_rfl
theorem all_3 : allChk 3 = true := by kernel_rfl
theorem all_4 : allChk 4 = true := by kernel_rfl
theorem all_5 : allChk 5 = true := by kernel_rfl
theorem all_6 : allChk 6 = true := by kernel_rfl
theorem all_7 : allChk 7 = true := by kernel_rfl
theorem all_8 : allChk 8 = true := by kernel_rfl
theorem all_9 : allChk 9 = true := by kernel_rfl
theorem all_10 : allChk 10 = true := by kernel_rfl
theorem all_11 : allChk 11 = true := by kernel_rfl
theorem all_12 : allChk 12 = true := by kernel_rfl
theorem all_13 : allChk 13 = true := by kernel_rfl
theorem all_14 : allChk 14 = true := by kernel_rfl
theorem all_15 : allChk 15 = true := by kernel_rfl
theorem all_ok {x : Int} (h1 : 1 <= x) (h2 : x <= 15) : allChk x = true := by
 have : x = 1 \/ x = 2 \/ x = 3 \/ x = 4 \/ x = 5 \/ x = 6 \/ x = 7 \/ x = 8 \/ x = 9 \/ x = 10 \/ x = 11 \/ x = 12 \/ x = 13 \/ x = 14 \/ x = 15 := by omega
 rcases this with rfl | rfl | rfl | rfl | rfl | rfl | rfl | rfl | rfl | rfl | rfl | rfl | rfl | rfl | rfl
 ·exact all_1
 ·exact all_2
 ·exact all_3
 ·exact all_4
 ·exact all_5
 ·exact all_6
 ·exact all_7
 ·exact all_8
 ·exact all_9
 ·exact all_10
 ·exact all_11
 ·exact all_12
 ·exact all_13
 ·exact all_14
 ·exact all_15
theorem allK_succ (k set : Nat) : allK (k + 1) set = bif set == 1 then [leafD 0] else bif set == 2 then [leafD 1] else bif set == 4 then [leafD 2] else bif set == 8 then [leafD 3] else
  (List.range set).flatMap fun p => bif p != 0 && (p &&& set) == p then joinL (allK k p) (allK k (set - p)) else [] := rfl
theorem mem_joinL {x : D} {l m : List D} : x ∈ joinL l m ↔ ∃ a ∈ l, ∃ b ∈ m, x = nodeD [a, b] := by
 unfold joinL
 rw [List.mem_flatMap]
 constructor
 ·rintro ⟨a, ha, h⟩
  rw [List.mem_map] at h
  obtain ⟨b, hb, rfl⟩ := h
  exact ⟨a, ha, b, hb, rfl⟩
 ·rintro ⟨a, ha, b, hb, rfl⟩
  exact ⟨a, ha, List.mem_map.2 ⟨b, hb, rfl⟩⟩
theorem cano_leaf (k : Nat) (n : Int) : cano (k + 1) (leafD n) := ⟨n, [], rfl, fun y hy => by cases hy⟩
theorem cano_node {k : Nat} {a b : D} (ha : cano k a) (hb : cano k b) : cano (k + 1) (nodeD [a, b]) := ⟨0, [a, b], rfl, fun y hy => by
 rcases List.mem_cons.1 hy with rfl | hy
 ·exact ha
 ·rw [List.mem_singleton.1 hy]; exact hb⟩
theorem all_cano : ∀ (n s : Nat) (t : D), t ∈ allK n s -> cano n t
 | 0, s, t, h => by cases h
 | n + 1, s, t, h => by
  rw [allK_succ] at h
  cases h1 : (s == 1) with
  | true => rw [h1, cond_true] at h; rw [List.mem_singleton.1 h]; exact cano_leaf _ _
  | false =>
   rw [h1, cond_false] at h
   cases h2 : (s == 2) with
   | true => rw [h2, cond_true] at h; rw [List.mem_singleton.1 h]; exact cano_leaf _ _
   | false =>
    rw [h2, cond_false] at h
    cases h4 : (s == 4) with
    | true => rw [h4, cond_true] at h; rw [List.mem_singleton.1 h]; exact cano_leaf _ _
    | false =>
     rw [h4, cond_false] at h
     cases h8 : (s == 8) with
     | true => rw [h8, cond_true] at h; rw [List.mem_singleton.1 h]; exact cano_leaf _ _
     | false =>
      rw [h8, cond_false, List.mem_flatMap] at h
      obtain ⟨p, _, h⟩ := h
      cases hp : (p != 0 && (p &&& s) == p) with
      | false => rw [hp] at h; cases h
      | true =>
       rw [hp, cond_true] at h
       obtain ⟨a, ha, b, hb, rfl⟩ := mem_joinL.1 h
       exact cano_node (all_cano n _ a ha) (all_cano n _ b hb)
theorem bits4b : ∀ x y : Fin 16, x.val ≠ 0 -> y.val ≠ 0 -> andI .i64 (x.val : Int) (y.val : Int) = 0 -> (x.val + y.val == 1) = false /\ (x.val + y.val == 2) = false /\ (x.val + y.val == 4) = false /\ (x.val + y.val == 8) = false /\ (x.val != 0 && (x.val &&& (x.val + y.val)) == x.val) = true := by decide +kernel
theorem all_mem : ∀ (k j : Nat) (t : D) (n : Nat), cano j t -> setK k t ≠ 0 -> k <= n -> t ∈ allK n (setK k t).toNat
 | 0, j, t, n, _, h, _ => absurd rfl h
 | k + 1, j, t, 0, _, _, h => by omega
 | k + 1, j, t, n + 1, hc, h, hn => by
  rcases may_shape hc h with ⟨m, rfl, hm⟩ | ⟨a, b, i, rfl, rfl, ca, cb, sa, sb, hand, hor⟩
  ·rw [setK_leaf (t := leafD m) rfl hm]
   unfold isOccB at hm
   rw [Bool.and_eq_true, decide_eq_true_eq, decide_eq_true_eq] at hm
   have : m = 0 \/ m = 1 \/ m = 2 \/ m = 3 := by omega
   show leafD m ∈ allK (n + 1) (shlI .i64 1 m).toNat
   rcases this with rfl | rfl | rfl | rfl
   ·rw [show (shlI .i64 1 0).toNat = 1 by decide]; exact List.mem_singleton.2 rfl
   ·rw [show (shlI .i64 1 1).toNat = 2 by decide]; exact List.mem_singleton.2 rfl
   ·rw [show (shlI .i64 1 2).toNat = 4 by decide]; exact List.mem_singleton.2 rfl
   ·rw [show (shlI .i64 1 3).toNat = 8 by decide]; exact List.mem_singleton.2 rfl
  ·have Ia := setK_in k a
   have Ib := setK_in k b
   obtain ⟨o1, _, _⟩ := (b4 Ia Ib).or hand
   have ma := all_mem k i a n ca sa (by omega)
   have mb := all_mem k i b n cb sb (by omega)
   rw [hor, o1]
   obtain ⟨x, hx⟩ := inT_fin Ia
   obtain ⟨y, hy⟩ := inT_fin Ib
   rw [hx] at sa hand ma ⊢
   rw [hy] at sb hand mb ⊢
   obtain ⟨q1, q2, q4, q8, qp⟩ := bits4b x y (by omega) (by omega) hand
   have e : ((x.val : Int) + (y.val : Int)).toNat = x.val + y.val := by omega
   have ex : ((x.val : Int)).toNat = x.val := by omega
   have ey : ((y.val : Int)).toNat = y.val := by omega
   rw [ex] at ma
   rw [ey] at mb
   rw [e, allK_succ, q1, q2, q4, q8, cond_false, cond_false, cond_false, cond_false, List.mem_flatMap]
   refine ⟨x.val, List.mem_range.2 (by omega), ?_⟩
   rw [qp, cond_true, show x.val + y.val - x.val = y.val by omega]
   exact mem_joinL.2 ⟨a, ma, b, mb, rfl⟩
theorem allT_eq {x : Int} (h1 : 1 <= x) (h2 : x <= 15) : allT x = allK 16 x.toNat := by
 unfold allT
 have : (decide (1 <= x) && decide (x <= 15)) = true := by rw [Bool.and_eq_true, decide_eq_true_eq, decide_eq_true_eq]; exact ⟨h1, h2⟩
 rw [this, cond_true]
/-- Any tree that may be, of a set, is one of all of it, and no other. -/
theorem all_found {x : Int} {j : Nat} {t : D} (h1 : 1 <= x) (h2 : x <= 15) (hc : cano j t) (hj : j <= 130) (hok : okT 130 t = true) : ((allT x).any fun y => eqT y t) = (setT t == x) := by
 have hchk := all_ok h1 h2
 simp only [allChk, Bool.and_eq_true, List.all_eq_true] at hchk
 have hone := hchk.1.1.1.1.1
 cases hs : (setT t == x) with
 | true =>
  have hs := eq_of_beq hs
  have hs4 : setK 4 t = x := hs
  rw [List.any_eq_true]
  refine ⟨t, ?_, eqK_refl 130 t hok⟩
  rw [allT_eq h1 h2, <- hs4]
  exact all_mem 4 j t 16 hc (by rw [hs4]; omega) (by omega)
 | false =>
  rw [List.any_eq_false]
  intro y hy he
  have hcy : cano 130 y := by
   rw [allT_eq h1 h2] at hy
   exact cano_le (all_cano 16 _ y hy) (by omega)
  have : y = t := eqK_eq hcy hc he
  subst this
  have := hone y hy
  simp only [oneChk, Bool.and_eq_true] at this
  rw [hs] at this
  cases this.1.1.1.2
end
/-! ### May, Set -/
def dupB (l : List D) : Bool := (List.range l.length).any fun i => (List.range i).any fun k => intD (l.getD k .nil) == intD (l.getD i .nil)
def rMay (t : D) : Bool := !(dupB (lvK 4 t).1) && (lvK 4 t).2
def bitI (x : Int) : Int := bif x == 0 then 1 else bif x == 1 then 2 else bif x == 2 then 4 else 8
def sumI (l : List D) : Int := (l.map fun d => bitI (intD d)).sum
def hasI (m : Int) (x : Int) : Bool := (m / bitI x) % 2 == 1
theorem bits4c : ∀ (x y : Fin 16) (b : Fin 4), (andI .i64 (x.val : Int) (y.val : Int) = 0 -> (hasI ((x.val : Int) + (y.val : Int)) (b.val : Int) = (hasI (x.val : Int) (b.val : Int) || hasI (y.val : Int) (b.val : Int))) /\ (hasI (x.val : Int) (b.val : Int) && hasI (y.val : Int) (b.val : Int)) = false) := by decide +kernel
theorem bits4d : ∀ (x y : Fin 16), (∀ b : Fin 4, (hasI (x.val : Int) (b.val : Int) && hasI (y.val : Int) (b.val : Int)) = false) -> andI .i64 (x.val : Int) (y.val : Int) = 0 := by decide +kernel
theorem bits4e : ∀ (m b : Fin 4), hasI (shlI .i64 1 (m.val : Int)) (b.val : Int) = (m.val == b.val) /\ shlI .i64 1 (m.val : Int) = bitI (m.val : Int) := by decide +kernel
/-- Which occurrences are there. -/
def occB (l : List D) (b : Nat) : Bool := l.any fun d => intD d == (b : Int)
def distinct : List D -> Prop
 | [] => True
 | x :: l => (∀ y ∈ l, intD y ≠ intD x) /\ distinct l
theorem distinct_append : ∀ {l m : List D}, distinct (l ++ m) ↔ distinct l /\ distinct m /\ ∀ x ∈ l, ∀ y ∈ m, intD y ≠ intD x
 | [], m => by simp [distinct]
 | x :: l, m => by
  show ((∀ y ∈ l ++ m, intD y ≠ intD x) /\ distinct (l ++ m)) ↔ ((∀ y ∈ l, intD y ≠ intD x) /\ distinct l) /\ distinct m /\ _
  rw [distinct_append (l := l)]
  constructor
  ·rintro ⟨h1, h2, h3, h4⟩
   refine ⟨⟨fun y hy => h1 y (List.mem_append_left _ hy), h2⟩, h3, fun z hz y hy => ?_⟩
   rcases List.mem_cons.1 hz with rfl | hz
   ·exact h1 y (List.mem_append_right _ hy)
   ·exact h4 z hz y hy
  ·rintro ⟨⟨h1, h2⟩, h3, h4⟩
   refine ⟨fun y hy => ?_, h2, h3, fun z hz => h4 z (by simp [hz])⟩
   rcases List.mem_append.1 hy with hy | hy
   ·exact h1 y hy
   ·exact h4 x (by simp) y hy
theorem dupB_iff : ∀ (l : List D), dupB l = false ↔ distinct l := by
 intro l
 have key : ∀ l : List D, distinct l ↔ ∀ i k, i < l.length -> k < i -> intD (l.getD k .nil) ≠ intD (l.getD i .nil) := by
  intro l
  induction l with
  | nil => exact ⟨fun _ i k hi => by simp at hi, fun _ => trivial⟩
  | cons x l ih =>
   show ((∀ y ∈ l, intD y ≠ intD x) /\ distinct l) ↔ _
   rw [ih]
   constructor
   ·rintro ⟨h1, h2⟩ i k hi hk
    cases i with
    | zero => omega
    | succ i =>
     have hi' : i < l.length := by simpa using hi
     have e : (x :: l).getD (i + 1) .nil = l[i] := by simp [List.getD, hi']
     rw [e]
     cases k with
     | zero => exact fun h => h1 _ (List.getElem_mem hi') h.symm
     | succ k =>
      have := h2 i k hi' (by omega)
      rw [getD_lt hi'] at this
      exact this
   ·intro h
    refine ⟨fun y hy => ?_, fun i k hi hk => ?_⟩
    ·obtain ⟨i, hi, rfl⟩ := List.getElem_of_mem hy
     have := h (i + 1) 0 (by simpa using hi) (by omega)
     have e : (x :: l).getD (i + 1) .nil = l[i] := by simp [List.getD, hi]
     rw [e] at this
     exact fun hh => this hh.symm
    ·exact h (i + 1) (k + 1) (by simpa using hi) (by omega)
 rw [key]
 unfold dupB
 rw [List.any_eq_false]
 constructor
 ·intro h i k hi hk
  have := h i (List.mem_range.2 hi)
  rw [Bool.not_eq_true, List.any_eq_false] at this
  have := this k (List.mem_range.2 hk)
  simpa using this
 ·intro h i hi
  rw [Bool.not_eq_true, List.any_eq_false]
  intro k hk
  simpa using h i k (List.mem_range.1 hi) (List.mem_range.1 hk)
/-- What the leaves of a tree tell of its set. -/
theorem lv_set : ∀ (k : Nat) (t : D), (setK k t ≠ 0 -> (lvK k t).2 = true /\ distinct (lvK k t).1 /\ sumI (lvK k t).1 = setK k t /\ ∀ b : Fin 4, hasI (setK k t) (b.val : Int) = occB (lvK k t).1 b.val) /\
  ((lvK k t).2 = true -> distinct (lvK k t).1 -> setK k t ≠ 0) /\ ((lvK k t).2 = true -> ∀ d ∈ (lvK k t).1, ∃ b : Fin 4, intD d = (b.val : Int))
 | 0, t => ⟨fun h => absurd rfl h, fun h => (by cases h), fun h => (by cases h)⟩
 | k + 1, t => by
  cases h0 : (((tkids t).length : Int) == 0) with
  | true =>
   have hk : tkids t = [] := List.length_eq_zero_iff.1 (by have := eq_of_beq h0; omega)
   have hlv : lvK (k + 1) t = ([.lit (.int .i64 (tocc t))], decide (tocc t >= 0) && decide (tocc t <= 3)) := by rw [lvK_succ, h0, cond_true]
   have hocc : (decide (tocc t >= 0) && decide (tocc t <= 3)) = isOccB (tocc t) := by
    unfold isOccB
    congr 1
    by_cases h : tocc t <= 3
    ·have h1 : decide (tocc t <= 3) = true := by simpa using h
     have h2 : decide (tocc t < 4) = true := by rw [decide_eq_true_eq]; omega
     rw [h1, h2]
    ·have h1 : decide (tocc t <= 3) = false := by simpa using h
     have h2 : decide (tocc t < 4) = false := by rw [decide_eq_false_iff_not]; omega
     rw [h1, h2]
   rw [hlv, hocc]
   cases ho : isOccB (tocc t) with
   | false =>
    have hz : setK (k + 1) t = 0 := by
     rw [setK_succ, h0, ho]
     have : (((tkids t).length : Int) != 2) = true := by rw [hk]; decide
     rw [this]
     rfl
    rw [hz]
    exact ⟨fun h => absurd rfl h, fun h => (by cases h), fun h => (by cases h)⟩
   | true =>
    have hs := setK_leaf (k := k) hk ho
    have hm := ho
    unfold isOccB at hm
    rw [Bool.and_eq_true, decide_eq_true_eq, decide_eq_true_eq] at hm
    obtain ⟨m, hmm⟩ : ∃ m : Fin 4, tocc t = (m.val : Int) := ⟨⟨(tocc t).toNat, by omega⟩, by simp; omega⟩
    rw [hs, hmm]
    have hpos := occ_shl ho
    rw [hmm] at hpos
    refine ⟨fun _ => ⟨rfl, ⟨by simp, trivial⟩, ?_, fun b => ?_⟩, fun _ _ => by omega, fun _ d hd => ⟨m, by rw [List.mem_singleton.1 hd]; rfl⟩⟩
    ·rw [(bits4e m 0).2]
     show bitI (m.val : Int) + 0 = _
     omega
    ·rw [(bits4e m b).1]
     show _ = (((m.val : Int) == (b.val : Int)) || false)
     rw [Bool.or_false]
     by_cases h : m.val = b.val
     ·rw [h]; simp
     ·have h1 : (m.val == b.val) = false := by simpa using h
      have h2 : ((m.val : Int) == (b.val : Int)) = false := by rw [beq_eq_false_iff_ne]; omega
      rw [h1, h2]
  | false =>
   cases h2 : ((((tkids t).length : Int) != 2) || (tocc t != 0)) with
   | true =>
    have hlv : lvK (k + 1) t = ([], false) := by rw [lvK_succ, h0, h2]; rfl
    have hz : setK (k + 1) t = 0 := by rw [setK_succ, h0, h2]; rfl
    rw [hlv, hz]
    exact ⟨fun h => absurd rfl h, fun h => (by cases h), fun h => (by cases h)⟩
   | false =>
    rw [Bool.or_eq_false_iff] at h2
    have hl : ((tkids t).length : Int) = 2 := by simpa using h2.1
    have ho : tocc t = 0 := by simpa using h2.2
    match hk : tkids t, hl with
    | [], h => simp at h
    | [_], h => simp at h
    | _ :: _ :: _ :: l, h => simp only [List.length_cons] at h; omega
    | [a, b], _ =>
     have hlv : lvK (k + 1) t = ((lvK k a).1 ++ (lvK k b).1, (lvK k a).2 && (lvK k b).2) := by
      rw [lvK_succ, hk, ho]
      rfl
     obtain ⟨a1, a2, a3⟩ := lv_set k a
     obtain ⟨b1, b2, b3⟩ := lv_set k b
     have Ia := setK_in k a
     have Ib := setK_in k b
     obtain ⟨x, hx⟩ := inT_fin Ia
     obtain ⟨y, hy⟩ := inT_fin Ib
     rw [hlv]
     have hocc : ∀ q : Nat, occB ((lvK k a).1 ++ (lvK k b).1) q = (occB (lvK k a).1 q || occB (lvK k b).1 q) := fun q => by unfold occB; rw [List.any_append]
     refine ⟨fun h => ?_, fun hv hd => ?_, fun hv d hd => ?_⟩
     ·rcases set_cases k t with e | ⟨e1, _⟩ | ⟨a', b', e1, _, sa, sb, hand, e⟩
      ·exact absurd e h
      ·rw [hk] at e1; cases e1
      ·rw [hk] at e1
       cases e1
       obtain ⟨p1, p2, p3, p4⟩ := a1 sa
       obtain ⟨r1, r2, r3, r4⟩ := b1 sb
       obtain ⟨o1, _, _⟩ := (b4 Ia Ib).or hand
       have hand' := hand
       rw [hx, hy] at hand'
       rw [e, o1]
       refine ⟨by rw [p1, r1]; rfl, distinct_append.2 ⟨p2, r2, fun u hu v hv he => ?_⟩, ?_, fun q => ?_⟩
       ·obtain ⟨q, hq⟩ := a3 p1 u hu
        have h1 : hasI (setK k a) (q.val : Int) = true := by
         rw [p4 q]; unfold occB; rw [List.any_eq_true]; exact ⟨u, hu, by rw [hq]; simp⟩
        have h2 : hasI (setK k b) (q.val : Int) = true := by
         rw [r4 q]; unfold occB; rw [List.any_eq_true]; exact ⟨v, hv, by rw [he, hq]; simp⟩
        have := (bits4c x y q hand').2
        rw [<- hx, <- hy, h1, h2] at this
        cases this
       ·show sumI ((lvK k a).1 ++ (lvK k b).1) = _
        unfold sumI at p3 r3 ⊢
        rw [List.map_append, List.sum_append, p3, r3]
       ·have := (bits4c x y q hand').1
        rw [<- hx, <- hy] at this
        rw [this, p4 q, r4 q, hocc]
     ·have hv : ((lvK k a).2 && (lvK k b).2) = true := hv
      rw [Bool.and_eq_true] at hv
      obtain ⟨d1, d2, d3⟩ := distinct_append.1 hd
      have sa := a2 hv.1 d1
      have sb := b2 hv.2 d2
      obtain ⟨p1, p2, p3, p4⟩ := a1 sa
      obtain ⟨r1, r2, r3, r4⟩ := b1 sb
      have hand : andI .i64 (setK k a) (setK k b) = 0 := by
       rw [hx, hy]
       refine bits4d x y (fun q => ?_)
       rw [<- hx, <- hy, p4 q, r4 q]
       cases h1 : occB (lvK k a).1 q.val with
       | false => rfl
       | true =>
        cases h2 : occB (lvK k b).1 q.val with
        | false => rfl
        | true =>
         exfalso
         unfold occB at h1 h2
         rw [List.any_eq_true] at h1 h2
         obtain ⟨u, hu, hu2⟩ := h1
         obtain ⟨v, hv, hv2⟩ := h2
         exact d3 u hu v hv (by rw [eq_of_beq hu2, eq_of_beq hv2])
      rw [setK_node1 hk ho sa sb hand, ((b4 Ia Ib).or hand).1]
      have := Ia.1
      have := Ib.1
      omega
     ·have hv : ((lvK k a).2 && (lvK k b).2) = true := hv
      rw [Bool.and_eq_true] at hv
      rcases List.mem_append.1 hd with hd | hd
      ·exact a3 hv.1 d hd
      ·exact b3 hv.2 d hd
theorem rMay_eq (t : D) : rMay t = mayT t := by
 obtain ⟨h1, h2, _⟩ := lv_set 4 t
 unfold rMay mayT
 show _ = (setK 4 t != 0)
 by_cases h : setK 4 t = 0
 ·rw [h]
  show _ = false
  cases hv : (lvK 4 t).2 with
  | false => simp
  | true =>
   cases hd : dupB (lvK 4 t).1 with
   | true => rfl
   | false => exact absurd h (h2 hv ((dupB_iff _).1 hd))
 ·obtain ⟨p1, p2, _⟩ := h1 h
  have e : (setK 4 t != 0) = true := by rw [bne_iff_ne]; exact h
  rw [p1, (dupB_iff _).2 p2, e]
  rfl
theorem rSet_eq (t : D) : (bif mayT t then sumI (lvK 4 t).1 else 0) = setT t := by
 obtain ⟨h1, _, _⟩ := lv_set 4 t
 by_cases h : setK 4 t = 0
 ·have : mayT t = false := by unfold mayT setT; rw [h]; rfl
  rw [this]
  exact h.symm
 ·have : mayT t = true := by unfold mayT setT; rw [bne_iff_ne]; exact h
  rw [this, cond_true]
  exact (h1 h).2.2.1
end Go.Ev
