/- Two runs merged in place: what the search finds, and what comes of it. Nothing here is trusted. -/
import Derived.Test.YtjofcicaoofijaaVN
namespace Go.Ev
set_option linter.unusedVariables false
set_option linter.unusedSimpArgs false

theorem l_mid {i j : Nat} (h : i + j ≤ 4611686018427387904) : IntKind.wrap .i64 (Int.fdiv (IntKind.wrap .u64 (IntKind.wrap .i64 ((i : Int) + (j : Int)))) (2 ^ min (1 : Int).toNat (IntKind.bits .u64))) = (((i + j) / 2 : Nat) : Int) := by
  have w1 : IntKind.wrap .i64 ((i : Int) + (j : Int)) = (i : Int) + (j : Int) := l_wrapI (l_in (by omega) (by omega))
  rw [w1]
  have w2 : IntKind.wrap .u64 ((i : Int) + (j : Int)) = ((i + j : Nat) : Int) := by
    show (((i : Int) + (j : Int)) % (2 ^ 64) : Int) = _
    rw [Int.emod_eq_of_lt (by omega) (by omega)]; omega
  have w3 : (2 ^ min (1 : Int).toNat (IntKind.bits .u64) : Int) = 2 := rfl
  rw [w2, w3, show Int.fdiv ((i + j : Nat) : Int) 2 = (((i + j) / 2 : Nat) : Int) from by rw [Int.fdiv_eq_ediv_of_nonneg _ (by omega)]; omega]
  exact l_wrapI (l_in (by omega) (by omega))

/-- Halving. -/
theorem l_bin {ρ : Type} (LP E : Nat → Int → Int → ρ) (p : Nat → Bool) (lo hi : Nat)
    (step : ∀ (n i j : Nat), lo ≤ i → i < j → j ≤ hi → LP (n + 1) (i : Int) (j : Int) = bif p ((i + j) / 2) then LP n (((i + j) / 2 + 1 : Nat) : Int) (j : Int) else LP n (i : Int) (((i + j) / 2 : Nat) : Int))
    (stop : ∀ (n i : Nat), lo ≤ i → i ≤ hi → LP (n + 1) (i : Int) (i : Int) = E n (i : Int) (i : Int)) :
    ∀ (n i j : Nat), lo ≤ i → i ≤ j → j ≤ hi → j - i < n → (i = lo ∨ p (i - 1) = true) → (j = hi ∨ p j = false) →
      ∃ s n', i ≤ s ∧ s ≤ j ∧ (s = lo ∨ p (s - 1) = true) ∧ (s = hi ∨ p s = false) ∧ LP n (i : Int) (j : Int) = E n' (s : Int) (s : Int)
  | 0, i, j, _, _, _, h, _, _ => by omega
  | n + 1, i, j, h1, h2, h3, h, g1, g2 => by
    by_cases hij : i < j
    · rw [step n i j h1 hij h3]
      cases hp : p ((i + j) / 2)
      · rw [cond_false]
        obtain ⟨s, n', a, b, c⟩ := l_bin LP E p lo hi step stop n i ((i + j) / 2) h1 (by omega) (by omega) (by omega) g1 (Or.inr hp)
        exact ⟨s, n', a, by omega, c⟩
      · rw [cond_true]
        obtain ⟨s, n', a, b, c⟩ := l_bin LP E p lo hi step stop n ((i + j) / 2 + 1) j (by omega) (by omega) h3 (by omega) (Or.inr (by rw [Nat.add_sub_cancel]; exact hp)) g2
        exact ⟨s, n', by omega, b, c⟩
    · obtain rfl : i = j := by omega
      exact ⟨i, n, Nat.le_refl _, Nat.le_refl _, g1, g2, stop n i h1 h3⟩

def kx (l : List D) (i : Nat) : Key := keyE (l.getD i .nil)
theorem mem_seg {l : List D} {a b : Nat} {x : D} (h : x ∈ seg a b l) : ∃ i, a ≤ i ∧ i < b ∧ i < l.length ∧ keyE x = kx l i := by
  unfold seg at h
  obtain ⟨k, hk, rfl⟩ := List.mem_iff_getElem.1 h
  have hk' := hk
  simp only [List.length_take, List.length_drop] at hk'
  refine ⟨a + k, by omega, by omega, by omega, ?_⟩
  unfold kx
  rw [l_get (by omega)]
  simp
theorem srt_seg {l : List D} {a b : Nat} (h : Srt keyE (seg a b l)) (hb : b ≤ l.length) {i j : Nat} (h1 : a ≤ i) (h2 : i ≤ j) (h3 : j < b) : klt (kx l j) (kx l i) = false := by
  rcases Nat.lt_or_eq_of_le h2 with h2 | rfl
  · have hl := seg_len l (a := a) (b := b) (by omega) hb
    have := List.pairwise_iff_getElem.1 h (i - a) (j - a) (by omega) (by omega) (by omega)
    simp only [seg, List.getElem_take, List.getElem_drop] at this
    unfold kx
    rw [l_get (by omega), l_get (by omega)]
    have e1 : a + (i - a) = i := by omega
    have e2 : a + (j - a) = j := by omega
    simpa only [e1, e2] using this
  · exact klt_irrefl _
theorem against_kx (l : List D) (i j : Nat) : decide (againstI (fieldD (l.getD i .nil) 0) (fieldD (l.getD j .nil) 0) < 0) = klt (kx l i) (kx l j) := against_lt _ _

theorem insL_of (P W R : List D) {a b : Int} (ha : a = (P.length : Int)) (hb : b = ((P.length + W.length : Nat) : Int)) : insL (P ++ W ++ R) a b = P ++ sortK keyE W ++ R := by
  subst ha hb
  unfold insL putSeg
  rw [Int.toNat_natCast, Int.toNat_natCast, seg_of rfl rfl, take_of rfl, drop_of rfl]
theorem insL_id (P W R : List D) {a b : Int} (ha : a = (P.length : Int)) (hb : b = ((P.length + W.length : Nat) : Int)) (h : Srt keyE W) : insL (P ++ W ++ R) a b = P ++ W ++ R := by
  rw [insL_of P W R ha hb, sortK_of_srt h]
theorem symOK_of {K : Nat} (P X Y R : List D) {a m b : Int} (ha : a = (P.length : Int)) (hm : m = ((P.length + X.length : Nat) : Int)) (hb : b = ((P.length + X.length + Y.length : Nat) : Int)) (hx : 0 < X.length) (hy : 0 < Y.length)
    (h1 : Srt keyE X) (h2 : Srt keyE Y) (hK : X.length + Y.length < K) (hbig : (P ++ X ++ Y ++ R).length ≤ 2147483648) : symOK K (P ++ X ++ Y ++ R) a m b = true := by
  subst ha hm hb
  have s1 : seg P.length (P.length + X.length) (P ++ X ++ Y ++ R) = X := by rw [show P ++ X ++ Y ++ R = P ++ X ++ (Y ++ R) by simp]; exact seg_of rfl rfl
  have s2 : seg (P.length + X.length) (P.length + X.length + Y.length) (P ++ X ++ Y ++ R) = Y := seg_of (A := P ++ X) (by simp) (by simp)
  simp only [List.length_append] at hbig
  unfold symOK
  simp only [Int.toNat_natCast, s1, s2, srtB_iff.2 h1, srtB_iff.2 h2, Bool.and_true, Bool.and_eq_true, decide_eq_true_eq, List.length_append]
  refine ⟨⟨⟨⟨⟨?_, ?_⟩, ?_⟩, ?_⟩, ?_⟩, ?_⟩ <;> omega

section
variable {ρ : Type} (F : List D → Option ρ) (K : Nat)
def tl3 (A s M e mid B : Int) (l : List D) : Option ρ := bif ((decide (mid < e)) == true) then bif decide (e < B) then bif symOK K l mid e B then F (insL l mid B) else none else F l else F l
def tl2 (A s M e mid B : Int) (l : List D) : Option ρ := bif ((decide (A < s)) == true) then bif decide (s < mid) then bif symOK K l A s mid then tl3 F K A s M e mid B (insL l A mid) else none else tl3 F K A s M e mid B l else tl3 F K A s M e mid B l
def tl1 (A s M e mid B : Int) (l : List D) : Option ρ := bif ((decide (s < M)) == true) then bif decide (M < e) then bif rotOK l s M e then tl2 F K A s M e mid B (rotL l s M e) else none else tl2 F K A s M e mid B l else tl2 F K A s M e mid B l

theorem tl3_of (A s M : Int) (P X Y R : List D) {mid e B : Int} (ha : mid = (P.length : Int)) (hm : e = ((P.length + X.length : Nat) : Int)) (hb : B = ((P.length + X.length + Y.length : Nat) : Int))
    (h1 : Srt keyE X) (h2 : Srt keyE Y) (hK : X.length + Y.length < K) (hbig : (P ++ X ++ Y ++ R).length ≤ 2147483648) : tl3 F K A s M e mid B (P ++ X ++ Y ++ R) = F (P ++ sortK keyE (X ++ Y) ++ R) := by
  unfold tl3
  have e0 : P ++ X ++ Y ++ R = P ++ (X ++ Y) ++ R := by simp
  by_cases hx : 0 < X.length
  · have g1 : decide (mid < e) = true := by rw [decide_eq_true_eq, ha, hm]; omega
    by_cases hy : 0 < Y.length
    · have g2 : decide (e < B) = true := by rw [decide_eq_true_eq, hb, hm]; omega
      rw [g1, g2, symOK_of P X Y R ha hm hb hx hy h1 h2 hK hbig, e0, insL_of P (X ++ Y) R ha (by rw [hb]; simp; omega)]
      rfl
    · have g2 : decide (e < B) = false := by rw [decide_eq_false_iff_not, hb, hm]; omega
      obtain rfl : Y = [] := List.length_eq_zero_iff.1 (by omega)
      rw [g1, g2, e0, List.append_nil, sortK_of_srt h1]
      rfl
  · have g1 : decide (mid < e) = false := by rw [decide_eq_false_iff_not, ha, hm]; omega
    obtain rfl : X = [] := List.length_eq_zero_iff.1 (by omega)
    rw [g1, e0, List.nil_append, sortK_of_srt h2]
    rfl
theorem tl2_of (M e B : Int) (P X Y Q : List D) {A s mid : Int} (ha : A = (P.length : Int)) (hm : s = ((P.length + X.length : Nat) : Int)) (hb : mid = ((P.length + X.length + Y.length : Nat) : Int))
    (h1 : Srt keyE X) (h2 : Srt keyE Y) (hK : X.length + Y.length < K) (hbig : (P ++ X ++ Y ++ Q).length ≤ 2147483648) : tl2 F K A s M e mid B (P ++ X ++ Y ++ Q) = tl3 F K A s M e mid B (P ++ sortK keyE (X ++ Y) ++ Q) := by
  unfold tl2
  have e0 : P ++ X ++ Y ++ Q = P ++ (X ++ Y) ++ Q := by simp
  by_cases hx : 0 < X.length
  · have g1 : decide (A < s) = true := by rw [decide_eq_true_eq, ha, hm]; omega
    by_cases hy : 0 < Y.length
    · have g2 : decide (s < mid) = true := by rw [decide_eq_true_eq, hb, hm]; omega
      rw [g1, g2, symOK_of P X Y Q ha hm hb hx hy h1 h2 hK hbig, e0, insL_of P (X ++ Y) Q ha (by rw [hb]; simp; omega)]
      rfl
    · have g2 : decide (s < mid) = false := by rw [decide_eq_false_iff_not, hb, hm]; omega
      obtain rfl : Y = [] := List.length_eq_zero_iff.1 (by omega)
      rw [g1, g2, e0, List.append_nil, sortK_of_srt h1]
      rfl
  · have g1 : decide (A < s) = false := by rw [decide_eq_false_iff_not, ha, hm]; omega
    obtain rfl : X = [] := List.length_eq_zero_iff.1 (by omega)
    rw [g1, e0, List.nil_append, sortK_of_srt h2]
    rfl
theorem tl1_of (A mid B : Int) (P X Y R : List D) {s M e : Int} (ha : s = (P.length : Int)) (hm : M = ((P.length + X.length : Nat) : Int)) (hb : e = ((P.length + X.length + Y.length : Nat) : Int))
    (hbig : (P ++ X ++ Y ++ R).length ≤ 2147483648) : tl1 F K A s M e mid B (P ++ X ++ Y ++ R) = tl2 F K A s M e mid B (P ++ Y ++ X ++ R) := by
  unfold tl1
  by_cases hx : 0 < X.length
  · have g1 : decide (s < M) = true := by rw [decide_eq_true_eq, ha, hm]; omega
    by_cases hy : 0 < Y.length
    · have g2 : decide (M < e) = true := by rw [decide_eq_true_eq, hb, hm]; omega
      have g3 : rotOK (P ++ X ++ Y ++ R) s M e = true := by
        simp only [List.length_append] at hbig
        simp only [rotOK, Bool.and_eq_true, decide_eq_true_eq, List.length_append, ha, hm, hb]
        refine ⟨⟨⟨⟨?_, ?_⟩, ?_⟩, ?_⟩, ?_⟩ <;> omega
      rw [g1, g2, g3, rotL_of P X Y R ha hm hb]
      rfl
    · have g2 : decide (M < e) = false := by rw [decide_eq_false_iff_not, hb, hm]; omega
      obtain rfl : Y = [] := List.length_eq_zero_iff.1 (by omega)
      rw [g1, g2]
      simp
  · have g1 : decide (s < M) = false := by rw [decide_eq_false_iff_not, ha, hm]; omega
    obtain rfl : X = [] := List.length_eq_zero_iff.1 (by omega)
    rw [g1]
    simp

theorem seg_cut (l : List D) {a b c : Nat} (h1 : a ≤ b) (h2 : b ≤ c) : seg a c l = seg a b l ++ seg b c l := by
  unfold seg
  have e : c - a = (b - a) + (c - b) := by omega
  rw [e, List.take_add, List.drop_drop]
  have : a + (b - a) = b := by omega
  rw [this]
theorem insL_nat (l : List D) (A B : Nat) : insL l (A : Int) (B : Int) = l.take A ++ sortK keyE (seg A B l) ++ l.drop B := by
  unfold insL putSeg
  rw [Int.toNat_natCast, Int.toNat_natCast]

/-- What comes of it, where the search has ended well. -/
theorem tl1_end {l : List D} {A M B s : Nat} (hAM : A < M) (hMB : M < B) (hB : B ≤ l.length) (hbig : l.length ≤ 2147483648) (hX : Srt keyE (seg A M l)) (hY : Srt keyE (seg M B l)) (hK : B - A ≤ K)
    (g1 : A ≤ s) (g2 : s ≤ M) (g3 : s ≤ (A + B) / 2) (g4 : (A + B) / 2 + M ≤ B + s)
    (p1 : s = A ∨ (A + B) / 2 + M = B + s ∨ klt (kx l ((A + B) / 2 + M - s)) (kx l (s - 1)) = false) (p2 : s = M ∨ s = (A + B) / 2 ∨ klt (kx l ((A + B) / 2 + M - 1 - s)) (kx l s) = true) :
    tl1 F K (A : Int) (s : Int) (M : Int) (((A + B) / 2 + M - s : Nat) : Int) (((A + B) / 2 : Nat) : Int) (B : Int) l = F (insL l (A : Int) (B : Int)) := by
  obtain ⟨mid, hmid⟩ : ∃ mid, mid = (A + B) / 2 := ⟨_, rfl⟩
  rw [← hmid] at g3 g4 p1 p2 ⊢
  obtain ⟨e, he⟩ : ∃ e, e = mid + M - s := ⟨_, rfl⟩
  rw [← he] at p1 ⊢
  have he' : mid + M - 1 - s = e - 1 := by omega
  rw [he'] at p2
  have c1 : M ≤ e := by omega
  have c2 : e ≤ B := by omega
  have hl : l = l.take A ++ seg A s l ++ seg s M l ++ seg M e l ++ seg e B l ++ l.drop B := by
    conv => lhs; rw [seg_split l (a := A) (b := B) (by omega) hB, seg_cut l (a := A) (b := M) (c := B) (by omega) (by omega), seg_cut l (a := A) (b := s) (c := M) (by omega) (by omega), seg_cut l (a := M) (b := e) (c := B) (by omega) (by omega)]
    simp only [List.append_assoc]
  have lA : (l.take A).length = A := by simp; omega
  have l1 := seg_len l (a := A) (b := s) (by omega) (by omega)
  have l2 := seg_len l (a := s) (b := M) (by omega) (by omega)
  have l3 := seg_len l (a := M) (b := e) (by omega) (by omega)
  have l4 := seg_len l (a := e) (b := B) (by omega) (by omega)
  have hX' := hX
  have hY' := hY
  rw [seg_cut l (a := A) (b := s) (c := M) (by omega) (by omega)] at hX
  rw [seg_cut l (a := M) (b := e) (c := B) (by omega) (by omega)] at hY
  obtain ⟨x1, x2, _⟩ := srt_app.1 hX
  obtain ⟨y1, y2, _⟩ := srt_app.1 hY
  have d1 : ∀ x ∈ seg A s l, ∀ y ∈ seg e B l, klt (keyE y) (keyE x) = false := by
    intro x hx y hy
    obtain ⟨i, i1, i2, _, hi⟩ := mem_seg hx
    obtain ⟨j, j1, j2, _, hj⟩ := mem_seg hy
    rw [hi, hj]
    rcases p1 with p1 | p1 | p1
    · omega
    · omega
    · exact nlt_trans (srt_seg hX' (by omega) (i := i) (j := s - 1) (by omega) (by omega) (by omega)) (nlt_trans p1 (srt_seg hY' hB (i := e) (j := j) (by omega) (by omega) (by omega)))
  have d2 : ∀ y ∈ seg M e l, ∀ x ∈ seg s M l, klt (keyE y) (keyE x) = true := by
    intro y hy x hx
    obtain ⟨i, i1, i2, _, hi⟩ := mem_seg hx
    obtain ⟨j, j1, j2, _, hj⟩ := mem_seg hy
    rw [hi, hj]
    rcases p2 with p2 | p2 | p2
    · omega
    · omega
    · exact lt_of_nlt_lt (srt_seg hY' hB (i := j) (j := e - 1) (by omega) (by omega) (by omega)) (lt_of_lt_nlt p2 (srt_seg hX' (by omega) (i := s) (j := i) (by omega) (by omega) (by omega)))
  have hbig' : (l.take A ++ seg A s l ++ seg s M l ++ seg M e l ++ seg e B l ++ l.drop B).length ≤ 2147483648 := by rw [← hl]; exact hbig
  have key : tl1 F K (A : Int) (s : Int) (M : Int) (e : Int) (mid : Int) (B : Int) (l.take A ++ seg A s l ++ seg s M l ++ seg M e l ++ seg e B l ++ l.drop B) = F (l.take A ++ sortK keyE (seg A s l ++ seg M e l) ++ sortK keyE (seg s M l ++ seg e B l) ++ l.drop B) := by
    simp only [List.length_append] at hbig'
    rw [show l.take A ++ seg A s l ++ seg s M l ++ seg M e l ++ seg e B l ++ l.drop B = (l.take A ++ seg A s l) ++ seg s M l ++ seg M e l ++ (seg e B l ++ l.drop B) by simp only [List.append_assoc],
      tl1_of F K (A : Int) (mid : Int) (B : Int) (l.take A ++ seg A s l) (seg s M l) (seg M e l) (seg e B l ++ l.drop B) (by simp only [List.length_append]; omega) (by simp only [List.length_append]; omega) (by simp only [List.length_append]; omega) (by simp only [List.length_append]; omega),
      show (l.take A ++ seg A s l) ++ seg M e l ++ seg s M l ++ (seg e B l ++ l.drop B) = l.take A ++ seg A s l ++ seg M e l ++ (seg s M l ++ seg e B l ++ l.drop B) by simp only [List.append_assoc],
      tl2_of F K (M : Int) (e : Int) (B : Int) (l.take A) (seg A s l) (seg M e l) (seg s M l ++ seg e B l ++ l.drop B) (by omega) (by omega) (by omega) x1 y1 (by omega) (by simp only [List.length_append]; omega),
      show l.take A ++ sortK keyE (seg A s l ++ seg M e l) ++ (seg s M l ++ seg e B l ++ l.drop B) = (l.take A ++ sortK keyE (seg A s l ++ seg M e l)) ++ seg s M l ++ seg e B l ++ l.drop B by simp only [List.append_assoc],
      tl3_of F K (A : Int) (s : Int) (M : Int) (l.take A ++ sortK keyE (seg A s l ++ seg M e l)) (seg s M l) (seg e B l) (l.drop B) (by simp only [List.length_append, sortK_len]; omega) (by simp only [List.length_append, sortK_len]; omega) (by simp only [List.length_append, sortK_len]; omega) x2 y2 (by omega) (by simp only [List.length_append, sortK_len]; omega)]
  rw [← hl] at key
  rw [key, insL_nat]
  have hh := halves (key := keyE) hX hY d1 d2 (sortK_srt _) (sortK_seq (seg A s l ++ seg M e l)) (sortK_srt _) (sortK_seq (seg s M l ++ seg e B l))
  have := sortK_eq hh.1 hh.2
  rw [seg_cut l (a := A) (b := M) (c := B) (by omega) (by omega), seg_cut l (a := A) (b := s) (c := M) (by omega) (by omega), seg_cut l (a := M) (b := e) (c := B) (by omega) (by omega), ← this]
  simp only [List.append_assoc]

/-- One before a run. -/
theorem one_on {l : List D} {A B s : Nat} (hAB : A + 1 < B) (hB : B ≤ l.length) (hY : Srt keyE (seg (A + 1) B l)) (g1 : A + 1 ≤ s) (g2 : s ≤ B)
    (p1 : s = A + 1 ∨ klt (kx l (s - 1)) (kx l A) = true) (p2 : s = B ∨ klt (kx l s) (kx l A) = false) : insL l (A : Int) (B : Int) = l.take A ++ seg (A + 1) s l ++ l.getD A .nil :: (seg s B l ++ l.drop B) := by
  have hh := move_on (key := keyE) (S1 := seg (A + 1) s l) (S2 := seg s B l) (x := l.getD A .nil) (by rw [← seg_cut l g1 g2]; exact hY) (by
    intro y hy
    obtain ⟨j, j1, j2, _, hj⟩ := mem_seg hy
    rw [hj]
    rcases p1 with p1 | p1
    · omega
    · exact lt_of_nlt_lt (srt_seg hY hB (i := j) (j := s - 1) (by omega) (by omega) (by omega)) p1) (by
    intro y hy
    obtain ⟨j, j1, j2, _, hj⟩ := mem_seg hy
    rw [hj]
    rcases p2 with p2 | p2
    · omega
    · exact nlt_trans p2 (srt_seg hY hB (i := s) (j := j) (by omega) (by omega) (by omega)))
  have h1 : seg A B l = l.getD A .nil :: (seg (A + 1) s l ++ seg s B l) := by
    rw [← seg_cut l g1 g2, seg_cut l (a := A) (b := A + 1) (c := B) (by omega) (by omega), l_get (by omega)]
    have : seg A (A + 1) l = [l[A]] := by
      unfold seg
      rw [List.drop_eq_getElem_cons (by omega)]
      have : A + 1 - A = 1 := by omega
      rw [this]; rfl
    rw [this]; rfl
  rw [insL_nat, h1, ← sortK_eq hh.1 hh.2]
  simp only [List.append_assoc, List.cons_append]
/-- One behind a run. -/
theorem one_back {l : List D} {A M s : Nat} (hAM : A < M) (hB : M + 1 ≤ l.length) (hX : Srt keyE (seg A M l)) (g1 : A ≤ s) (g2 : s ≤ M)
    (p1 : s = A ∨ klt (kx l M) (kx l (s - 1)) = false) (p2 : s = M ∨ klt (kx l M) (kx l s) = true) : insL l (A : Int) ((M + 1 : Nat) : Int) = l.take A ++ seg A s l ++ l.getD M .nil :: (seg s M l ++ l.drop (M + 1)) := by
  have hh := move_back (key := keyE) (S1 := seg A s l) (S2 := seg s M l) (x := l.getD M .nil) (by rw [← seg_cut l g1 g2]; exact hX) (by
    intro y hy
    obtain ⟨j, j1, j2, _, hj⟩ := mem_seg hy
    rw [hj]
    rcases p2 with p2 | p2
    · omega
    · exact lt_of_lt_nlt p2 (srt_seg hX (by omega) (i := s) (j := j) (by omega) (by omega) (by omega))) (by
    intro y hy
    obtain ⟨j, j1, j2, _, hj⟩ := mem_seg hy
    rw [hj]
    rcases p1 with p1 | p1
    · omega
    · exact nlt_trans (srt_seg hX (by omega) (i := j) (j := s - 1) (by omega) (by omega) (by omega)) p1)
  have h1 : seg A (M + 1) l = seg A s l ++ seg s M l ++ [l.getD M .nil] := by
    rw [← seg_cut l g1 g2, seg_cut l (a := A) (b := M) (c := M + 1) (by omega) (by omega), l_get (by omega)]
    have : seg M (M + 1) l = [l[M]] := by
      unfold seg
      rw [List.drop_eq_getElem_cons (by omega)]
      have : M + 1 - M = 1 := by omega
      rw [this]; rfl
    rw [this]
  rw [insL_nat, h1, ← sortK_eq hh.1 hh.2]
  simp only [List.append_assoc, List.cons_append]
end
end Go.Ev
