/- Layer 3: two runs merged in place. Nothing here is trusted. -/
import Derived.Test.YtjofcicaoofijaaBT6
import Derived.Test.YtjofcicaoofijaaVO
namespace Go.Proofs.Ytjofcicaoofijaa
open Go.Ev
set_option linter.unusedVariables false
set_option linter.unusedSimpArgs false

theorem sym_on {K N : Nat} {x1 x2 x3 v11 : Int} {es : List D} {m0 b : Nat} {R : List D} {x : D} : ∀ (n : Nat) (P S : List D), b = P.length + 1 + S.length → S.length < n → b + R.length ≤ 2147483648 →
    t43_lp9 Try.prog Try.f43 K N n x1 x2 x3 es (b : Int) v11 m0 (P.length : Int) (P ++ x :: (S ++ R)) = some (unitR, rowR (P ++ S ++ x :: R))
  | 0, P, S, _, h, _ => by omega
  | n + 1, P, S, hb, h, hbig => by
    have w0 : IntKind.wrap .i64 ((b : Int) - 1) = ((P.length + S.length : Nat) : Int) := by rw [l_wrapI (l_in (by omega) (by omega))]; omega
    rw [t43_lp9_step, w0]
    cases S with
    | nil =>
      have g1 : decide ((P.length : Int) < ((P.length + ([] : List D).length : Nat) : Int)) = false := l_ge (by simp)
      rw [g1, cond_false]
      simp [unitR, rowR]
    | cons y S =>
      simp only [List.length_cons] at hb h
      have hlen : (P ++ x :: (y :: S ++ R)).length = P.length + 2 + S.length + R.length := by simp; omega
      have g1 : decide ((P.length : Int) < ((P.length + (y :: S).length : Nat) : Int)) = true := l_lt (by simp)
      have w1 : IntKind.wrap .i64 ((P.length : Int) + 1) = ((P.length + 1 : Nat) : Int) := by rw [l_wrapI (l_in (by omega) (by omega))]; omega
      have i1 : (decide (0 ≤ (P.length : Int)) && decide ((P.length : Int) < ((P ++ x :: (y :: S ++ R)).length : Int))) = true := l_idx (by rw [hlen]; omega)
      have i2 : (decide (0 ≤ ((P.length + 1 : Nat) : Int)) && decide (((P.length + 1 : Nat) : Int) < ((P ++ x :: (y :: S ++ R)).length : Int))) = true := l_idx (by rw [hlen]; omega)
      rw [g1, w1, i1, i2, List.length_set, i2]
      simp only [cond_true, Int.toNat_natCast]
      have sw := l_swap P [] (S ++ R) x y (i := P.length) (j := P.length + 1) rfl (by simp)
      have f1 : P ++ x :: (y :: S ++ R) = P ++ x :: ([] ++ y :: (S ++ R)) := by simp
      rw [f1, sw]
      have key := sym_on (K := K) (N := N) (x1 := x1) (x2 := x2) (x3 := x3) (v11 := v11) (es := es) (m0 := m0) (b := b) (R := R) (x := x) n (P ++ [y]) S (by simp; omega) (by omega) hbig
      have e1 : (P ++ [y]).length = P.length + 1 := by simp
      rw [e1] at key
      rw [show P ++ y :: ([] ++ x :: (S ++ R)) = P ++ [y] ++ x :: (S ++ R) by simp, key]
      simp
theorem sym_back {K N : Nat} {x1 x2 x3 v15 : Int} {es : List D} {m0 a : Nat} {P : List D} {x : D} (ha : a = P.length) : ∀ (n : Nat) (S R : List D), S.length < n → P.length + S.length + 1 + R.length ≤ 2147483648 →
    t43_lp21 Try.prog Try.f43 K N n x1 x2 x3 es (a : Int) v15 m0 ((P.length + S.length : Nat) : Int) (P ++ S ++ x :: R) = some (unitR, rowR (P ++ x :: (S ++ R)))
  | 0, S, R, h, _ => by omega
  | n + 1, S, R, h, hbig => by
    rw [t43_lp21_step]
    rcases List.eq_nil_or_concat S with rfl | ⟨S0, y, rfl⟩
    · have g1 : decide (((P.length + ([] : List D).length : Nat) : Int) > (a : Int)) = false := by simp; omega
      rw [g1, cond_false]
      simp [unitR, rowR]
    · simp only [List.concat_eq_append] at *
      have hS : (S0 ++ [y]).length = S0.length + 1 := by simp
      rw [hS] at h hbig ⊢
      have hlen : (P ++ (S0 ++ [y]) ++ x :: R).length = P.length + S0.length + 2 + R.length := by simp; omega
      have g1 : decide (((P.length + (S0.length + 1) : Nat) : Int) > (a : Int)) = true := by simp; omega
      have w1 : IntKind.wrap .i64 (((P.length + (S0.length + 1) : Nat) : Int) - 1) = ((P.length + S0.length : Nat) : Int) := by rw [l_wrapI (l_in (by omega) (by omega))]; omega
      have i1 : (decide (0 ≤ ((P.length + (S0.length + 1) : Nat) : Int)) && decide (((P.length + (S0.length + 1) : Nat) : Int) < ((P ++ (S0 ++ [y]) ++ x :: R).length : Int))) = true := l_idx (by rw [hlen]; omega)
      have i2 : (decide (0 ≤ ((P.length + S0.length : Nat) : Int)) && decide (((P.length + S0.length : Nat) : Int) < ((P ++ (S0 ++ [y]) ++ x :: R).length : Int))) = true := l_idx (by rw [hlen]; omega)
      rw [g1, w1, i1, i2, List.length_set, i2]
      simp only [cond_true, Int.toNat_natCast]
      have sw := l_swap' (P ++ S0) [] R y x (i := P.length + S0.length) (j := P.length + (S0.length + 1)) (by simp) (by simp; omega)
      have f1 : P ++ (S0 ++ [y]) ++ x :: R = (P ++ S0) ++ y :: ([] ++ x :: R) := by simp
      rw [f1, sw]
      have key := sym_back (K := K) (N := N) (x1 := x1) (x2 := x2) (x3 := x3) (v15 := v15) (es := es) (m0 := m0) (a := a) (P := P) (x := x) ha n S0 (y :: R) (by omega) (by simp; omega)
      rw [show P ++ S0 ++ x :: ([] ++ y :: R) = P ++ S0 ++ x :: (y :: R) by simp, key]
      simp

section
variable {K : Nat} {l : List D} {A M B : Nat} (hAM : A < M) (hMB : M < B) (hB : B ≤ l.length) (hbig : l.length ≤ 2147483648) (hX : Srt keyE (seg A M l)) (hY : Srt keyE (seg M B l))
include hAM hMB hB hbig hX hY

theorem sym1 (h1 : M = A + 1) : t43_lp3 Try.prog Try.f43 K (l.length + 1) (l.length + 1) (A : Int) (M : Int) (B : Int) l (M : Int) (B : Int) = some (unitR, rowR (insL l (A : Int) (B : Int))) := by
  obtain ⟨s, n', s1, s2, p1, p2, hs⟩ := l_bin (fun n i j => t43_lp3 Try.prog Try.f43 K (l.length + 1) n (A : Int) (M : Int) (B : Int) l i j)
    (fun n i j => t43_lp9 Try.prog Try.f43 K (l.length + 1) (l.length + 1) (A : Int) (M : Int) (B : Int) l i j n (A : Int) l) (fun h => klt (kx l h) (kx l A)) M B
    (fun n i j q1 q2 q3 => by
      show t43_lp3 _ _ _ _ _ _ _ _ _ _ _ = _
      have w1 : IntKind.wrap .i64 ((((i + j) / 2 : Nat) : Int) + 1) = (((i + j) / 2 + 1 : Nat) : Int) := by rw [l_wrapI (l_in (by omega) (by omega))]; omega
      rw [t43_lp3_step, l_lt q2, l_mid (by omega), l_idx (by omega), l_idx (by omega), w1]
      simp only [cond_true, Int.toNat_natCast, against_kx])
    (fun n i q1 q2 => by
      show t43_lp3 _ _ _ _ _ _ _ _ _ _ _ = _
      rw [t43_lp3_step, l_ge (Nat.lt_irrefl i), cond_false])
    (l.length + 1) M B (Nat.le_refl _) (by omega) (Nat.le_refl _) (by omega) (.inl rfl) (.inl rfl)
  have hs : t43_lp3 Try.prog Try.f43 K (l.length + 1) (l.length + 1) (A : Int) (M : Int) (B : Int) l (M : Int) (B : Int) = t43_lp9 Try.prog Try.f43 K (l.length + 1) (l.length + 1) (A : Int) (M : Int) (B : Int) l (s : Int) (s : Int) n' (A : Int) l := hs
  rw [hs]
  subst h1
  rw [one_on hMB hB hY s1 s2 p1 p2]
  have hl : l = l.take A ++ l.getD A .nil :: (seg (A + 1) s l ++ (seg s B l ++ l.drop B)) := by
    conv => lhs; rw [seg_split l (a := A) (b := B) (by omega) hB, seg_cut l (a := A) (b := A + 1) (c := B) (by omega) (by omega), seg_cut l (a := A + 1) (b := s) (c := B) (by omega) (by omega)]
    have : seg A (A + 1) l = [l.getD A .nil] := by
      rw [l_get (by omega)]
      unfold seg
      rw [List.drop_eq_getElem_cons (by omega)]
      have : A + 1 - A = 1 := by omega
      rw [this]; rfl
    rw [this]
    simp only [List.append_assoc, List.cons_append, List.nil_append]
  have lA : (l.take A).length = A := by simp; omega
  have lS := seg_len l (a := A + 1) (b := s) s1 (by omega)
  have lR := seg_len l (a := s) (b := B) s2 hB
  have key := sym_on (K := K) (N := l.length + 1) (x1 := (A : Int)) (x2 := ((A + 1 : Nat) : Int)) (x3 := (B : Int)) (v11 := (s : Int)) (es := l) (m0 := n') (b := s) (R := seg s B l ++ l.drop B) (x := l.getD A .nil) (l.length + 1) (l.take A) (seg (A + 1) s l) (by omega) (by omega) (by simp [lR]; omega)
  rw [← hl, lA] at key
  exact key
theorem sym2 (h1 : B = M + 1) : t43_lp15 Try.prog Try.f43 K (l.length + 1) (l.length + 1) (A : Int) (M : Int) (B : Int) l (A : Int) (M : Int) = some (unitR, rowR (insL l (A : Int) (B : Int))) := by
  obtain ⟨s, n', s1, s2, p1, p2, hs⟩ := l_bin (fun n i j => t43_lp15 Try.prog Try.f43 K (l.length + 1) n (A : Int) (M : Int) (B : Int) l i j)
    (fun n i j => t43_lp21 Try.prog Try.f43 K (l.length + 1) (l.length + 1) (A : Int) (M : Int) (B : Int) l i j n (M : Int) l) (fun h => !klt (kx l M) (kx l h)) A M
    (fun n i j q1 q2 q3 => by
      show t43_lp15 _ _ _ _ _ _ _ _ _ _ _ = _
      have w1 : IntKind.wrap .i64 ((((i + j) / 2 : Nat) : Int) + 1) = (((i + j) / 2 + 1 : Nat) : Int) := by rw [l_wrapI (l_in (by omega) (by omega))]; omega
      rw [t43_lp15_step, l_lt q2, l_mid (by omega), l_idx (by omega), l_idx (by omega), w1]
      simp only [cond_true, Int.toNat_natCast, against_kx])
    (fun n i q1 q2 => by
      show t43_lp15 _ _ _ _ _ _ _ _ _ _ _ = _
      rw [t43_lp15_step, l_ge (Nat.lt_irrefl i), cond_false])
    (l.length + 1) A M (Nat.le_refl _) (by omega) (Nat.le_refl _) (by omega) (.inl rfl) (.inl rfl)
  have hs : t43_lp15 Try.prog Try.f43 K (l.length + 1) (l.length + 1) (A : Int) (M : Int) (B : Int) l (A : Int) (M : Int) = t43_lp21 Try.prog Try.f43 K (l.length + 1) (l.length + 1) (A : Int) (M : Int) (B : Int) l (s : Int) (s : Int) n' (M : Int) l := hs
  rw [hs]
  subst h1
  rw [one_back hAM hB hX s1 s2 (p1.imp id fun h => by simpa using h) (p2.imp id fun h => by simpa using h)]
  have hl : l = l.take A ++ seg A s l ++ seg s M l ++ l.getD M .nil :: l.drop (M + 1) := by
    conv => lhs; rw [seg_split l (a := A) (b := M + 1) (by omega) hB, seg_cut l (a := A) (b := M) (c := M + 1) (by omega) (by omega), seg_cut l (a := A) (b := s) (c := M) (by omega) (by omega)]
    have : seg M (M + 1) l = [l.getD M .nil] := by
      rw [l_get (by omega)]
      unfold seg
      rw [List.drop_eq_getElem_cons (by omega)]
      have : M + 1 - M = 1 := by omega
      rw [this]; rfl
    rw [this]
    simp only [List.append_assoc, List.cons_append, List.nil_append]
  have lA : (l.take A).length = A := by simp; omega
  have lS := seg_len l (a := A) (b := s) s1 (by omega)
  have lR := seg_len l (a := s) (b := M) s2 (by omega)
  have lP : (l.take A ++ seg A s l).length = s := by simp only [List.length_append]; omega
  have key := sym_back (K := K) (N := l.length + 1) (x1 := (A : Int)) (x2 := (M : Int)) (x3 := ((M + 1 : Nat) : Int)) (v15 := (s : Int)) (es := l) (m0 := n') (a := s) (P := l.take A ++ seg A s l) (x := l.getD M .nil) lP.symm (l.length + 1) (seg s M l) (l.drop (M + 1)) (by omega) (by rw [lP, lR]; simp; omega)
  rw [← hl, lP, lR] at key
  have e1 : s + (M - s) = M := by omega
  rw [e1] at key
  exact key
theorem sym3 (hK : B - A ≤ K) {lo hi : Nat} (hlo : A ≤ lo) (hhi : hi ≤ M) (hhi' : hi ≤ (A + B) / 2) (hlh : lo ≤ hi) (hend : (A + B) / 2 + M ≤ B + lo) (e1 : lo = A ∨ (A + B) / 2 + M = B + lo) (e2 : hi = M ∨ hi = (A + B) / 2) :
    t43_lp33 Try.prog Try.f43 K (l.length + 1) (l.length + 1) (A : Int) (M : Int) (B : Int) l (lo : Int) (hi : Int) = some (unitR, rowR (insL l (A : Int) (B : Int))) := by
  have wm : IntKind.wrap .i64 ((((A + B) / 2 : Nat) : Int) + (M : Int)) = (((A + B) / 2 + M : Nat) : Int) := by rw [l_wrapI (l_in (by omega) (by omega))]; omega
  have wn : IntKind.wrap .i64 ((((A + B) / 2 + M : Nat) : Int) - 1) = (((A + B) / 2 + M - 1 : Nat) : Int) := by rw [l_wrapI (l_in (by omega) (by omega))]; omega
  obtain ⟨s, n', s1, s2, p1, p2, hs⟩ := l_bin (fun n i j => t43_lp33 Try.prog Try.f43 K (l.length + 1) n (A : Int) (M : Int) (B : Int) l i j)
    (fun n i j => tl1 (fun m => some (unitR, rowR m)) K (A : Int) i (M : Int) (IntKind.wrap .i64 ((((A + B) / 2 + M : Nat) : Int) - i)) (((A + B) / 2 : Nat) : Int) (B : Int) l) (fun h => !klt (kx l ((A + B) / 2 + M - 1 - h)) (kx l h)) lo hi
    (fun n i j q1 q2 q3 => by
      show t43_lp33 _ _ _ _ _ _ _ _ _ _ _ = _
      have w1 : IntKind.wrap .i64 ((((i + j) / 2 : Nat) : Int) + 1) = (((i + j) / 2 + 1 : Nat) : Int) := by rw [l_wrapI (l_in (by omega) (by omega))]; omega
      have w2 : IntKind.wrap .i64 ((((A + B) / 2 + M - 1 : Nat) : Int) - (((i + j) / 2 : Nat) : Int)) = (((A + B) / 2 + M - 1 - (i + j) / 2 : Nat) : Int) := by rw [l_wrapI (l_in (by omega) (by omega))]; omega
      rw [t43_lp33_step, l_lt q2, cond_true, l_mid (i := A) (j := B) (by omega), l_mid (i := i) (j := j) (by omega), wm, wn, w2, l_idx (by omega), l_idx (by omega), w1]
      simp only [cond_true, Int.toNat_natCast, against_kx])
    (fun n i q1 q2 => by
      show t43_lp33 _ _ _ _ _ _ _ _ _ _ _ = _
      rw [t43_lp33_step, l_ge (Nat.lt_irrefl i), cond_false, l_mid (i := A) (j := B) (by omega), wm]
      rfl)
    (l.length + 1) lo hi (Nat.le_refl _) hlh (Nat.le_refl _) (by omega) (.inl rfl) (.inl rfl)
  have hs : t43_lp33 Try.prog Try.f43 K (l.length + 1) (l.length + 1) (A : Int) (M : Int) (B : Int) l (lo : Int) (hi : Int) = tl1 (fun m => some (unitR, rowR m)) K (A : Int) (s : Int) (M : Int) (IntKind.wrap .i64 ((((A + B) / 2 + M : Nat) : Int) - (s : Int))) (((A + B) / 2 : Nat) : Int) (B : Int) l := hs
  have we : IntKind.wrap .i64 ((((A + B) / 2 + M : Nat) : Int) - (s : Int)) = (((A + B) / 2 + M - s : Nat) : Int) := by rw [l_wrapI (l_in (by omega) (by omega))]; omega
  rw [hs, we]
  refine tl1_end (fun m => some (unitR, rowR m)) K hAM hMB hB hbig hX hY hK (by omega) (by omega) (by omega) (by omega) ?_ ?_
  · rcases p1 with p1 | p1
    · rcases e1 with e1 | e1
      · exact .inl (by omega)
      · exact .inr (.inl (by omega))
    · by_cases h0 : s = A
      · exact .inl h0
      · refine .inr (.inr ?_)
        have : (A + B) / 2 + M - 1 - (s - 1) = (A + B) / 2 + M - s := by omega
        simpa [this] using p1
  · rcases p2 with p2 | p2
    · rcases e2 with e2 | e2
      · exact .inl (by omega)
      · exact .inr (.inl (by omega))
    · exact .inr (.inr (by simpa using p2))
end

theorem k43 : FnOK Try.prog 43 Try.f43 := ⟨Try.func43, rfl, by kernel_rfl⟩
theorem c43 : ∀ (K : Nat) args hh r h', preH a46 b42 (q43 K) args hh = true → entH a46 b42 g43 args hh = some (r, h') → HCallOK Try.prog 43 args hh r h'
  | 0 => by
    refine entH_ok rfl rfl fun ds es r h' hq hd => ?_
    unfold q43 at hq
    split at hq
    · rename_i z a b m f e
      rw [Bool.and_eq_true] at hq
      have hq := hq.2
      simp only [symOK, Bool.and_eq_true, decide_eq_true_eq] at hq
      omega
    · cases hq
  | K + 1 => by
    refine entH_ok rfl rfl fun ds es r h' hq hd => ?_
    unfold q43 at hq
    split at hq
    · rename_i z a b m f e
      cases hd
      rw [Bool.and_eq_true] at hq
      refine HCallOK.typedR k43.ex fun ht _ hr => ?_
      obtain ⟨_, t1⟩ := ht (dat 3 a) (by simp [fillA, a46, dat, bxp]) rfl
      obtain ⟨_, t2⟩ := ht (dat 3 b) (by simp [fillA, a46, dat, bxp]) rfl
      obtain ⟨_, t4⟩ := ht (dat 3 m) (by simp [fillA, a46, dat, bxp]) rfl
      obtain ⟨_, t3⟩ := ht (dat 52 f) (by simp [fillA, a46, dat, bxp]) rfl
      obtain ⟨el, l, _, hl, _⟩ := hr ⟨44, e, 3, none⟩ (by simp [fillE, b42]) (by simp)
      have hl : e = .slice l [] := hl
      subst hl
      obtain ⟨i1, rfl, _⟩ := ty3' t1
      obtain ⟨i2, rfl, _⟩ := ty3' t2
      obtain ⟨i3, rfl, _⟩ := ty3' t4
      rw [isF_eq (show Ty Try.prog _ 52 f from t3) hq.1]
      have hq : symOK (K + 1) l i1 i2 i3 = true := hq.2
      simp only [symOK, Bool.and_eq_true, decide_eq_true_eq, srtB_iff] at hq
      obtain ⟨⟨⟨⟨⟨⟨⟨g1, g2⟩, g3⟩, g4⟩, g5⟩, g6⟩, hX⟩, hY⟩ := hq
      obtain ⟨A, hA⟩ : ∃ A : Nat, i1 = (A : Int) := ⟨i1.toNat, by omega⟩
      obtain ⟨M, hM⟩ : ∃ M : Nat, i2 = (M : Int) := ⟨i2.toNat, by omega⟩
      obtain ⟨B, hB⟩ : ∃ B : Nat, i3 = (B : Int) := ⟨i3.toNat, by omega⟩
      subst hA hM hB
      rw [Int.toNat_natCast, Int.toNat_natCast] at hX hY
      refine fnH_ok hm (envOK_consH envH5r (c43 K)) k43 ((t43 K (l.length + 1) (A : Int) (M : Int) (B : Int) l).trans ?_)
      show _ = some (unitR, rowR (insL l (A : Int) (B : Int)))
      have w1 : IntKind.wrap .i64 ((M : Int) - (A : Int)) = ((M - A : Nat) : Int) := by rw [l_wrapI (l_in (by omega) (by omega))]; omega
      have w2 : IntKind.wrap .i64 ((B : Int) - (M : Int)) = ((B - M : Nat) : Int) := by rw [l_wrapI (l_in (by omega) (by omega))]; omega
      rw [w1, w2, l_mid (i := A) (j := B) (by omega)]
      by_cases c1 : M = A + 1
      · have : (((M - A : Nat) : Int) == 1) = true := by rw [beq_iff_eq]; omega
        rw [this, cond_true]
        exact sym1 (by omega) (by omega) (by omega) g5 hX hY c1
      · have : (((M - A : Nat) : Int) == 1) = false := by rw [beq_eq_false_iff_ne]; omega
        rw [this, cond_false]
        by_cases c2 : B = M + 1
        · have : (((B - M : Nat) : Int) == 1) = true := by rw [beq_iff_eq]; omega
          rw [this, cond_true]
          exact sym2 (by omega) (by omega) (by omega) g5 hX hY c2
        · have : (((B - M : Nat) : Int) == 1) = false := by rw [beq_eq_false_iff_ne]; omega
          rw [this, cond_false]
          by_cases c3 : M > (A + B) / 2
          · have : decide ((M : Int) > (((A + B) / 2 : Nat) : Int)) = true := by rw [decide_eq_true_eq]; omega
            have w3 : IntKind.wrap .i64 ((((A + B) / 2 : Nat) : Int) + (M : Int)) = (((A + B) / 2 + M : Nat) : Int) := by rw [l_wrapI (l_in (by omega) (by omega))]; omega
            have w4 : IntKind.wrap .i64 ((((A + B) / 2 + M : Nat) : Int) - (B : Int)) = (((A + B) / 2 + M - B : Nat) : Int) := by rw [l_wrapI (l_in (by omega) (by omega))]; omega
            rw [this, cond_true, w3, w4]
            exact sym3 (by omega) (by omega) (by omega) g5 hX hY (by omega) (by omega) (by omega) (by omega) (by omega) (by omega) (.inr (by omega)) (.inr rfl)
          · have : decide ((M : Int) > (((A + B) / 2 : Nat) : Int)) = false := by rw [decide_eq_false_iff_not]; omega
            rw [this, cond_false]
            exact sym3 (by omega) (by omega) (by omega) g5 hX hY (by omega) (by omega) (by omega) (by omega) (by omega) (by omega) (.inl rfl) (.inl rfl)
    · cases hq

/-- At every size. -/
def kBig : Nat := 2147483649
theorem envH5 : EnvOK Try.prog (envR B3 (H5 kBig) R3 []) := envOK_consH envH5r (c43 kBig)

end Go.Proofs.Ytjofcicaoofijaa
