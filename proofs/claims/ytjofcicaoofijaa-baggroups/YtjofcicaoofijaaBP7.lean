/- Layer 3: Sort. Nothing here is trusted. -/
import Derived.Test.YtjofcicaoofijaaBT7
import Derived.Test.YtjofcicaoofijaaVR
namespace Go.Proofs.Ytjofcicaoofijaa
open Go.Ev
set_option linter.unusedVariables false
set_option linter.unusedSimpArgs false

section
variable {L : Nat} {es es0 : List D} (hL : L ≤ 2147483648)
include hL
theorem stb_in {N : Nat} {a7 a8 : Int} {b1 bq : List D} {m0 m1 s : Nat} (hs : 20 ≤ s) (hsL : s < L)
    (next : ∀ l : List D, l.length = L → SEq keyE l es0 → Blk (2 * s) l → t34_lp7 Try.prog Try.f34 N m1 (L : Int) es a7 a8 b1 m0 ((2 * s : Nat) : Int) l = some (unitR, rowR (sortK keyE es0))) :
    ∀ (n j : Nat) (l : List D), j * (2 * s) ≤ L → L - j * (2 * s) < n → l.length = L → SEq keyE l es0 → (∀ k, k < j → Srt keyE (seg (k * (2 * s)) ((k + 1) * (2 * s)) l)) → (∀ k, 2 * j ≤ k → Srt keyE (seg (k * s) ((k + 1) * s) l)) →
      t34_lp9 Try.prog Try.f34 N n (L : Int) es a7 a8 b1 m0 (s : Int) bq m1 ((j * (2 * s) : Nat) : Int) (((j + 1) * (2 * s) : Nat) : Int) l = some (unitR, rowR (sortK keyE es0))
  | 0, j, l, _, h, _, _, _, _ => by omega
  | n + 1, j, l, hj, h, hl, hq, h1, h2 => by
    have e1 : (j + 1) * (2 * s) = j * (2 * s) + 2 * s := Nat.succ_mul _ _
    have e1' : (j + 1 + 1) * (2 * s) = (j + 1) * (2 * s) + 2 * s := Nat.succ_mul _ _
    have e2 : (2 * j + 1) * s = 2 * j * s + s := Nat.succ_mul _ _
    have e3 : (2 * j + 1 + 1) * s = (2 * j + 1) * s + s := Nat.succ_mul _ _
    have e4 := dbl_eq j s
    have w1 : IntKind.wrap .i64 (((j * (2 * s) : Nat) : Int) + (s : Int)) = (((2 * j + 1) * s : Nat) : Int) := by rw [l_wrapI (l_in (by omega) (by omega))]; omega
    have w2 : IntKind.wrap .i64 (2 * (s : Int)) = ((2 * s : Nat) : Int) := by rw [l_wrapI (l_in (by omega) (by omega))]; omega
    have w3 : IntKind.wrap .i64 ((s : Int) * 2) = ((2 * s : Nat) : Int) := by rw [l_wrapI (l_in (by omega) (by omega))]; omega
    have w4 : IntKind.wrap .i64 ((((j + 1) * (2 * s) : Nat) : Int) + ((2 * s : Nat) : Int)) = (((j + 1 + 1) * (2 * s) : Nat) : Int) := by rw [l_wrapI (l_in (by omega) (by omega))]; omega
    have s1 : Srt keyE (seg (j * (2 * s)) ((2 * j + 1) * s) l) := by have := h2 (2 * j) (Nat.le_refl _); rw [← e4] at this; exact this
    have s2 := h2 (2 * j + 1) (by omega)
    rw [t34_lp9_step, w1, w2, w3, w4]
    by_cases hb : (j + 1) * (2 * s) ≤ L
    · have g1 : decide ((((j + 1) * (2 * s) : Nat) : Int) ≤ (L : Int)) = true := by rw [decide_eq_true_eq]; omega
      have g2 : symOK kBig l ((j * (2 * s) : Nat) : Int) (((2 * j + 1) * s : Nat) : Int) (((j + 1) * (2 * s) : Nat) : Int) = true :=
        symOK_seg (by omega) (by omega) (by omega) (by omega) (by unfold kBig; omega) s1 (by rw [show (j + 1) * (2 * s) = (2 * j + 1 + 1) * s by omega]; exact s2)
      rw [g1, g2, cond_true, cond_true]
      exact stb_in hs hsL next n (j + 1) _ (by omega) (by omega) (by rw [len_ins (by omega) (by omega)]; exact hl) ((seq_ins (by omega) (by omega)).trans hq) (blk_step h1 (by omega)) (dbl_step h2 (by omega))
    · have g1 : decide ((((j + 1) * (2 * s) : Nat) : Int) ≤ (L : Int)) = false := by rw [decide_eq_false_iff_not]; omega
      rw [g1, cond_false]
      by_cases hm : (2 * j + 1) * s < L
      · have g2 : decide ((((2 * j + 1) * s : Nat) : Int) < (L : Int)) = true := by rw [decide_eq_true_eq]; omega
        have g3 : symOK kBig l ((j * (2 * s) : Nat) : Int) (((2 * j + 1) * s : Nat) : Int) (L : Int) = true :=
          symOK_seg (by omega) (by omega) (by omega) (by omega) (by unfold kBig; omega) s1 (by rw [seg_clip (by omega)] at s2 ⊢; exact s2)
        rw [g2, g3, cond_true, cond_true]
        have hlast := blk_last (s := 2 * s) (j := j) h1 (by omega) (by omega)
        rw [hl] at hlast
        exact next _ (by rw [len_ins (by omega) (by omega)]; exact hl) ((seq_ins (by omega) (by omega)).trans hq) hlast
      · have g2 : decide ((((2 * j + 1) * s : Nat) : Int) < (L : Int)) = false := by rw [decide_eq_false_iff_not]; omega
        rw [g2, cond_false]
        exact next l hl hq (dbl_none h1 h2 (by omega))
theorem stb_mid {N : Nat} {a7 a8 : Int} {b1 : List D} {m0 : Nat} (hN : L < N) : ∀ (n s : Nat) (l : List D), 20 ≤ s → L - s < n → l.length = L → SEq keyE l es0 → Blk s l →
    t34_lp7 Try.prog Try.f34 N n (L : Int) es a7 a8 b1 m0 (s : Int) l = some (unitR, rowR (sortK keyE es0))
  | 0, s, l, _, h, _, _, _ => by omega
  | n + 1, s, l, hs, h, hl, hq, hb => by
    rw [t34_lp7_step]
    by_cases hlt : s < L
    · have w2 : IntKind.wrap .i64 (2 * (s : Int)) = (((0 + 1) * (2 * s) : Nat) : Int) := by rw [l_wrapI (l_in (by omega) (by omega))]; omega
      rw [l_lt hlt, cond_true, w2]
      have := stb_in hL (N := N) (es := es) (es0 := es0) (a7 := a7) (a8 := a8) (b1 := b1) (bq := l) (m0 := m0) (m1 := n) (s := s) hs hlt (fun l' a b c => stb_mid hN n (2 * s) l' (by omega) (by omega) a b c) N 0 l (by omega) (by omega) hl hq (by omega) (fun k _ => hb k)
      rw [Nat.zero_mul] at this
      exact this
    · rw [l_ge hlt, cond_false, blk_done hb (by omega) hq]
      rfl
theorem stb_out {N : Nat} (hN : L < N) : ∀ (n j : Nat) (l : List D), j * 20 ≤ L → L - j * 20 < n → l.length = L → SEq keyE l es0 → (∀ k, k < j → Srt keyE (seg (k * 20) ((k + 1) * 20) l)) →
    t34_lp2 Try.prog Try.f34 N n (L : Int) es ((j * 20 : Nat) : Int) (((j + 1) * 20 : Nat) : Int) l = some (unitR, rowR (sortK keyE es0))
  | 0, j, l, _, h, _, _, _ => by omega
  | n + 1, j, l, hj, h, hl, hq, h1 => by
    have w1 : IntKind.wrap .i64 ((((j + 1) * 20 : Nat) : Int) + 20) = (((j + 1 + 1) * 20 : Nat) : Int) := by rw [l_wrapI (l_in (by omega) (by omega))]; omega
    rw [t34_lp2_step, w1]
    by_cases hb : (j + 1) * 20 ≤ L
    · have g1 : decide ((((j + 1) * 20 : Nat) : Int) ≤ (L : Int)) = true := by rw [decide_eq_true_eq]; omega
      rw [g1, insOK_nat (by omega) (by omega) (by omega), cond_true, cond_true]
      exact stb_out hN n (j + 1) _ (by omega) (by omega) (by rw [len_ins (by omega) (by omega)]; exact hl) ((seq_ins (by omega) (by omega)).trans hq) (blk_step h1 (by omega))
    · have g1 : decide ((((j + 1) * 20 : Nat) : Int) ≤ (L : Int)) = false := by rw [decide_eq_false_iff_not]; omega
      rw [g1, cond_false, insOK_nat (A := j * 20) (B := L) (by omega) (by omega) (by omega), cond_true]
      have hlast := blk_last (s := 20) (j := j) h1 (by omega) (by omega)
      rw [hl] at hlast
      exact stb_mid hL (es := es) (es0 := es0) hN N 20 _ (by omega) (by omega) (by rw [len_ins (by omega) (by omega)]; exact hl) ((seq_ins (by omega) (by omega)).trans hq) hlast
end

theorem k34 : FnOK Try.prog 34 Try.f34 := ⟨Try.func34, rfl, by kernel_rfl⟩
theorem c34 : ∀ args hh r h', preH a34 b42 q34 args hh = true → entH a34 b42 g34 args hh = some (r, h') → HCallOK Try.prog 34 args hh r h' := by
  refine entH_ok rfl rfl fun ds es r h' hq hd => ?_
  unfold q34 at hq
  split at hq
  · rename_i z a f e
    cases hd
    rw [Bool.and_eq_true] at hq
    refine HCallOK.typedR k34.ex fun ht _ hr => ?_
    obtain ⟨_, t1⟩ := ht (dat 3 a) (by simp [fillA, a34, dat, bxp]) rfl
    obtain ⟨_, t3⟩ := ht (dat 52 f) (by simp [fillA, a34, dat, bxp]) rfl
    obtain ⟨el, l, _, hl, _⟩ := hr ⟨44, e, 3, none⟩ (by simp [fillE, b42]) (by simp)
    have hl : e = .slice l [] := hl
    subst hl
    obtain ⟨i1, rfl, _⟩ := ty3' t1
    rw [isF_eq (show Ty Try.prog _ 52 f from t3) hq.1]
    have hq : stbOK l i1 = true := hq.2
    simp only [stbOK, Bool.and_eq_true, decide_eq_true_eq, beq_iff_eq] at hq
    obtain ⟨rfl, g⟩ := hq
    refine fnH_ok hm envH5 k34 ((t34 (l.length + 1) (l.length : Int) l).trans ?_)
    have := stb_out g (es := l) (es0 := l) (N := l.length + 1) (by omega) (l.length + 1) 0 l (by omega) (by omega) rfl (SEq.refl l) (by omega)
    exact this
  · cases hq
theorem envH6 : EnvOK Try.prog (envR B3 H6 R3 []) := envOK_consH envH5 c34
theorem k19 : FnOK Try.prog 19 Try.f19 := ⟨Try.func19, rfl, by kernel_rfl⟩
theorem c19 : ∀ args hh r h', preH a19 b42 q19 args hh = true → entH a19 b42 g19 args hh = some (r, h') → HCallOK Try.prog 19 args hh r h' := by
  refine entH_ok rfl rfl fun ds es r h' hq hd => ?_
  unfold q19 at hq
  split at hq
  · rename_i z f e
    cases hd
    rw [Bool.and_eq_true] at hq
    refine HCallOK.typedR k19.ex fun ht _ hr => ?_
    obtain ⟨_, t3⟩ := ht (dat 52 f) (by simp [fillA, a19, dat, bxp]) rfl
    obtain ⟨el, l, _, hl, _⟩ := hr ⟨44, e, 3, none⟩ (by simp [fillE, b42]) (by simp)
    have hl : e = .slice l [] := hl
    subst hl
    rw [isF_eq (show Ty Try.prog _ 52 f from t3) hq.1]
    have g : decide (l.length ≤ 2147483648) = true := hq.2
    refine fnH_ok hm envH6 k19 ((t19 1 l).trans ?_)
    have : stbOK l (l.length : Int) = true := by
      unfold stbOK
      rw [g]
      simp
    rw [this]
    rfl
  · cases hq
theorem envH7 : EnvOK Try.prog (envR B3 H7 R3 []) := envOK_consH envH6 c19

/-! ### Sort -/
def rkF (p : Int) (r : D) : D := .agg [rankD (elemsD r) p, r]
theorem rk_sort (p : Int) (rows : List D) : sortK keyE (rows.map (rkF p)) = (sortRows p rows).map (rkF p) := sortK_map keyE (rkF p) rows
theorem sort_out {N : Nat} {x0 : D} {x1 v23 : Int} {m0 : Nat} {rows : List D} {p : Int} (hc : (elemsD (fieldD x0 0)).length ≤ 2147483648) (hb : rows.length ≤ 2147483648) (hr : ∀ r ∈ rows, (elemsD r).length ≤ 2147483648) : ∀ (n i : Nat) (tl : List D), i ≤ rows.length → rows.length - i < n → tl.length = rows.length - i →
    t7_lp11 Try.prog Try.f7 N n x0 x1 v23 (rows.map (rkF p)) m0 (i : Int) (((sortRows p rows).take i).map id ++ tl) = some (dat 25 (.agg [fieldD x0 0, .slice (sortRows p rows) []]))
  | 0, i, tl, _, h, _ => by omega
  | n + 1, i, tl, hi, h, ht => by
    have hlen : (sortRows p rows).length = rows.length := sortK_len rows
    rw [t7_lp11_step, rk_sort, List.length_map, hlen]
    by_cases hlt : i < rows.length
    · have h2 : i < (sortRows p rows).length := by omega
      have hl2 : (((sortRows p rows).take i).map id ++ tl).length = rows.length := by simp; omega
      have e1 : fieldD (((sortRows p rows).map (rkF p)).getD i .nil) 1 = id (sortRows p rows)[i] := by
        rw [l_get (by simp; omega), List.getElem_map]
        rfl
      have g : decide ((elemsD (id (sortRows p rows)[i])).length ≤ 2147483648) = true := by
        rw [decide_eq_true_eq]
        exact hr _ (mem_sortK.1 (List.getElem_mem h2))
      rw [l_idx hlt, l_lt hlt, cond_true, cond_true, Int.toNat_natCast, e1, g, cond_true, hl2, l_idx hlt, cond_true, l_set id h2 (by omega)]
      have w1 : IntKind.wrap .i64 ((i : Int) + 1) = ((i + 1 : Nat) : Int) := by rw [l_wrapI (l_in (by omega) (by omega))]; omega
      rw [w1]
      exact sort_out hc hb hr n (i + 1) (tl.drop 1) (by omega) (by omega) (by simp; omega)
    · have htl : tl = [] := List.length_eq_zero_iff.1 (by omega)
      have g : decide ((elemsD (fieldD x0 0)).length ≤ 2147483648) = true := by rw [decide_eq_true_eq]; exact hc
      rw [l_ge hlt, cond_false, g, cond_true, htl, List.append_nil, List.map_id, List.take_of_length_le (by omega)]
theorem sort_in {N : Nat} {cs rows : List D} {x1 : Int} (hN : rows.length < N) (hc : cs.length ≤ 2147483648) (hb : rows.length ≤ 2147483648) (hr : ∀ r ∈ rows, (elemsD r).length ≤ 2147483648) : ∀ (n i : Nat) (tl : List D), i ≤ rows.length → rows.length - i < n → tl.length = rows.length - i →
    t7_lp4 Try.prog Try.f7 N n (bagD cs rows) x1 (i : Int) ((rows.take i).map (rkF (placeI cs x1)) ++ tl) = some (dat 25 (sortBag (bagD cs rows) x1))
  | 0, i, tl, _, h, _ => by omega
  | n + 1, i, tl, hi, h, ht => by
    rw [t7_lp4_step]
    have z1 : elemsD (fieldD (bagD cs rows) 1) = rows := rfl
    have z2 : Lib.idxOf ((elemsD (fieldD (bagD cs rows) 0)).map intD) x1 = placeI cs x1 := rfl
    rw [z1, z2]
    by_cases hlt : i < rows.length
    · have hl2 : ((rows.take i).map (rkF (placeI cs x1)) ++ tl).length = rows.length := by simp; omega
      have e1 : (DataW.agg [rankD (elemsD (rows.getD i .nil)) (placeI cs x1), rows.getD i .nil] : D) = rkF (placeI cs x1) rows[i] := by rw [l_get hlt]; rfl
      have w1 : IntKind.wrap .i64 ((i : Int) + 1) = ((i + 1 : Nat) : Int) := by rw [l_wrapI (l_in (by omega) (by omega))]; omega
      rw [l_idx hlt, l_lt hlt, cond_true, cond_true, hl2, l_idx hlt, cond_true, w1, Int.toNat_natCast, e1, l_set (rkF (placeI cs x1)) hlt ht]
      exact sort_in hN hc hb hr n (i + 1) (tl.drop 1) (by omega) (by omega) (by simp; omega)
    · have htl : tl = [] := List.length_eq_zero_iff.1 (by omega)
      have hlm : (rows.map (rkF (placeI cs x1))).length = rows.length := by simp
      have hlen : (sortRows (placeI cs x1) rows).length = rows.length := sortK_len rows
      have hi2 : i = rows.length := by omega
      rw [l_ge hlt, cond_false, htl, List.append_nil, hi2, List.take_length, hlm, rk_sort, List.length_map, hlen]
      have g1 : decide (rows.length ≤ 2147483648) = true := by rw [decide_eq_true_eq]; exact hb
      have g2 : (decide (0 ≤ (rows.length : Int)) && decide ((rows.length : Int) ≤ 2147483648)) = true := by simp only [Bool.and_eq_true, decide_eq_true_eq]; omega
      rw [g1, g2, cond_true, cond_true, Int.toNat_natCast]
      exact sort_out (x0 := bagD cs rows) (rows := rows) (p := placeI cs x1) hc hb hr N 0 _ (Nat.zero_le _) (by omega) (by simp)
theorem k7 : FnOK Try.prog 7 Try.f7 := ⟨Try.func7, rfl, by kernel_rfl⟩
theorem c7 : ∀ args d, e7.2.2.1 args = true → e7.2.2.2 args = some d → CallOK Try.prog 7 args (mkRes Try.prog 25 d) :=
  ent2p k7 fun x y d hq h ⟨_, hx⟩ _ => by
    cases h
    rw [nB, n3]
    obtain ⟨cs, rs, rfl, h1, h2, h3, h4⟩ := tyB hx
    simp only [sortOK, Bool.and_eq_true, decide_eq_true_eq, List.all_eq_true] at hq
    obtain ⟨⟨g1, g2⟩, g3⟩ := hq
    have g1 : rs.length ≤ 2147483648 := g1
    refine fn_ok hm envH7 k7 ((t7 (rs.length + 1) (bagD cs rs) (intD y)).trans ?_)
    rw [mB]
    have c1 : (decide (0 ≤ ((elemsD (fieldD (bagD cs rs) 1)).length : Int)) && decide (((elemsD (fieldD (bagD cs rs) 1)).length : Int) ≤ 2147483648)) = true := by
      show (decide (0 ≤ (rs.length : Int)) && decide ((rs.length : Int) ≤ 2147483648)) = true
      simp only [Bool.and_eq_true, decide_eq_true_eq]; omega
    rw [c1, cond_true, Int.toNat_natCast]
    exact sort_in (N := rs.length + 1) (cs := cs) (rows := rs) (x1 := intD y) (by omega) g2 g1 g3 (rs.length + 1) 0 _ (Nat.zero_le _) (by omega) (by rw [List.length_replicate]; rfl)
theorem envB5 : EnvOK Try.prog (envR B5 H7 R3 []) := envOK_cons' (envOK_cons envH7 c9) c7

end Go.Proofs.Ytjofcicaoofijaa
