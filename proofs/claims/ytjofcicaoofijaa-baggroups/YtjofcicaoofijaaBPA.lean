/- BagGroups: what a call answers. Nothing here is trusted. -/
import Derived.Test.YtjofcicaoofijaaBTA
import Derived.Test.YtjofcicaoofijaaBP8
namespace Go.Proofs.Ytjofcicaoofijaa
open Go.Ev
set_option linter.unusedVariables false
set_option linter.unusedSimpArgs false

theorem grow_len (cs : List D) (p : Int) (sums ch : List D) : (elemsD (grow cs p sums ch)).length = sums.length + 2 := by simp [grow, elemsD, summedL]
theorem grow_cnt (cs : List D) (p : Int) (sums ch : List D) : intD (fieldD ((elemsD (grow cs p sums ch)).getD 1 .nil) 1) = (ch.length : Int) := rfl
theorem getD_map (f : List D → D) (C : List (List D)) {i : Nat} (h : i < C.length) : (C.map f).getD i .nil = f (C.getD i []) := by
  simp [List.getD, h]
theorem law_loop {N : Nat} {cs rs : List D} {c : Int} {x2 : D} (hok : groupOK (bagD cs rs) c (elemsD x2) = true) (hm : MayBag cs rs) (hb : hasB cs c = true) (h4 : (elemsD x2).length ≤ 4) : ∀ (n i : Nat), i ≤ (cks cs rs c).length → (cks cs rs c).length - i < n →
    t3_lp11 Try.prog Try.f3 N n (bagD cs rs) c x2 (((((cks cs rs c).take i).map List.length).sum : Nat) : Int) (i : Int) = some (dat 4 (.lit (.bool true)))
  | 0, i, _, h => by omega
  | n + 1, i, hi, h => by
    have hG : elemsD (fieldD (groupBag (bagD cs rs) c (elemsD x2)) 1) = (cks cs rs c).map (grow cs (placeI cs c) (elemsD x2)) := by rw [groups_eq hok]; rfl
    have hsum : ((cks cs rs c).map List.length).sum = rs.length := cks_sum
    have hn := hm.n
    rw [t3_lp11_step, hG, List.length_map]
    by_cases hlt : i < (cks cs rs c).length
    · have hin : (cks cs rs c).getD i [] = (cks cs rs c)[i] := by simp [List.getD, hlt]
      have hne : 0 < ((cks cs rs c).getD i []).length := by rw [hin]; exact cks_ne _ (List.getElem_mem hlt)
      have hs1 : (((cks cs rs c).take (i + 1)).map List.length).sum = (((cks cs rs c).take i).map List.length).sum + ((cks cs rs c).getD i []).length := by
        rw [List.take_succ_eq_append_getElem hlt, List.map_append, List.sum_append, hin]
        simp
      have hs2 : (((cks cs rs c).take (i + 1)).map List.length).sum ≤ rs.length := by
        rw [← hsum]
        conv => rhs; rw [← List.take_append_drop (i + 1) (cks cs rs c), List.map_append, List.sum_append]
        omega
      have hC : (cks cs rs c).length ≤ rs.length := by
        rw [← hsum]
        have : ∀ l : List (List D), (∀ ch ∈ l, 0 < ch.length) → l.length ≤ (l.map List.length).sum := by
          intro l
          induction l with
          | nil => intro _; simp
          | cons a l ih =>
            intro hl
            have := ih fun ch hc => hl ch (by simp [hc])
            have := hl a (by simp)
            simp only [List.map_cons, List.sum_cons, List.length_cons]
            omega
        exact this _ cks_ne
      have w1 : IntKind.wrap .i64 ((i : Int) + 1) = ((i + 1 : Nat) : Int) := by rw [l_wrapI (l_in (by omega) (by omega))]; omega
      have w2 : IntKind.wrap .i64 (2 + ((elemsD x2).length : Int)) = (((elemsD x2).length + 2 : Nat) : Int) := by rw [l_wrapI (l_in (by omega) (by omega))]; omega
      have w3 : IntKind.wrap .i64 (((((cks cs rs c).take i).map List.length).sum : Nat) + (((cks cs rs c).getD i []).length : Int)) = (((((cks cs rs c).take (i + 1)).map List.length).sum : Nat) : Int) := by rw [l_wrapI (l_in (by omega) (by omega))]; omega
      have c1 : (((((elemsD x2).length + 2 : Nat) : Int) != (((elemsD x2).length + 2 : Nat) : Int)) == false) = true := by simp
      have c2 : (decide (0 ≤ (1 : Int)) && decide ((1 : Int) < (((elemsD x2).length + 2 : Nat) : Int))) = true := by simp only [Bool.and_eq_true, decide_eq_true_eq]; omega
      have c3 : ((decide ((((cks cs rs c).getD i []).length : Int) < 1)) == false) = true := by
        have : decide ((((cks cs rs c).getD i []).length : Int) < 1) = false := by rw [decide_eq_false_iff_not]; omega
        rw [this]; rfl
      have c4 : (decide (0 ≤ (0 : Int)) && decide ((0 : Int) < (((elemsD x2).length + 2 : Nat) : Int))) = true := by simp only [Bool.and_eq_true, decide_eq_true_eq]; omega
      rw [l_idx hlt, l_lt hlt, Int.toNat_natCast, getD_map _ _ hlt, grow_len, grow_cnt, w1, w2, w3, c1, c2, c3, c4]
      simp only [cond_true]
      have ih := law_loop (N := N) hok hm hb h4 n (i + 1) (by omega) (by omega)
      rw [ih]
      cases i with
      | zero => rfl
      | succ j =>
        have c5 : ((decide (((j + 1 : Nat) : Int) > 0)) == true) = true := by
          have : decide (((j + 1 : Nat) : Int) > 0) = true := by rw [decide_eq_true_eq]; omega
          rw [this]; rfl
        have w4 : IntKind.wrap .i64 (((j + 1 : Nat) : Int) - 1) = (j : Int) := by rw [l_wrapI (l_in (by omega) (by omega))]; omega
        have hd := groups_diff (sums := elemsD x2) hm hb (i := j) hlt
        simp only [kk, nn] at hd
        rw [c5, w4, l_idx (by omega : j < (cks cs rs c).length), Int.toNat_natCast, getD_map _ _ (by omega : j < (cks cs rs c).length), grow_len, c4, hd]
        rfl
    · have hi2 : i = (cks cs rs c).length := by omega
      have c1 : (((((((cks cs rs c).take i).map List.length).sum : Nat) : Int) == ((elemsD (fieldD (bagD cs rs) 1)).length : Int)) == true) = true := by
        rw [hi2, List.take_length, hsum]
        show (((rs.length : Int) == (rs.length : Int)) == true) = true
        simp
      rw [l_ge hlt, cond_false, c1, cond_true, groups_sorted hm hb hok]

theorem k3 : FnOK Try.prog 3 Try.f3 := ⟨Try.func3, rfl, by kernel_rfl⟩
theorem law3 {n n1 : Nat} {x0 x1 : D} (t0 : Ty Try.prog n 25 x0) (t1 : Ty Try.prog n1 3 x1) (x2 : D) : CallOK Try.prog 3 [dat 25 x0, dat 3 x1, dat 22 x2] (dat 4 (.lit (.bool true))) := by
  obtain ⟨cs, rs, rfl, h1, h2, h3, h4⟩ := tyB t0
  obtain ⟨c, rfl, _⟩ := ty3' t1
  have e0 : (dat 4 (.lit (.bool true)) : AV) = mkRes Try.prog 4 (.lit (.bool true)) := (m4 (.lit (.bool true))).symm
  rw [e0]
  refine fn_ok hm envB7 k3 ((t3 (rs.length + 1) (bagD cs rs) c x2).trans ?_)
  rw [← e0]
  cases q1 : fewBagB (bagD cs rs) 60 with
  | false => rfl
  | true =>
    by_cases q2 : (elemsD x2).length ≤ 20
    · have g2 : decide (((elemsD x2).length : Int) > 20) = false := by rw [decide_eq_false_iff_not]; omega
      have g3 : sortOK (bagD cs rs) = true := by
        simp only [fewBagB, Bool.and_eq_true, decide_eq_true_eq, List.all_eq_true] at q1
        simp only [sortOK, Bool.and_eq_true, decide_eq_true_eq, List.all_eq_true]
        refine ⟨⟨by omega, by omega⟩, fun r hr => ?_⟩
        have := q1.2 r hr
        omega
      rw [g2, g3, sort_same (bagD cs rs) c (elemsD x2) rfl, sort_same_ok (bagD cs rs) c (elemsD x2) rfl, like_refl]
      cases hok : groupOK (bagD cs rs) c (elemsD x2) with
      | false => rfl
      | true =>
        have hok' := hok
        unfold groupOK at hok'
        simp only [Bool.and_eq_true, decide_eq_true_eq] at hok'
        obtain ⟨⟨⟨o1, o2⟩, o3⟩, o4⟩ := hok'
        have hmb := may_bag o1
        have hC : (cks cs rs c).length ≤ rs.length := by
          have hsum : ((cks cs rs c).map List.length).sum = rs.length := cks_sum
          rw [← hsum]
          have : ∀ l : List (List D), (∀ ch ∈ l, 0 < ch.length) → l.length ≤ (l.map List.length).sum := by
            intro l
            induction l with
            | nil => intro _; simp
            | cons a l ih =>
              intro hl
              have := ih fun ch hc => hl ch (by simp [hc])
              have := hl a (by simp)
              simp only [List.map_cons, List.sum_cons, List.length_cons]
              omega
          exact this _ cks_ne
        have key := law_loop (N := rs.length + 1) (x2 := x2) hok hmb o2 o4 (rs.length + 1) 0 (by omega) (by omega)
        have z1 : (((((cks cs rs c).take 0).map List.length).sum : Nat) : Int) = 0 := rfl
        have z2 : ((0 : Nat) : Int) = 0 := rfl
        rw [z1, z2] at key
        simp only [Bool.not_true, beq_self_eq_true, cond_true, cond_false, Bool.not_false]
        exact key
    · have g2 : decide (((elemsD x2).length : Int) > 20) = true := by rw [decide_eq_true_eq]; omega
      rw [g2]
      rfl

end Go.Proofs.Ytjofcicaoofijaa
