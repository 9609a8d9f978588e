/- Layer 3: against, Like, May, alike, summedUp. Nothing here is trusted. -/
import Derived.Test.YtjofcicaoofijaaBT2
namespace Go.Proofs.Ytjofcicaoofijaa
open Go.Ev
set_option linter.unusedVariables false
set_option linter.unusedSimpArgs false

def e21 : FuncId × TypeId × (List AV → Bool) × (List AV → Option D) := (21, 3, yes, ent [46, 46] (f2 fun x y => some (.lit (.int .i64 (againstI x y)))))
theorem k21 : FnOK Try.prog 21 Try.f21 := ⟨Try.func21, rfl, by kernel_rfl⟩
theorem c21 : ∀ args d, e21.2.2.2 args = some d → CallOK Try.prog 21 args (mkRes Try.prog 3 d) :=
  ent2 k21 fun x y d h _ _ => by
    cases h
    rw [nK, nK]
    refine fn_ok hm envB1 k21 ((t21 1 x y).trans ?_)
    rw [m3]
    show _ = some (dat 3 (.lit (.int .i64 (againstI x y))))
    unfold againstI rankEq
    cases ((intD (fieldD x 0) == intD (fieldD y 0)) && ((intD (fieldD x 1) == intD (fieldD y 1)) && true)) <;> cases lessB (valueD x) (valueD y) <;> rfl
def e12 : FuncId × TypeId × (List AV → Bool) × (List AV → Option D) := (12, 4, yes, ent [22, 3] (f2 fun x y => some (.lit (.bool (hasB (elemsD x) (intD y))))))
theorem k12 : FnOK Try.prog 12 Try.f12 := ⟨Try.func12, rfl, by kernel_rfl⟩
theorem c12 : ∀ args d, e12.2.2.2 args = some d → CallOK Try.prog 12 args (mkRes Try.prog 4 d) :=
  ent2 k12 fun x y d h _ _ => by
    cases h
    rw [nI, n3]
    refine fn_ok hm envB1 k12 ((t12 1 x (intD y)).trans ?_)
    rw [m4]
    show _ = some (dat 4 (.lit (.bool (hasB (elemsD x) (intD y)))))
    have : decide (Lib.idxOf ((elemsD x).map intD) (intD y) ≥ 0) = hasB (elemsD x) (intD y) := by
      unfold hasB
      rw [Bool.eq_iff_iff, decide_eq_true_eq]
      have := Lib.idxOf_nonneg_iff ((elemsD x).map intD) (intD y)
      exact Iff.of_eq this
    rw [this]

def e8 : FuncId × TypeId × (List AV → Bool) × (List AV → Option D) := (8, 4, yes, ent [25, 25] (f2 fun x y => some (.lit (.bool (likeB x y)))))
theorem k8 : FnOK Try.prog 8 Try.f8 := ⟨Try.func8, rfl, by kernel_rfl⟩
theorem rowI_beq (a b : D) : rowEqB (elemsD a) (elemsD b) = (rowI a == rowI b) := rfl
theorem c8 : ∀ args d, e8.2.2.2 args = some d → CallOK Try.prog 8 args (mkRes Try.prog 4 d) :=
  ent2 k8 fun x y d h ⟨_, hx⟩ ⟨_, hy⟩ => by
    cases h
    rw [nB, nB]
    obtain ⟨cs, rs, rfl, h1, h2, h3, h4⟩ := tyB hx
    obtain ⟨cs', rs', rfl, h1', h2', h3', h4'⟩ := tyB hy
    refine fn_ok hm envB1 k8 ((t8 (rs.length + 1) (bagD cs rs) (bagD cs' rs')).trans ?_)
    rw [m4, bagR, bagC, bagR, bagC]
    show _ = some (dat 4 (.lit (.bool (intsB cs cs' && (rs.map rowI == rs'.map rowI)))))
    by_cases hl : rs.length = rs'.length
    · have := l_loop (fun n v => t8_lp5 Try.prog Try.f8 (rs.length + 1) n (bagD cs rs) (bagD cs' rs') v) rs.length (fun i => !(rowI (rs.getD i .nil) == rowI (rs'.getD i .nil))) (some (dat 4 (.lit (.bool false)))) (some (dat 4 (.lit (.bool true))))
        (fun n i hi => by
          rw [t8_lp5_step, bagR, bagR, l_idx hi, l_lt hi, l_idx (by omega : i < rs'.length), cond_true, cond_true, cond_true, l_wrap h2 hi, Int.toNat_natCast, rowI_beq])
        (fun n => by rw [t8_lp5_step, bagR, l_ge (by omega), cond_false]) (rs.length + 1) 0 (Nat.zero_le _) (by omega)
      have this : t8_lp5 Try.prog Try.f8 (rs.length + 1) (rs.length + 1) (bagD cs rs) (bagD cs' rs') 0 = _ := this
      have h5 := l_any2 rowI rs rs' hl
      rw [l_nef hl, this, ← h5, Nat.sub_zero]
      cases intsB cs cs' <;> cases (List.range' 0 rs.length).any _ <;> rfl
    · have : (rs.map rowI == rs'.map rowI) = false := by
        rw [beq_eq_false_iff_ne]
        intro hh
        exact hl (by simpa using congrArg List.length hh)
      rw [l_net hl, this]
      cases intsB cs cs' <;> rfl

def e11 : FuncId × TypeId × (List AV → Bool) × (List AV → Option D) := (11, 4, yes, ent [25] (f1 fun x => some (.lit (.bool (mayBagB x)))))
theorem k11 : FnOK Try.prog 11 Try.f11 := ⟨Try.func11, rfl, by kernel_rfl⟩
theorem c11 : ∀ args d, e11.2.2.2 args = some d → CallOK Try.prog 11 args (mkRes Try.prog 4 d) :=
  ent1 k11 fun x d h _ => by
    cases h
    rw [nB]
    refine fn_ok hm envB1 k11 ((t11 1 x).trans ?_)
    rw [m4]
    show _ = some (dat 4 (.lit (.bool (mayBagB x))))
    unfold mayBagB bRows bCols
    have e : decide (((elemsD (fieldD x 1)).length : Int) ≤ 5000) = decide ((elemsD (fieldD x 1)).length ≤ 5000) := by
      rw [Bool.eq_iff_iff]; simp; omega
    rw [e]
    cases colsMayB (elemsD (fieldD x 0)) <;> cases decide ((elemsD (fieldD x 1)).length ≤ 5000) <;> rfl

theorem alike_loop {N : Nat} {x0 : D} {x1 : Int} (hl : (elemsD x0).length ≤ maxLen) : ∀ (n i : Nat), i ≤ (elemsD x0).length → (elemsD x0).length - i < n →
    t15_lp2 Try.prog Try.f15 N n x0 x1 (i : Int) = some (dat 3 (.lit (.int .i64 ((i + (((elemsD x0).drop i).takeWhile fun r => rankEq (rankD (elemsD r) x1) (rankD (elemsD ((elemsD x0).getD 0 .nil)) x1)).length : Nat) : Int))))
  | 0, i, _, h => by omega
  | n + 1, i, hi, h => by
    rw [t15_lp2_step]
    by_cases hlt : i < (elemsD x0).length
    · rw [l_idx hlt, l_lt hlt, Int.toNat_natCast, l_get hlt, l_wrap hl hlt, alike_loop hl n (i + 1) (by omega) (by omega), List.drop_eq_getElem_cons hlt, List.takeWhile_cons]
      have e : ∀ a b : D, ((intD (fieldD a 0) == intD (fieldD b 0)) && ((intD (fieldD a 1) == intD (fieldD b 1)) && true)) = rankEq a b := fun _ _ => rfl
      rw [e]
      cases rankEq (rankD (elemsD (elemsD x0)[i]) x1) (rankD (elemsD ((elemsD x0).getD 0 .nil)) x1) with
      | true =>
        simp only [beq_self_eq_true, cond_true, if_true, List.length_cons]
        congr 5
        omega
      | false => simp [cond_false]
    · have h2 : (elemsD x0).drop i = [] := List.drop_of_length_le (by omega)
      rw [l_ge hlt, h2]
      rfl
def e15 : FuncId × TypeId × (List AV → Bool) × (List AV → Option D) := (15, 3, preD (q2 fun x _ => decide (0 < (elemsD x).length)), ent [23, 3] (f2 fun x y => some (.lit (.int .i64 (alikeN (elemsD x) (intD y) : Int)))))
theorem k15 : FnOK Try.prog 15 Try.f15 := ⟨Try.func15, rfl, by kernel_rfl⟩
theorem c15 : ∀ args d, e15.2.2.1 args = true → e15.2.2.2 args = some d → CallOK Try.prog 15 args (mkRes Try.prog 3 d) :=
  ent2p k15 fun x y d hq h ⟨_, hx⟩ _ => by
    cases h
    rw [nR, n3]
    have hq : 0 < (elemsD x).length := by simpa using hq
    refine fn_ok hm envB1 k15 ((t15 ((elemsD x).length + 1) x (intD y)).trans ?_)
    rw [m3]
    have c1 : (decide ((0 : Int) ≤ 0) && decide ((0 : Int) < ((elemsD x).length : Int))) = true := by
      simp only [Bool.and_eq_true, decide_eq_true_eq]; omega
    rw [c1, cond_true]
    exact alike_loop (N := (elemsD x).length + 1) (lenR hx) ((elemsD x).length + 1) 1 (by omega) (by omega)

/-! ### summedUp -/
theorem summed_loop {N : Nat} {x0 x2 : D} {x1 : Int} (hl : (elemsD x2).length ≤ 1000) (hok : ∀ c ∈ elemsD x2, colOK (bRows x0) (placeI (bCols x0) (intD c)) = true) (F : List D) (hF : F.length = 2) : ∀ (n i : Nat), 1 ≤ i → i ≤ (elemsD x2).length → (elemsD x2).length - i < n →
    t16_lp3b Try.prog Try.f16 N n x0 x1 x2 (i : Int) (F ++ ((elemsD x2).take i).map fun c => sumD (columnL (bRows x0) (placeI (bCols x0) (intD c)))) =
      some (dat 32 (.slice (F ++ (elemsD x2).map fun c => sumD (columnL (bRows x0) (placeI (bCols x0) (intD c)))) []))
  | 0, i, _, _, h => by omega
  | n + 1, i, h1, hi, h => by
    rw [t16_lp3b_step]
    by_cases hlt : i < (elemsD x2).length
    · have hm1 : (elemsD x2).length ≤ maxLen := by unfold maxLen; omega
      have hc := hok _ (List.getElem_mem hlt)
      have hc' : colOK (bRows x0) (Lib.idxOf ((elemsD (fieldD x0 0)).map intD) (intD (elemsD x2)[i])) = true := hc
      have hlen : decide ((F ++ ((elemsD x2).take i).map fun c => sumD (columnL (bRows x0) (placeI (bCols x0) (intD c)))).length + 1 ≤ 2147483648) = true := by
        simp; omega
      rw [l_idx hlt, l_lt hlt, cond_true, cond_true, Int.toNat_natCast, l_get hlt, hc', cond_true, hlen, cond_true, l_wrap hm1 hlt]
      have e : (F ++ ((elemsD x2).take i).map (fun c => sumD (columnL (bRows x0) (placeI (bCols x0) (intD c))))) ++ [sumD (columnL (bRows x0) (Lib.idxOf ((elemsD (fieldD x0 0)).map intD) (intD (elemsD x2)[i])))] = F ++ ((elemsD x2).take (i + 1)).map fun c => sumD (columnL (bRows x0) (placeI (bCols x0) (intD c))) := by
        rw [List.take_succ_eq_append_getElem hlt, List.map_append, List.append_assoc]
        rfl
      rw [e]
      exact summed_loop hl hok F hF n (i + 1) (by omega) (by omega) (by omega)
    · have hi2 : i = (elemsD x2).length := by omega
      subst hi2
      rw [l_ge (by omega), cond_false, List.take_length]
def e16 : FuncId × TypeId × (List AV → Bool) × (List AV → Option D) := (16, 32, preD (q3 fun x y z => sumOK x (intD y) (elemsD z)), ent [25, 3, 22] (f3 fun x y z => some (.slice (summedL x (intD y) (elemsD z)) [])))
theorem k16 : FnOK Try.prog 16 Try.f16 := ⟨Try.func16, rfl, by kernel_rfl⟩
theorem c16 : ∀ args d, e16.2.2.1 args = true → e16.2.2.2 args = some d → CallOK Try.prog 16 args (mkRes Try.prog 32 d) :=
  ent3p k16 fun x y z d hq h ⟨_, hx⟩ _ ⟨_, hz⟩ => by
    cases h
    rw [nB, n3, nI]
    simp only [sumOK, Bool.and_eq_true, decide_eq_true_eq, List.all_eq_true] at hq
    obtain ⟨⟨⟨g1, g2⟩, g3⟩, g4⟩ := hq
    refine fn_ok hm envB1 k16 ((t16 ((elemsD z).length + 2) x (intD y) z).trans ?_)
    rw [m28]
    have c1 : (decide ((0 : Int) ≤ 0) && decide ((0 : Int) < ((elemsD (fieldD x 1)).length : Int))) = true := by
      have : 0 < (elemsD (fieldD x 1)).length := g1
      simp only [Bool.and_eq_true, decide_eq_true_eq]; omega
    have g3' := g3
    simp only [colOK, Bool.and_eq_true, decide_eq_true_eq, List.all_eq_true] at g3'
    have hm0 : (elemsD (fieldD x 1)).getD 0 .nil ∈ bRows x := by
      have h0 : 0 < (elemsD (fieldD x 1)).length := g1
      rw [l_get h0]; exact List.getElem_mem h0
    have c2 : (decide (0 ≤ intD y) && decide (intD y < ((elemsD ((elemsD (fieldD x 1)).getD 0 .nil)).length : Int))) = true := by
      simp only [Bool.and_eq_true, decide_eq_true_eq]
      exact ⟨g3'.1.1, g3'.2 _ hm0⟩
    rw [c1, cond_true, c2, cond_true, t16_lp3_step]
    have hm1 : (elemsD z).length ≤ maxLen := by unfold maxLen; omega
    show _ = some (dat 32 (.slice ([(elemsD ((bRows x).getD 0 .nil)).getD (intD y).toNat .nil, vv 0 ((bRows x).length : Int)] ++ (elemsD z).map fun c => sumD (columnL (bRows x) (placeI (bCols x) (intD c)))) []))
    by_cases hz0 : 0 < (elemsD z).length
    · have hc := g4 _ (List.getElem_mem hz0)
      have hc' : colOK (bRows x) (Lib.idxOf ((elemsD (fieldD x 0)).map intD) (intD (elemsD z)[0])) = true := hc
      have i1 : (decide ((0 : Int) ≤ 0) && decide ((0 : Int) < ((elemsD z).length : Int))) = true := l_idx (i := 0) hz0
      have i2 : decide ((0 : Int) < ((elemsD z).length : Int)) = true := l_lt (i := 0) hz0
      have w1 : IntKind.wrap .i64 ((0 : Int) + 1) = ((1 : Nat) : Int) := l_wrap (i := 0) hm1 hz0
      have t0 : ((0 : Int)).toNat = 0 := rfl
      rw [i1, i2, cond_true, cond_true, t0, l_get hz0, hc', cond_true, w1]
      have := summed_loop (N := (elemsD z).length + 2) (x0 := x) (x1 := intD y) g2 g4 [(elemsD ((bRows x).getD 0 .nil)).getD (intD y).toNat .nil, vv 0 ((bRows x).length : Int)] rfl ((elemsD z).length + 1) 1 (by omega) (by omega) (by omega)
      refine Eq.trans ?_ this
      have : (elemsD z).take 1 = [(elemsD z)[0]] := by
        rw [List.take_succ_eq_append_getElem hz0]; rfl
      rw [this]
      rfl
    · have hz1 : elemsD z = [] := List.length_eq_zero_iff.1 (by omega)
      have i2 : decide ((0 : Int) < ((elemsD z).length : Int)) = false := by rw [hz1]; rfl
      rw [i2, cond_false, hz1]
      rfl

def B2 : Tab := e21 :: e12 :: e8 :: e11 :: e15 :: e16 :: B1
theorem envB2 : EnvOK Try.prog (envR B2 [] [] []) :=
  envOK_cons (envOK_cons (envOK_cons (envOK_cons (envOK_cons' (envOK_cons' envB1 c16) c15) c11) c8) c12) c21

end Go.Proofs.Ytjofcicaoofijaa
