/- What the evaluator comes to, function by function: by the kernel. Nothing here is trusted. -/
import Derived.Test.YtmopepjahjmdeaaDoorBE
import Derived.Test.YtmopepjahjmdeaaDoorDA
namespace Go.Proofs.YtmopepjahjmdeaaDoor
open Go.Ev
set_option linter.unusedVariables false
/- slices.Equal[[]int,int] -/
def t26_h : Hints := fun i => if i = 4 then some ([2, 3, 4, 5, 6, 7, 8, 9, 10, 11, 14, 15, 16, 17, 18, 19, 20, 21, 22, 23, 24, 25], [], []) else none
def t26_lp4 (P : Program) (fn : Func) (N n : Nat) (x0 : D) (x1 : D) (v13 : Int) : Option AV := evLoop (preL t26_h (sub [1, 1, 0, 1, 0, 0] (bodyOf fn))) (evCode P (envR B7 H7 R3 []) t26_h N (sub [1, 1, 0, 1, 0, 0] (bodyOf fn))) n ⟨[dat 22 x0, dat 22 x1, dead, dead, dead, dead, dead, dead, dead, dead, dead, dead, dat 3 (.lit (.int .i64 ((elemsD x0).length : Int))), dat 3 (.lit (.int .i64 v13)), dead, dead, dead, dead, dead, dead, dead, dead, dead, dead, dead, dead], lookB []⟩ (blockK 0 (seqC P (envR B7 H7 R3 []) t26_h N (sub [1, 1, 1] (bodyOf fn)) (finK P fn) ))
theorem t26_lp4_step  (N n : Nat) (x0 : D) (x1 : D) (v13 : Int) : t26_lp4 Tryd.prog Tryd.f26 N (n + 1) x0 x1 v13 =
  bif decide (v13 < ((elemsD x0).length : Int)) then
    bif (decide (0 ≤ v13) && decide (v13 < ((elemsD x0).length : Int))) then
      bif (decide (0 ≤ v13) && decide (v13 < ((elemsD x1).length : Int))) then
        bif ((intD ((elemsD x0).getD (v13).toNat .nil)) != (intD ((elemsD x1).getD (v13).toNat .nil))) then
          some (dat 4 (.lit (.bool false)))
        else t26_lp4 Tryd.prog Tryd.f26 N n x0 x1 (IntKind.wrap .i64 (v13 + 1))
      else none
    else none
  else some (dat 4 (.lit (.bool true))) := by kernel_rfl
theorem t26 (N : Nat) (x0 : D) (x1 : D) : evFn Tryd.prog (envR B7 H7 R3 []) t26_h N Tryd.f26 [dat 22 x0, dat 22 x1] =
  bif (((elemsD x0).length : Int) != ((elemsD x1).length : Int)) then
    some (dat 4 (.lit (.bool false)))
  else t26_lp4 Tryd.prog Tryd.f26 N N x0 x1 0 := by kernel_rfl

end Go.Proofs.YtmopepjahjmdeaaDoor

namespace Go.Proofs.YtmopepjahjmdeaaDoor
open Go.Ev
set_option linter.unusedVariables false
set_option maxRecDepth 10000
set_option linter.unusedSimpArgs false

def e26 : FuncId × TypeId × (List AV → Bool) × (List AV → Option D) := (26, 4, yes, ent [22, 22] (f2 fun x y => some (.lit (.bool (intsB (elemsD x) (elemsD y))))))
theorem k26 : FnOK Tryd.prog 26 Tryd.f26 := ⟨Tryd.func26, rfl, by kernel_rfl⟩
theorem c26 : ∀ args d, e26.2.2.2 args = some d → CallOK Tryd.prog 26 args (mkRes Tryd.prog 4 d) :=
  ent2 k26 fun x y d h ⟨_, hx⟩ ⟨_, hy⟩ => by
    cases h
    rw [nI, nI]
    refine fn_ok hm envB7 k26 ((t26 ((elemsD x).length + 1) x y).trans ?_)
    rw [m4]
    by_cases hl : (elemsD x).length = (elemsD y).length
    · have e1 : (((elemsD x).length : Int) != ((elemsD y).length : Int)) = false := by simp [hl]
      rw [e1, cond_false]
      have := l_loop (fun n v => t26_lp4 Tryd.prog Tryd.f26 ((elemsD x).length + 1) n x y v) (elemsD x).length (fun i => !(intD ((elemsD x).getD i .nil) == intD ((elemsD y).getD i .nil))) (some (dat 4 (.lit (.bool false)))) (some (dat 4 (.lit (.bool true))))
        (fun n i hi => by
          rw [t26_lp4_step, l_idx hi, l_lt hi, l_idx (by omega : i < (elemsD y).length), cond_true, cond_true, cond_true, l_wrap (lenI hx) hi, Int.toNat_natCast]
          rfl)
        (fun n => by rw [t26_lp4_step, l_ge (by omega), cond_false]) ((elemsD x).length + 1) 0 (Nat.zero_le _) (by omega)
      refine this.trans ?_
      have h2 := l_any2 intD (elemsD x) (elemsD y) hl
      show _ = some (dat 4 (.lit (.bool (intsB (elemsD x) (elemsD y)))))
      unfold intsB
      rw [← h2, Nat.sub_zero]
      cases (List.range' 0 (elemsD x).length).any _ <;> rfl
    · have e1 : (((elemsD x).length : Int) != ((elemsD y).length : Int)) = true := by simp; omega
      rw [e1, cond_true]
      have : intsB (elemsD x) (elemsD y) = false := by
        unfold intsB
        rw [beq_eq_false_iff_ne]
        intro hh
        exact hl (by simpa using congrArg List.length hh)
      show _ = some (dat 4 (.lit (.bool (intsB (elemsD x) (elemsD y)))))
      rw [this]
def smallB (x : D) : Bool := decide ((bRows x).length ≤ 1000000) && (bRows x).all fun r => decide ((elemsD r).length ≤ 1000000)
theorem small_iff {x : D} : smallB x = true ↔ (bRows x).length ≤ 1000000 ∧ ∀ r ∈ bRows x, (elemsD r).length ≤ 1000000 := by
  unfold smallB
  simp only [Bool.and_eq_true, decide_eq_true_eq, List.all_eq_true]
def sameT (x y : D) : Bool := sameQ (intsB (bCols x) (bCols y)) x y
def e10 : FuncId × TypeId × (List AV → Bool) × (List AV → Option D) := (10, 4, preD (q2 fun x y => smallB x && smallB y), ent [25, 25] (f2 fun x y => some (.lit (.bool (sameT x y)))))
theorem k10 : FnOK Tryd.prog 10 Tryd.f10 := ⟨Tryd.func10, rfl, by kernel_rfl⟩
theorem c10 : ∀ args d, e10.2.2.1 args = true → e10.2.2.2 args = some d → CallOK Tryd.prog 10 args (mkRes Tryd.prog 4 d) :=
  ent2p k10 fun x y d hq h ⟨_, hx⟩ ⟨_, hy⟩ => by
    cases h
    rw [nB, nB, m4]
    rw [Bool.and_eq_true, small_iff, small_iff] at hq
    have hE : CallOK Tryd.prog 26 [dat 22 (fieldD x 0), dat 22 (fieldD y 0)] (mkRes Tryd.prog 4 (.lit (.bool (intsB (elemsD (fieldD x 0)) (elemsD (fieldD y 0)))))) := c26 _ _ rfl
    rw [m4] at hE
    exact same_ok hE hq.1.1 hq.2.1 hq.1.2 hq.2.2
def S1 : Tab := e10 :: B7
theorem envS1 : EnvOK Tryd.prog (envR S1 H7 R3 []) := envOK_cons' envB7 c10
theorem subB_true : ∀ (l : List (List UInt8)) (f : List UInt8 → Nat), (∀ key, l.count key ≤ f key) → subB f l = true
  | [], f, _ => rfl
  | k :: l, f, h => by
    have h0 := h k
    rw [List.count_cons_self] at h0
    show (if f k = 0 then false else subB (fun x => if x = k then f k - 1 else f x) l) = true
    rw [if_neg (by omega)]
    refine subB_true l _ fun key => ?_
    show _ ≤ (if key = k then f k - 1 else f key)
    by_cases hk : key = k
    · subst hk; rw [if_pos rfl]; omega
    · rw [if_neg hk]
      have := h key
      rw [List.count_cons_of_ne (Ne.symm hk)] at this
      exact this
theorem same_perm {x y : D} (hc : intsB (bCols x) (bCols y) = true) (h : (bRows x).Perm (bRows y)) : sameT x y = true := by
  unfold sameT sameQ
  rw [hc, Bool.true_and, decide_eq_true (show (bRowsD x).length = (bRowsD y).length from h.length_eq), Bool.true_and]
  refine subB_true _ _ fun key => ?_
  exact Nat.le_of_eq ((h.map txt).count_eq key).symm
end Go.Proofs.YtmopepjahjmdeaaDoor

namespace Go.Proofs.YtmopepjahjmdeaaDoor
open Go.Ev
set_option linter.unusedVariables false
/- roadbook/roadbooklaw03.BagSorts -/
def t3_h : Hints := fun _ =>  none
theorem t3 (N : Nat) (x0 : D) (x1 : Int) : evFn Tryd.prog (envR S1 H7 R3 []) t3_h N Tryd.f3 [dat 25 x0, dat 3 (.lit (.int .i64 x1))] =
  bif (!(fewBagB x0 60)) then
    some (dat 4 (.lit (.bool true)))
  else bif sortOK x0 then
      bif ((!(sortedB (sortBag x0 x1) x1)) == false) then
        bif smallB (sortBag x0 x1) && smallB x0 then
          bif ((!(sameT (sortBag x0 x1) x0)) == false) then
            bif sortOK (sortBag x0 x1) then
              bif (!(likeB (sortBag (sortBag x0 x1) x1) (sortBag x0 x1))) then
                some (dat 4 (.lit (.bool false)))
              else bif ((!(sortedB x0 x1)) == false) then
                  some (dat 4 (.lit (.bool (likeB (sortBag x0 x1) x0))))
                else some (dat 4 (.lit (.bool true)))
            else none
          else some (dat 4 (.lit (.bool false)))
        else none
      else some (dat 4 (.lit (.bool false)))
    else none := by kernel_rfl

end Go.Proofs.YtmopepjahjmdeaaDoor

namespace Go.Proofs.YtmopepjahjmdeaaDoor
open Go.Ev
set_option linter.unusedVariables false
set_option maxRecDepth 10000

theorem srt_rows (x : D) (c : Int) : bRows (sortBag x c) = sortK (keyAt (placeI (bCols x) c)) (bRows x) := rfl
theorem sort_perm (x : D) (c : Int) : (bRows (sortBag x c)).Perm (bRows x) := sortK_perm _
theorem sort_sorted (x : D) (c : Int) : sortedB (sortBag x c) c = true := (adj_srt _).2 (sortK_srt _)
theorem sort_again {x : D} {c : Int} (h : sortedB x c = true) : sortRows (placeI (bCols x) c) (bRows x) = bRows x := sortK_of_srt ((adj_srt _).1 h)
theorem ints_refl (l : List D) : intsB l l = true := by unfold intsB; simp
theorem few_sizes {x : D} (h : fewBagB x 60 = true) : (bRows x).length ≤ 60 ∧ (bCols x).length ≤ 20 ∧ ∀ r ∈ bRows x, (elemsD r).length ≤ 20 := by
  unfold fewBagB at h
  simp only [Bool.and_eq_true, decide_eq_true_eq, List.all_eq_true] at h
  exact ⟨by omega, h.1.2, h.2⟩
theorem sort_ok {x : D} (h : (bRows x).length ≤ 60 ∧ (bCols x).length ≤ 20 ∧ ∀ r ∈ bRows x, (elemsD r).length ≤ 20) : sortOK x = true ∧ smallB x = true := by
  refine ⟨?_, small_iff.2 ⟨by omega, fun r hr => Nat.le_trans (h.2.2 r hr) (by omega)⟩⟩
  unfold sortOK
  simp only [Bool.and_eq_true, decide_eq_true_eq, List.all_eq_true]
  exact ⟨⟨by omega, by omega⟩, fun r hr => Nat.le_trans (h.2.2 r hr) (by omega)⟩
theorem k3 : FnOK Tryd.prog 3 Tryd.f3 := ⟨Tryd.func3, rfl, by kernel_rfl⟩
theorem law3 {n1 : Nat} (x0 : D) {x1 : D} (h1 : Ty Tryd.prog n1 3 x1) : CallOK Tryd.prog 3 [dat 25 x0, dat 3 x1] (dat 4 (.lit (.bool true))) := by
  obtain ⟨c, rfl, _⟩ := ty3' h1
  have e0 : (dat 4 (.lit (.bool true)) : AV) = mkRes Tryd.prog 4 (.lit (.bool true)) := (m4 (.lit (.bool true))).symm
  rw [e0]
  refine fn_ok hm envS1 k3 ((t3 1 x0 c).trans ?_)
  rw [← e0]
  cases q1 : fewBagB x0 60 with
  | false => rfl
  | true =>
    have hs := few_sizes q1
    obtain ⟨a1, a2⟩ := sort_ok hs
    have hp := sort_perm x0 c
    obtain ⟨b1, b2⟩ := sort_ok (x := sortBag x0 c) ⟨by rw [hp.length_eq]; exact hs.1, hs.2.1, fun r hr => hs.2.2 r (hp.mem_iff.1 hr)⟩
    have s1 := sort_sorted x0 c
    have s2 : sameT (sortBag x0 c) x0 = true := same_perm (ints_refl _) hp
    have s3 : likeB (sortBag (sortBag x0 c) c) (sortBag x0 c) = true := by
      have : sortBag (sortBag x0 c) c = sortBag x0 c := by
        show bagD _ (sortRows (placeI (bCols (sortBag x0 c)) c) (bRows (sortBag x0 c))) = _
        rw [sort_again s1]
        rfl
      rw [this]
      exact like_refl _
    rw [a1, a2, b1, b2, s1, s2, s3]
    cases q2 : sortedB x0 c with
    | false => rfl
    | true =>
      have s4 : likeB (sortBag x0 c) x0 = true := by
        have : bRows (sortBag x0 c) = bRows x0 := sort_again q2
        unfold likeB
        rw [this, show bCols (sortBag x0 c) = bCols x0 from rfl, ints_refl]
        simp
      rw [s4]
      rfl
end Go.Proofs.YtmopepjahjmdeaaDoor
