/- What the evaluator comes to, function by function: by the kernel. Nothing here is trusted. -/
import Derived.Test.YtbidfbpaeemhhaaDoorBE
import Derived.Test.YtbidfbpaeemhhaaDoorDA
import Derived.Test.YtbidfbpaeemhhaaDoorCB
import Derived.Test.YtbidfbpaeemhhaaDoorCC
import Derived.Test.YtbidfbpaeemhhaaDoorV3
namespace Go.Proofs.YtbidfbpaeemhhaaDoor
open Go.Ev
set_option linter.unusedVariables false
/- slices.Equal[[]int,int] -/
def t26_h : Hints := fun i => if i = 4 then some ([2, 3, 4, 5, 6, 7, 8, 9, 10, 11, 14, 15, 16, 17, 18, 19, 20, 21, 22, 23, 24, 25], [], []) else none
def t26_lp4 (P : Program) (fn : Func) (N n : Nat) (x0 : D) (x1 : D) (v13 : Int) : Option AV := evLoop (preL t26_h (sub [1, 1, 0, 1, 0, 0] (bodyOf fn))) (evCode P (envR B7 H7 R3 []) t26_h N (sub [1, 1, 0, 1, 0, 0] (bodyOf fn))) n ⟨[dat 22 x0, dat 22 x1, dead, dead, dead, dead, dead, dead, dead, dead, dead, dead, dat 3 (.lit (.int .i64 ((elemsD x0).length : Int))), dat 3 (.lit (.int .i64 v13)), dead, dead, dead, dead, dead, dead, dead, dead, dead, dead, dead, dead], lookB []⟩ (blockK 0 (seqC P (envR B7 H7 R3 []) t26_h N (sub [1, 1, 1] (bodyOf fn)) (finK P fn) ))
theorem t26_lp4_step  (N n : Nat) (x0 : D) (x1 : D) (v13 : Int) : t26_lp4 Tryd.prog Tryd.f26 N (n + 1) x0 x1 v13 =
  bif decide (v13 < ((elemsD x0).length : Int)) then
    bif (decide (0 ≤ v13) && decide (v13 < ((elemsD x0).length : Int))) then
      bif (decide (0 ≤ v13) && decide (v13 < ((elemsD x1).length : Int))) then
        bif ((intD ((elemsD x0).getD (v13).toNat .nil)) != (intD ((elemsD x1).getD (v13).toNat .nil))) then
          some (dat 4 (.lit (.bool false)))
        else t26_lp4 Tryd.prog Tryd.f26 N n x0 x1 (IntKind.wrap .i64 (v13 + 1))
      else none
    else none
  else some (dat 4 (.lit (.bool true))) := by kernel_rfl
theorem t26 (N : Nat) (x0 : D) (x1 : D) : evFn Tryd.prog (envR B7 H7 R3 []) t26_h N Tryd.f26 [dat 22 x0, dat 22 x1] =
  bif (((elemsD x0).length : Int) != ((elemsD x1).length : Int)) then
    some (dat 4 (.lit (.bool false)))
  else t26_lp4 Tryd.prog Tryd.f26 N N x0 x1 0 := by kernel_rfl

end Go.Proofs.YtbidfbpaeemhhaaDoor

namespace Go.Proofs.YtbidfbpaeemhhaaDoor
open Go.Ev
set_option linter.unusedVariables false
set_option maxRecDepth 10000
set_option linter.unusedSimpArgs false

def e26 : FuncId × TypeId × (List AV → Bool) × (List AV → Option D) := (26, 4, yes, ent [22, 22] (f2 fun x y => some (.lit (.bool (intsB (elemsD x) (elemsD y))))))
theorem k26 : FnOK Tryd.prog 26 Tryd.f26 := ⟨Tryd.func26, rfl, by kernel_rfl⟩
theorem c26 : ∀ args d, e26.2.2.2 args = some d → CallOK Tryd.prog 26 args (mkRes Tryd.prog 4 d) :=
  ent2 k26 fun x y d h ⟨_, hx⟩ ⟨_, hy⟩ => by
    cases h
    rw [nI, nI]
    refine fn_ok hm envB7 k26 ((t26 ((elemsD x).length + 1) x y).trans ?_)
    rw [m4]
    by_cases hl : (elemsD x).length = (elemsD y).length
    · have e1 : (((elemsD x).length : Int) != ((elemsD y).length : Int)) = false := by simp [hl]
      rw [e1, cond_false]
      have := l_loop (fun n v => t26_lp4 Tryd.prog Tryd.f26 ((elemsD x).length + 1) n x y v) (elemsD x).length (fun i => !(intD ((elemsD x).getD i .nil) == intD ((elemsD y).getD i .nil))) (some (dat 4 (.lit (.bool false)))) (some (dat 4 (.lit (.bool true))))
        (fun n i hi => by
          rw [t26_lp4_step, l_idx hi, l_lt hi, l_idx (by omega : i < (elemsD y).length), cond_true, cond_true, cond_true, l_wrap (lenI hx) hi, Int.toNat_natCast]
          rfl)
        (fun n => by rw [t26_lp4_step, l_ge (by omega), cond_false]) ((elemsD x).length + 1) 0 (Nat.zero_le _) (by omega)
      refine this.trans ?_
      have h2 := l_any2 intD (elemsD x) (elemsD y) hl
      show _ = some (dat 4 (.lit (.bool (intsB (elemsD x) (elemsD y)))))
      unfold intsB
      rw [← h2, Nat.sub_zero]
      cases (List.range' 0 (elemsD x).length).any _ <;> rfl
    · have e1 : (((elemsD x).length : Int) != ((elemsD y).length : Int)) = true := by simp; omega
      rw [e1, cond_true]
      have : intsB (elemsD x) (elemsD y) = false := by
        unfold intsB
        rw [beq_eq_false_iff_ne]
        intro hh
        exact hl (by simpa using congrArg List.length hh)
      show _ = some (dat 4 (.lit (.bool (intsB (elemsD x) (elemsD y)))))
      rw [this]
def smallB (x : D) : Bool := decide ((bRows x).length ≤ 1000000) && (bRows x).all fun r => decide ((elemsD r).length ≤ 1000000)
theorem small_iff {x : D} : smallB x = true ↔ (bRows x).length ≤ 1000000 ∧ ∀ r ∈ bRows x, (elemsD r).length ≤ 1000000 := by
  unfold smallB
  simp only [Bool.and_eq_true, decide_eq_true_eq, List.all_eq_true]
def sameT (x y : D) : Bool := sameQ (intsB (bCols x) (bCols y)) x y
def e10 : FuncId × TypeId × (List AV → Bool) × (List AV → Option D) := (10, 4, preD (q2 fun x y => smallB x && smallB y), ent [25, 25] (f2 fun x y => some (.lit (.bool (sameT x y)))))
theorem k10 : FnOK Tryd.prog 10 Tryd.f10 := ⟨Tryd.func10, rfl, by kernel_rfl⟩
theorem c10 : ∀ args d, e10.2.2.1 args = true → e10.2.2.2 args = some d → CallOK Tryd.prog 10 args (mkRes Tryd.prog 4 d) :=
  ent2p k10 fun x y d hq h ⟨_, hx⟩ ⟨_, hy⟩ => by
    cases h
    rw [nB, nB, m4]
    rw [Bool.and_eq_true, small_iff, small_iff] at hq
    have hE : CallOK Tryd.prog 26 [dat 22 (fieldD x 0), dat 22 (fieldD y 0)] (mkRes Tryd.prog 4 (.lit (.bool (intsB (elemsD (fieldD x 0)) (elemsD (fieldD y 0)))))) := c26 _ _ rfl
    rw [m4] at hE
    exact same_ok hE hq.1.1 hq.2.1 hq.1.2 hq.2.2
def S1 : Tab := e10 :: B7
theorem envS1 : EnvOK Tryd.prog (envR S1 H7 R3 []) := envOK_cons' envB7 c10
theorem subB_true : ∀ (l : List (List UInt8)) (f : List UInt8 → Nat), (∀ key, l.count key ≤ f key) → subB f l = true
  | [], f, _ => rfl
  | k :: l, f, h => by
    have h0 := h k
    rw [List.count_cons_self] at h0
    show (if f k = 0 then false else subB (fun x => if x = k then f k - 1 else f x) l) = true
    rw [if_neg (by omega)]
    refine subB_true l _ fun key => ?_
    show _ ≤ (if key = k then f k - 1 else f key)
    by_cases hk : key = k
    · subst hk; rw [if_pos rfl]; omega
    · rw [if_neg hk]
      have := h key
      rw [List.count_cons_of_ne (Ne.symm hk)] at this
      exact this
theorem same_perm {x y : D} (hc : intsB (bCols x) (bCols y) = true) (h : (bRows x).Perm (bRows y)) : sameT x y = true := by
  unfold sameT sameQ
  rw [hc, Bool.true_and, decide_eq_true (show (bRowsD x).length = (bRowsD y).length from h.length_eq), Bool.true_and]
  refine subB_true _ _ fun key => ?_
  exact Nat.le_of_eq ((h.map txt).count_eq key).symm
end Go.Proofs.YtbidfbpaeemhhaaDoor

namespace Go.Proofs.YtbidfbpaeemhhaaDoor
open Go.Ev
set_option linter.unusedVariables false

theorem subB_congr : ∀ (l : List (List UInt8)) {f g : List UInt8 → Nat}, (∀ k, f k = g k) → subB f l = subB g l := by
  intro l f g h
  rw [funext h]
theorem subB_erase (k : List UInt8) (l was : List (List UInt8)) (h : k ∈ was) : subB (fun key => was.count key) (k :: l) = subB (fun key => (was.erase k).count key) l := by
  have h0 : was.count k ≠ 0 := Nat.ne_of_gt (List.count_pos_iff.2 h)
  show (if was.count k = 0 then false else subB (fun x => if x = k then was.count k - 1 else was.count x) l) = _
  rw [if_neg h0]
  refine subB_congr l fun x => ?_
  show (if x = k then was.count k - 1 else was.count x) = (was.erase k).count x
  rw [List.count_erase]
  by_cases hx : x = k
  · subst hx; simp
  · rw [if_neg hx]
    have : (k == x) = false := by rw [beq_eq_false_iff_ne]; exact Ne.symm hx
    rw [this]
    simp
theorem subB_perm : ∀ (wbs was : List (List UInt8)), was.length = wbs.length → subB (fun key => was.count key) wbs = true → was.Perm wbs
  | [], was, hl, _ => by
    rw [List.eq_nil_of_length_eq_zero hl]
  | k :: l, was, hl, h => by
    by_cases hk : k ∈ was
    · rw [subB_erase k l was hk] at h
      have ih := subB_perm l (was.erase k) (by rw [List.length_erase_of_mem hk, hl]; rfl) h
      exact (List.perm_cons_erase hk).trans (ih.cons k)
    · have h0 : was.count k = 0 := List.count_eq_zero.2 hk
      have : subB (fun key => was.count key) (k :: l) = false := by
        show (if was.count k = 0 then false else _) = false
        rw [if_pos h0]
      rw [this] at h
      cases h
theorem same_iff {x y : D} : sameT x y = true ↔ intsB (bCols x) (bCols y) = true ∧ ((bRows x).map txt).Perm ((bRows y).map txt) := by
  unfold sameT sameQ
  rw [Bool.and_eq_true, Bool.and_eq_true, decide_eq_true_eq]
  constructor
  · rintro ⟨h1, h2, h3⟩
    refine ⟨h1, subB_perm _ _ ?_ h3⟩
    rw [List.length_map, List.length_map]
    exact h2
  · rintro ⟨h1, h2⟩
    refine ⟨h1, ?_, ?_⟩
    · have := h2.length_eq
      rw [List.length_map, List.length_map] at this
      exact this
    · exact subB_true _ _ fun key => Nat.le_of_eq (h2.count_eq key).symm
theorem ints_symm (a b : List D) : intsB a b = intsB b a := by
  unfold intsB
  rw [Bool.eq_iff_iff, beq_iff_eq, beq_iff_eq]
  exact eq_comm
theorem same_symm (x y : D) : sameT x y = sameT y x := by
  rw [Bool.eq_iff_iff, same_iff, same_iff, ints_symm]
  exact ⟨fun h => ⟨h.1, h.2.symm⟩, fun h => ⟨h.1, h.2.symm⟩⟩
theorem same_more {x y : D} (h : (bRows x).length ≠ (bRows y).length) : sameT x y = false := by
  rw [← Bool.not_eq_true, same_iff]
  rintro ⟨_, h2⟩
  have := h2.length_eq
  rw [List.length_map, List.length_map] at this
  exact h this
end Go.Proofs.YtbidfbpaeemhhaaDoor

namespace Go.Proofs.YtbidfbpaeemhhaaDoor
open Go.Ev
set_option linter.unusedVariables false
def SX : Tab := e12 :: e13 :: S1
theorem envSX : EnvOK Tryd.prog (envR SX H7 R3 []) := envOK_cons (envOK_cons envS1 c13) c12
end Go.Proofs.YtbidfbpaeemhhaaDoor

namespace Go.Proofs.YtbidfbpaeemhhaaDoor
open Go.Ev
set_option linter.unusedVariables false
/- roadbook/roadbooklaw03.BagCrosses -/
def t4_h : Hints := fun _ =>  none
theorem t4 (N : Nat) (x0 : D) (x1 : D) (x2 : D) : evFn Tryd.prog (envR SX H7 R3 []) t4_h N Tryd.f4 [dat 25 x0, dat 25 x1, dat 25 x2] =
  bif ((!(fewBagB x0 12)) == false) then
    bif ((!(fewBagB x1 12)) == false) then
      bif (!(fewBagB x2 12)) then
        some (dat 4 (.lit (.bool true)))
      else bif ((!((crossOK x0 x1) == (crossOK x1 x0))) == false) then
          bif (!(crossOK x0 x1)) then
            some (dat 4 (.lit (.bool ((crossOK x0 x1) == (crossOK x1 x0)))))
          else bif ((!(pickOK (crossBag x1 x0) (elemsD (fieldD (crossBag x0 x1) 0)))) == false) then
              bif smallB (pickBag (crossBag x1 x0) (elemsD (fieldD (crossBag x0 x1) 0))) && smallB (crossBag x0 x1) then
                bif ((!(sameT (pickBag (crossBag x1 x0) (elemsD (fieldD (crossBag x0 x1) 0))) (crossBag x0 x1))) == false) then
                  bif (((elemsD (fieldD (crossBag x0 x1) 1)).length : Int) != (IntKind.wrap .i64 (((elemsD (fieldD x0 1)).length : Int) * ((elemsD (fieldD x1 1)).length : Int)))) then
                    some (dat 4 (.lit (.bool false)))
                  else bif ((crossOK x1 x2) == true) then
                      bif (((crossOK (crossBag x0 x1) x2) == (crossOK x0 (crossBag x1 x2))) == true) then
                        bif ((!(crossOK (crossBag x0 x1) x2)) == false) then
                          some (dat 4 (.lit (.bool (likeB (crossBag (crossBag x0 x1) x2) (crossBag x0 (crossBag x1 x2))))))
                        else some (dat 4 (.lit (.bool true)))
                      else some (dat 4 (.lit (.bool false)))
                    else bif (((crossOK (crossBag x0 x1) x2) == false) == true) then
                        bif ((!(crossOK (crossBag x0 x1) x2)) == false) then
                          some (dat 4 (.lit (.bool (likeB (crossBag (crossBag x0 x1) x2) (crossBag x0 (crossBag x1 x2))))))
                        else some (dat 4 (.lit (.bool true)))
                      else some (dat 4 (.lit (.bool false)))
                else some (dat 4 (.lit (.bool false)))
              else none
            else some (dat 4 (.lit (.bool false)))
        else some (dat 4 (.lit (.bool ((crossOK x0 x1) == (crossOK x1 x0)))))
    else some (dat 4 (.lit (.bool true)))
  else some (dat 4 (.lit (.bool true))) := by kernel_rfl

end Go.Proofs.YtbidfbpaeemhhaaDoor

namespace Go.Proofs.YtbidfbpaeemhhaaDoor
open Go.Ev
set_option linter.unusedVariables false
set_option maxRecDepth 10000

theorem ints_same (l : List D) : intsB l l = true := by unfold intsB; simp
theorem few_twelve {x : D} (h : fewBagB x 12 = true) : (bRows x).length ≤ 12 := by
  unfold fewBagB at h
  simp only [Bool.and_eq_true, decide_eq_true_eq, List.all_eq_true] at h
  omega
theorem may_small {b : D} (h : mayBagB b = true) : smallB b = true := by
  obtain ⟨h1, h2, h3⟩ := may_parts.1 h
  have h4 : (bCols b).length ≤ 16 := cols_few h1
  exact small_iff.2 ⟨by omega, fun r hr => by rw [(h3 r hr).1]; omega⟩
theorem perm_small {b c : D} (h : smallB c = true) (hp : (bRows b).Perm (bRows c)) : smallB b = true := by
  obtain ⟨h1, h2⟩ := small_iff.1 h
  exact small_iff.2 ⟨by rw [hp.length_eq]; exact h1, fun r hr => h2 r (hp.mem_iff.1 hr)⟩
theorem k4 : FnOK Tryd.prog 4 Tryd.f4 := ⟨Tryd.func4, rfl, by kernel_rfl⟩
theorem law4 (x0 x1 x2 : D) : CallOK Tryd.prog 4 [dat 25 x0, dat 25 x1, dat 25 x2] (dat 4 (.lit (.bool true))) := by
  have e0 : (dat 4 (.lit (.bool true)) : AV) = mkRes Tryd.prog 4 (.lit (.bool true)) := (m4 (.lit (.bool true))).symm
  rw [e0]
  refine fn_ok hm envSX k4 ((t4 1 x0 x1 x2).trans ?_)
  rw [← e0]
  cases q0 : fewBagB x0 12 with
  | false => rfl
  | true =>
    cases q1 : fewBagB x1 12 with
    | false => rfl
    | true =>
      cases q2 : fewBagB x2 12 with
      | false => rfl
      | true =>
        have n0 := few_twelve q0
        have n1 := few_twelve q1
        have n2 := few_twelve q2
        rw [cross_symm x1 x0]
        cases q3 : crossOK x0 x1 with
        | false => rfl
        | true =>
          have r0 : elemsD (fieldD (crossBag x0 x1) 0) = bCols (crossBag x0 x1) := rfl
          have r1 : elemsD (fieldD (crossBag x0 x1) 1) = bRows (crossBag x0 x1) := rfl
          have r2 : elemsD (fieldD x0 1) = bRows x0 := rfl
          have r3 : elemsD (fieldD x1 1) = bRows x1 := rfl
          obtain ⟨pc, pr⟩ := pick_cross q3
          have s1 := may_small (cross_may q3)
          have s2 := perm_small s1 pr
          have s3 : sameT (pickBag (crossBag x1 x0) (bCols (crossBag x0 x1))) (crossBag x0 x1) = true := same_perm (by rw [pc]; exact ints_same _) pr
          have p1 : (bRows x0).length * (bRows x1).length ≤ 144 := Nat.mul_le_mul n0 n1
          have p2 : (bRows x1).length * (bRows x2).length ≤ 144 := Nat.mul_le_mul n1 n2
          have p3 : (bRows x0).length * (bRows x1).length * (bRows x2).length ≤ 1728 := Nat.mul_le_mul p1 n2
          have hl : (((bRows (crossBag x0 x1)).length : Int) != IntKind.wrap .i64 (((bRows x0).length : Int) * ((bRows x1).length : Int))) = false := by
            have e : ((bRows x0).length : Int) * ((bRows x1).length : Int) = (((bRows x0).length * (bRows x1).length : Nat) : Int) := (Int.natCast_mul _ _).symm
            rw [e, l_wrapI (l_in (by omega) (by omega)), cross_rows q3, crossRows_len]
            simp
          rw [r0, r1, r2, r3, pick_cross_ok q3, s1, s2, s3, hl]
          cases q4 : crossOK x1 x2 with
          | false =>
            rw [thrice_no q3 (by omega) q4]
            rfl
          | true =>
            have e := thrice q3 (by omega) q4
            cases q5 : crossOK (crossBag x0 x1) x2 with
            | false =>
              rw [q5] at e
              rw [← e]
              rfl
            | true =>
              rw [q5] at e
              rw [← e, thrice_like q3 q4 q5 e.symm]
              rfl
end Go.Proofs.YtbidfbpaeemhhaaDoor
