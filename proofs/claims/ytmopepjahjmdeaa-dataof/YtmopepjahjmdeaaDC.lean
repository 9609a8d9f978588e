/- DataOf: what is told of a table may be, and has as many rows as the table; of two occurrences the same rows, and no column in common. Proved for every world, every order, every argument that the statement takes. -/
import Derived.Test.YtmopepjahjmdeaaDB
import Derived.Test.YtmopepjahjmdeaaCB
import Derived.Test.YtmopepjahjmdeaaVE
import Derived.WalkKit
import Derived.ProofKit
import Derived.OpenShut
import Derived.ShutString
import Derived.ChangeOld
import Derived.Below
namespace Go.Proofs.Ytmopepjahjmdeaa
open Go.Ev
set_option linter.unusedVariables false

def D7 : Tab := e29 :: D6
theorem envD7 : EnvOK Try.prog (envR D7 [] [] []) := envOK_cons envD6 c29

end Go.Proofs.Ytmopepjahjmdeaa

namespace Go.Proofs.Ytmopepjahjmdeaa
open Go.Ev
set_option linter.unusedVariables false
/- roadbook/roadbooklaw04.DataOf -/
def t5_h : Hints := fun i => if i = 13 then some ([0, 1, 2, 3, 4, 5, 6, 7, 8, 9, 10, 11, 12, 14, 16, 17, 18, 20, 21, 22, 23, 24, 25, 26, 27, 28, 29, 30, 31, 32, 33, 34, 35, 36, 37, 38, 39, 40, 41, 42, 43, 44, 45, 46, 47, 48, 49, 50, 51, 52, 53, 54, 55, 56, 57, 58, 59, 60, 61, 62, 63, 64, 65, 66, 67, 68, 69, 70, 71, 72, 73, 74, 75, 76, 77, 78, 79, 80, 81, 82, 83, 84, 85, 86, 87, 88, 89, 90, 91, 92, 93, 94, 95, 96, 97, 98, 99, 100, 101, 102, 103, 104, 105, 106, 107, 108, 109, 110, 111, 112, 113, 114, 115, 116, 117, 118, 119, 120, 121, 122, 123, 124, 125, 126, 127, 128, 129, 130, 131], [13, 15], []) else none
def t5_lp13 (P : Program) (fn : Func) (N n : Nat) (x0 : D) (x1 : D) (x2 : Int) (x3 : Int) (x4 : Int) (v19 : Int) : Option AV := evLoop (preL t5_h (sub [1, 1, 1, 1, 1, 1, 1, 1, 1, 0, 1, 0, 0] (bodyOf fn))) (evCode P (envR D7 [] [] []) t5_h N (sub [1, 1, 1, 1, 1, 1, 1, 1, 1, 0, 1, 0, 0] (bodyOf fn))) n ⟨[dead, dead, dead, dead, dead, dead, dead, dead, dead, dead, dead, dead, dead, bxp 13 25, dead, bxp 15 25, dead, dead, dead, dat 3 (.lit (.int .i64 v19)), dead, dead, dead, dead, dead, dead, dead, dead, dead, dead, dead, dead, dead, dead, dead, dead, dead, dead, dead, dead, dead, dead, dead, dead, dead, dead, dead, dead, dead, dead, dead, dead, dead, dead, dead, dead, dead, dead, dead, dead, dead, dead, dead, dead, dead, dead, dead, dead, dead, dead, dead, dead, dead, dead, dead, dead, dead, dead, dead, dead, dead, dead, dead, dead, dead, dead, dead, dead, dead, dead, dead, dead, dead, dead, dead, dead, dead, dead, dead, dead, dead, dead, dead, dead, dead, dead, dead, dead, dead, dead, dead, dead, dead, dead, dead, dead, dead, dead, dead, dead, dead, dead, dead, dead, dead, dead, dead, dead, dead, dead, dead, dead], lookB [(13, some ⟨25, ofBag x0 x1 x2 x3, 0, none⟩), (15, some ⟨25, ofBag x0 x1 x2 x4, 0, none⟩)]⟩ (blockK 0 (seqC P (envR D7 [] [] []) t5_h N (sub [1, 1, 1, 1, 1, 1, 1, 1, 1, 1] (bodyOf fn)) (finK P fn) ))
theorem t5_lp13_step  (N n : Nat) (x0 : D) (x1 : D) (x2 : Int) (x3 : Int) (x4 : Int) (v19 : Int) : t5_lp13 Try.prog Try.f5 N (n + 1) x0 x1 x2 x3 x4 v19 =
  bif decide (v19 < ((elemsD (fieldD (ofBag x0 x1 x2 x3) 1)).length : Int)) then
    bif (decide (0 ≤ v19) && decide (v19 < ((elemsD (fieldD (ofBag x0 x1 x2 x3) 1)).length : Int))) then
      bif (decide (0 ≤ v19) && decide (v19 < ((elemsD (fieldD (ofBag x0 x1 x2 x4) 1)).length : Int))) then
        bif (!(rowEqB (elemsD ((elemsD (fieldD (ofBag x0 x1 x2 x3) 1)).getD (v19).toNat .nil)) (elemsD ((elemsD (fieldD (ofBag x0 x1 x2 x4) 1)).getD (v19).toNat .nil)))) then
          some (dat 4 (.lit (.bool false)))
        else t5_lp13 Try.prog Try.f5 N n x0 x1 x2 x3 x4 (IntKind.wrap .i64 (v19 + 1))
      else none
    else none
  else some (dat 4 (.lit (.bool true))) := by kernel_rfl
theorem t5 (N : Nat) (x0 : D) (x1 : D) (x2 : Int) (x3 : Int) (x4 : Int) : evFn Try.prog (envR D7 [] [] []) t5_h N Try.f5 [dat 38 x0, dat 41 x1, dat 3 (.lit (.int .i64 x2)), dat 3 (.lit (.int .i64 x3)), dat 3 (.lit (.int .i64 x4))] =
  bif ((!(fewData x1)) == false) then
    bif decide (((elemsD (fieldD x0 0)).length : Int) > 10) then
      some (dat 4 (.lit (.bool true)))
    else bif ((!(ofOK x0 x1 x2 x3)) == false) then
        bif (!(ofOK x0 x1 x2 x4)) then
          some (dat 4 (.lit (.bool true)))
        else bif ((!(mayBagB (ofBag x0 x1 x2 x3))) == false) then
            bif ((!(mayBagB (ofBag x0 x1 x2 x4))) == false) then
              bif ((((elemsD (fieldD (ofBag x0 x1 x2 x3) 1)).length : Int) != ((elemsD (fieldD (ofBag x0 x1 x2 x4) 1)).length : Int)) == false) then
                bif (((crossOK (ofBag x0 x1 x2 x3) (ofBag x0 x1 x2 x4)) == (x3 == x4)) == false) then
                  bif ((decide (x2 < 0)) == false) then
                    bif ((decide (x2 ≥ ((elemsD (fieldD x1 0)).length : Int))) == false) then
                      bif (decide (0 ≤ x2) && decide (x2 < ((elemsD (fieldD x1 0)).length : Int))) then
                        bif (((elemsD (fieldD (ofBag x0 x1 x2 x3) 1)).length : Int) != ((elemsD ((elemsD (fieldD x1 0)).getD (x2).toNat .nil)).length : Int)) then
                          some (dat 4 (.lit (.bool false)))
                        else t5_lp13 Try.prog Try.f5 N N x0 x1 x2 x3 x4 0
                      else none
                    else some (dat 4 (.lit (.bool false)))
                  else some (dat 4 (.lit (.bool false)))
                else some (dat 4 (.lit (.bool false)))
              else some (dat 4 (.lit (.bool false)))
            else some (dat 4 (.lit (.bool false)))
          else some (dat 4 (.lit (.bool false)))
      else some (dat 4 (.lit (.bool true)))
  else some (dat 4 (.lit (.bool true))) := by kernel_rfl

end Go.Proofs.Ytmopepjahjmdeaa

namespace Go.Proofs.Ytmopepjahjmdeaa
open Go.Ev
set_option linter.unusedVariables false
set_option maxRecDepth 10000
set_option linter.unusedSimpArgs false

theorem of_loop {N : Nat} {c d : D} {t a b : Int} {T : D} {rows : List D} (h : OccOf c d t a T rows) (k : OccOf c d t b T rows) : ∀ (n i : Nat), i ≤ rows.length → rows.length - i < n →
    t5_lp13 Try.prog Try.f5 N n c d t a b (i : Int) = some (dat 4 (.lit (.bool true)))
  | 0, i, _, hh => by omega
  | n + 1, i, hi, hh => by
    rw [t5_lp13_step, h.bag, k.bag, show elemsD (fieldD (seenBag T rows a) 1) = rows from rfl, show elemsD (fieldD (seenBag T rows b) 1) = rows from rfl]
    by_cases hlt : i < rows.length
    · have h8 := h.few
      have w1 : IntKind.wrap .i64 ((i : Int) + 1) = ((i + 1 : Nat) : Int) := by rw [l_wrapI (l_in (by omega) (by omega))]; omega
      have e1 : ∀ r : List D, rowEqB r r = true := fun r => by unfold rowEqB; simp
      rw [l_idx hlt, l_lt hlt, e1, w1, cond_true, cond_true, cond_true, Bool.not_true, cond_false]
      exact of_loop h k n (i + 1) (by omega) (by omega)
    · rw [l_ge hlt, cond_false]

theorem k5 : FnOK Try.prog 5 Try.f5 := ⟨Try.func5, rfl, by kernel_rfl⟩
theorem law5 {n2 n3 n4 : Nat} (x0 x1 : D) {x2 x3 x4 : D} (t2 : Ty Try.prog n2 3 x2) (t3 : Ty Try.prog n3 3 x3) (t4 : Ty Try.prog n4 3 x4) :
    CallOK Try.prog 5 [dat 38 x0, dat 41 x1, dat 3 x2, dat 3 x3, dat 3 x4] (dat 4 (.lit (.bool true))) := by
  obtain ⟨t, rfl, _⟩ := ty3' t2
  obtain ⟨a, rfl, _⟩ := ty3' t3
  obtain ⟨b, rfl, _⟩ := ty3' t4
  have e0 : (dat 4 (.lit (.bool true)) : AV) = mkRes Try.prog 4 (.lit (.bool true)) := (m4 (.lit (.bool true))).symm
  rw [e0]
  refine fn_ok hm envD7 k5 ((t5 9 x0 x1 t a b).trans ?_)
  rw [← e0]
  cases q1 : fewData x1 with
  | false => rfl
  | true =>
    by_cases q2 : ((elemsD (fieldD x0 0)).length : Int) > 10
    · rw [dT q2]
      rfl
    · rw [dF q2]
      cases q3 : ofOK x0 x1 t a with
      | false => rfl
      | true =>
        cases q4 : ofOK x0 x1 t b with
        | false => rfl
        | true =>
          have h := told q3
          have k := told q4
          have hr : elemsD ((elemsD (fieldD x1 0)).getD t.toNat .nil) = elemsD ((tabs x1).getD t.toNat .nil) := rfl
          have htab : 0 ≤ t ∧ t < ((elemsD (fieldD x1 0)).length : Int) := h.tab
          have key := of_loop (N := 9) h k 9 0 (Nat.zero_le _) (by have := h.few; omega)
          generalize elemsD ((tabs x1).getD t.toNat .nil) = rows at h k hr key
          generalize (tabs x0).getD t.toNat .nil = T at h k key
          have i1 : (decide (0 ≤ t) && decide (t < ((elemsD (fieldD x1 0)).length : Int))) = true := by rw [dT htab.1, dT htab.2]; rfl
          have c1 : ((!(a == b)) == (a == b)) = false := by cases (a == b) <;> rfl
          have key2 : t5_lp13 Try.prog Try.f5 9 9 x0 x1 t a b 0 = some (dat 4 (.lit (.bool true))) := key
          rw [h.bag, k.bag, told_may h, told_may k, told_cross h k, c1, i1, hr, show elemsD (fieldD (seenBag T rows a) 1) = rows from rfl, show elemsD (fieldD (seenBag T rows b) 1) = rows from rfl,
            l_nef rfl, dF (show ¬ t < 0 by omega), dF (show ¬ t ≥ ((elemsD (fieldD x1 0)).length : Int) by omega)]
          simp only [Bool.not_true, beq_self_eq_true, cond_true, cond_false]
          exact key2

end Go.Proofs.Ytmopepjahjmdeaa

namespace Go.Proofs.Ytmopepjahjmdeaa
open Go.Ev
open Go.ChangeShapes Go.WideShapes Go.ChangeAt Go.RowKit
set_option linter.unusedVariables false

namespace dataOfLaw

theorem own : ownKnob Try.prog.godebug = none := by kernel_rfl
theorem laidOut : laidOutB Try.prog = true := by kernel_rfl
theorem types : okTypes Try.prog [3, 23, 32, 34, 36, 38, 39, 41, 85] = true := by kernel_rfl

set_option maxRecDepth 100000 in
theorem lifted (os : Os) (started : os.Started) (H : Type) (enc : TypeId × Value → H) :
    ReturnsInHanded {} Try.checked os 5 .any (Rows.dataOfSpec.pre6 enc Try.prog Try.f5 Rows.dataOfRow.domain false) (Rows.dataOfSpec.post enc Try.prog Try.f5 false true false false) := by
  refine returnsInHanded_of_change (C := Try.checked) own started (by kernel_rfl) Try.func5
    (ChangeSpec.witness6 (enc := enc) (C := Try.checked) false ⟨#[], #[.agg #[.slice none 0 0], .agg #[.slice none 0 0], .int .i64 0, .int .i64 0, .int .i64 0], []⟩ 8 (by kernel_rfl) (by kernel_rfl) (by kernel_rfl) (by kernel_rfl)) ?_
  intro W base args ds gs before hval0 hW hcnd _
  have hval : ∀ (j : Nat) t v, Try.f5.params[j]? = some t → args[j]? = some v → Value.okWide Try.prog W .any base t v := hval0
  have hW' := hW
  obtain ⟨p, q, hA0, hV, rfl, hfz, hnd⟩ := hW
  have hA : DataW.TrodAll enc Try.prog W 0 (fun _ => true) true Try.f5.params.toList args.toList ds p := hA0
  rw [Try.params5] at hA hval
  obtain ⟨v0, vs0, d0, ds0, p0, q0, hargs, rfl, rfl, h0, r0⟩ := trodAll_cons hA
  obtain ⟨v1, vs1, d1, ds1, p1, q1, rfl, rfl, rfl, h1, r1⟩ := trodAll_cons r0
  obtain ⟨v2, vs2, d2, ds2, p2, q2, rfl, rfl, rfl, h2, r2⟩ := trodAll_cons r1
  obtain ⟨v3, vs3, d3, ds3, p3, q3, rfl, rfl, rfl, h3, r3⟩ := trodAll_cons r2
  obtain ⟨v4, vs4, d4, ds4, p4, q4, rfl, rfl, rfl, h4, r4⟩ := trodAll_cons r3
  obtain ⟨rfl, rfl, rfl⟩ := trodAll_nil r4
  obtain rfl : args = #[v0, v1, v2, v3, v4] := by cases args; simp_all
  obtain ⟨rfl, rfl⟩ := trodVars_none hV
  have lt0 : ∀ x ∈ p0, x.block < W.heap.size := by obtain ⟨m, hm⟩ := h0; exact DataW.trod_lt m _ _ _ hm
  obtain ⟨n0, x0, ty0, rep0⟩ := arg_rep types (by decide) (hval 0 38 v0 rfl rfl) h0
  have lt1 : ∀ x ∈ p1, x.block < W.heap.size := by obtain ⟨m, hm⟩ := h1; exact DataW.trod_lt m _ _ _ hm
  obtain ⟨n1, x1, ty1, rep1⟩ := arg_rep types (by decide) (hval 1 41 v1 rfl rfl) h1
  have lt2 : ∀ x ∈ p2, x.block < W.heap.size := by obtain ⟨m, hm⟩ := h2; exact DataW.trod_lt m _ _ _ hm
  obtain ⟨n2, x2, ty2, rep2⟩ := arg_rep types (by decide) (hval 2 3 v2 rfl rfl) h2
  have lt3 : ∀ x ∈ p3, x.block < W.heap.size := by obtain ⟨m, hm⟩ := h3; exact DataW.trod_lt m _ _ _ hm
  obtain ⟨n3, x3, ty3, rep3⟩ := arg_rep types (by decide) (hval 3 3 v3 rfl rfl) h3
  have lt4 : ∀ x ∈ p4, x.block < W.heap.size := by obtain ⟨m, hm⟩ := h4; exact DataW.trod_lt m _ _ _ hm
  obtain ⟨n4, x4, ty4, rep4⟩ := arg_rep types (by decide) (hval 4 3 v4 rfl rfl) h4
  clear hA0 hval0
  refine (calls_true Try.underlying4 (law5 x0 x1 ty2 ty3 ty4) (w := W) (vs := [v0, v1, v2, v3, v4]) ⟨⟨rfl, rep0⟩, ⟨rfl, rep1⟩, ⟨rfl, rep2⟩, ⟨rfl, rep3⟩, ⟨rfl, rep4⟩, trivial⟩).mono fun e W' ⟨he, bel⟩ => ?_
  subst he
  exact ⟨_, rfl, _, _, _, [], _, [], hW', trodAll_mk1 (shut_bool Try.underlying4 _), (trodAll_cons_mk (Below.trod laidOut (by kernel_rfl) (of_decide_eq_true (by kernel_rfl)) h0 bel lt0) (trodAll_cons_mk (Below.trod laidOut (by kernel_rfl) (of_decide_eq_true (by kernel_rfl)) h1 bel lt1) (trodAll_cons_mk (Below.trod laidOut (by kernel_rfl) (of_decide_eq_true (by kernel_rfl)) h2 bel lt2) (trodAll_cons_mk (Below.trod laidOut (by kernel_rfl) (of_decide_eq_true (by kernel_rfl)) h3 bel lt3) (trodAll_cons_mk (Below.trod laidOut (by kernel_rfl) (of_decide_eq_true (by kernel_rfl)) h4 bel lt4) trodAll_mk0))))), rfl, bel.frame _, fun h => by cases h⟩

theorem over : Rows.dataOfRow.holds Try.pinned (OpenSpec.ofChange Rows.dataOfSpec) :=
  OpenClaim.holds_of_wide 5 Try.f5 rfl rfl rfl rfl rfl rfl rfl ⟨rfl, rfl, rfl, rfl, rfl⟩ rfl rfl rfl rfl rfl (by kernel_rfl) Try.func5 (by kernel_rfl)
    (of_decide_eq_true (by kernel_rfl)) (by unfold Func.isWrapper; first | (rw [if_pos (by decide +kernel)]; kernel_rfl) | (rw [if_neg (by decide +kernel)]; exact ⟨rfl, rfl⟩))
    (fun os started H enc _ => lifted os started H enc)

end dataOfLaw

/-- The statement. -/
theorem dataOfProved : Rows.DataOfSaid := dataOfLaw.over

end Go.Proofs.Ytmopepjahjmdeaa
