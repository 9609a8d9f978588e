/- QueryAll: of all occurrences everything must be so; every column of an expression is one of its set. Proved for every world, every order, every argument that the statement takes. -/
import Derived.Test.YtjgnknkbohlopaaQE
import Derived.WalkKit
import Derived.ProofKit
import Derived.OpenShut
import Derived.ShutString
import Derived.ChangeOld
import Derived.Below
namespace Go.Proofs.Ytjgnknkbohlopaa
namespace X
open Go.Ev
set_option linter.unusedVariables false
/- roadbook/roadbooklaw05.QueryAll -/
def t4_h : Hints := fun i => if i = 11 then some ([0, 1, 2, 3, 5, 6, 7, 8, 9, 10, 11, 13, 14, 15, 16, 17, 18, 19, 20, 21, 22, 23, 24, 25, 26, 27, 28, 29, 30, 31, 32, 33, 34, 35, 36, 37, 38, 39, 40, 41, 42, 43, 44, 45, 46, 47, 48, 49, 50, 51, 52, 53, 54, 55, 56, 57, 58, 59, 60, 61, 62, 63, 64, 65, 66, 67, 68, 69, 70, 71, 72, 73, 74, 75, 76, 77, 78, 79, 80, 81, 82, 83, 84, 85, 86, 87, 88, 89, 90, 91, 92, 93, 94, 95, 96, 97, 98, 99, 100, 101, 102, 103, 104, 105, 106, 107, 108, 109, 110, 111, 112, 113, 114, 115, 116, 117, 118, 119, 120, 121, 122, 123, 124, 125, 126, 127, 128, 129, 130, 131, 132, 133, 134, 135, 136, 137], [4], []) else if i = 18 then some ([0, 1, 2, 3, 5, 6, 7, 8, 9, 10, 11, 16, 17, 18, 19, 20, 21, 22, 23, 24, 25, 26, 27, 28, 29, 30, 31, 32, 33, 34, 35, 36, 37, 38, 39, 40, 41, 42, 43, 44, 45, 46, 47, 48, 49, 50, 51, 52, 53, 54, 55, 56, 57, 58, 59, 60, 61, 62, 63, 64, 65, 66, 67, 68, 69, 70, 71, 72, 73, 74, 75, 76, 77, 78, 79, 80, 81, 82, 83, 84, 85, 86, 87, 88, 89, 90, 91, 92, 93, 94, 95, 96, 97, 98, 99, 100, 101, 102, 103, 104, 105, 106, 107, 108, 109, 110, 111, 112, 113, 114, 115, 116, 117, 118, 119, 120, 121, 122, 123, 124, 125, 126, 127, 128, 129, 130, 131, 132, 133, 134, 135, 136, 137], [4], []) else none
def t4_lp11 (P : Program) (fn : Func) (N n : Nat) (x0 : D) (x1 : D) (x2 : Int) (v12 : Int) : Option AV := evLoop (preL t4_h (sub [1, 1, 1, 1, 1, 1, 1, 1, 0, 1, 0, 0] (bodyOf fn))) (evCode P (envR Q9 [] [] []) t4_h N (sub [1, 1, 1, 1, 1, 1, 1, 1, 0, 1, 0, 0] (bodyOf fn))) n ⟨[dead, dead, dead, dead, bxp 4 28, dead, dead, dead, dead, dead, dead, dead, dat 3 (.lit (.int .i64 v12)), dead, dead, dead, dead, dead, dead, dead, dead, dead, dead, dead, dead, dead, dead, dead, dead, dead, dead, dead, dead, dead, dead, dead, dead, dead, dead, dead, dead, dead, dead, dead, dead, dead, dead, dead, dead, dead, dead, dead, dead, dead, dead, dead, dead, dead, dead, dead, dead, dead, dead, dead, dead, dead, dead, dead, dead, dead, dead, dead, dead, dead, dead, dead, dead, dead, dead, dead, dead, dead, dead, dead, dead, dead, dead, dead, dead, dead, dead, dead, dead, dead, dead, dead, dead, dead, dead, dead, dead, dead, dead, dead, dead, dead, dead, dead, dead, dead, dead, dead, dead, dead, dead, dead, dead, dead, dead, dead, dead, dead, dead, dead, dead, dead, dead, dead, dead, dead, dead, dead, dead, dead, dead, dead, dead, dead], lookB [(4, some ⟨28, x1, 0, none⟩)]⟩ (blockK 0 (seqC P (envR Q9 [] [] []) t4_h N (sub [1, 1, 1, 1, 1, 1, 1, 1, 1] (bodyOf fn)) (finK P fn) ))
def t4_lp18 (P : Program) (fn : Func) (N n : Nat) (x0 : D) (x1 : D) (x2 : Int) (v12 : Int) (m0 : Nat) (v15 : Int) : Option AV := evLoop (preL t4_h (sub [1, 1, 1, 1, 1, 1, 1, 1, 0, 1, 0, 0, 1, 0, 0, 1, 1, 1, 1, 0, 0] (bodyOf fn))) (evCode P (envR Q9 [] [] []) t4_h N (sub [1, 1, 1, 1, 1, 1, 1, 1, 0, 1, 0, 0, 1, 0, 0, 1, 1, 1, 1, 0, 0] (bodyOf fn))) n ⟨[dead, dead, dead, dead, bxp 4 28, dead, dead, dead, dead, dead, dead, dead, dat 3 (.lit (.int .i64 v12)), dat 3 (.lit (.int .i64 (ofE ((elemsD (fieldD x1 1)).getD (v12).toNat .nil)))), dat 25 (.slice (colsE ((elemsD (fieldD x1 1)).getD (v12).toNat .nil)) []), dat 3 (.lit (.int .i64 v15)), dead, dead, dead, dead, dead, dead, dead, dead, dead, dead, dead, dead, dead, dead, dead, dead, dead, dead, dead, dead, dead, dead, dead, dead, dead, dead, dead, dead, dead, dead, dead, dead, dead, dead, dead, dead, dead, dead, dead, dead, dead, dead, dead, dead, dead, dead, dead, dead, dead, dead, dead, dead, dead, dead, dead, dead, dead, dead, dead, dead, dead, dead, dead, dead, dead, dead, dead, dead, dead, dead, dead, dead, dead, dead, dead, dead, dead, dead, dead, dead, dead, dead, dead, dead, dead, dead, dead, dead, dead, dead, dead, dead, dead, dead, dead, dead, dead, dead, dead, dead, dead, dead, dead, dead, dead, dead, dead, dead, dead, dead, dead, dead, dead, dead, dead, dead, dead, dead, dead, dead, dead, dead], lookB [(4, some ⟨28, x1, 0, none⟩)]⟩ (blockK 2 (blockK 1 (seqC P (envR Q9 [] [] []) t4_h N (sub [1, 1, 1, 1, 1, 1, 1, 1, 0, 1, 0, 0, 1, 1] (bodyOf fn)) (seqK (fun s => evLoop (preL t4_h (sub [1, 1, 1, 1, 1, 1, 1, 1, 0, 1, 0, 0] (bodyOf fn))) (evCode P (envR Q9 [] [] []) t4_h N (sub [1, 1, 1, 1, 1, 1, 1, 1, 0, 1, 0, 0] (bodyOf fn))) m0 ((preL t4_h (sub [1, 1, 1, 1, 1, 1, 1, 1, 0, 1, 0, 0] (bodyOf fn))) s) (blockK 0 (seqC P (envR Q9 [] [] []) t4_h N (sub [1, 1, 1, 1, 1, 1, 1, 1, 1] (bodyOf fn)) (finK P fn) ))) (blockK 0 (seqC P (envR Q9 [] [] []) t4_h N (sub [1, 1, 1, 1, 1, 1, 1, 1, 1] (bodyOf fn)) (finK P fn) ))) )))
theorem t4_lp18_step (N n : Nat) (x0 : D) (x1 : D) (x2 : Int) (v12 : Int) (m0 : Nat) (v15 : Int) : t4_lp18 Try.prog Try.f4 N (n + 1) x0 x1 x2 v12 m0 v15 =
  bif decide (v15 < ((colsE ((elemsD (fieldD x1 1)).getD (v12).toNat .nil)).length : Int)) then
    bif (decide (0 ≤ v15) && decide (v15 < ((colsE ((elemsD (fieldD x1 1)).getD (v12).toNat .nil)).length : Int))) then
      bif ((!(belowB (intD ((colsE ((elemsD (fieldD x1 1)).getD (v12).toNat .nil)).getD (v15).toNat .nil)) 16)) == false) then
        bif ((!(bitB (ofE ((elemsD (fieldD x1 1)).getD (v12).toNat .nil)) (splitA (intD ((colsE ((elemsD (fieldD x1 1)).getD (v12).toNat .nil)).getD (v15).toNat .nil))))) == false) then
          bif decide ((splitA (intD ((colsE ((elemsD (fieldD x1 1)).getD (v12).toNat .nil)).getD (v15).toNat .nil))) ≥ ((elemsD (fieldD x1 0)).length : Int)) then
            some (dat 4 (.lit (.bool false)))
          else t4_lp18 Try.prog Try.f4 N n x0 x1 x2 v12 m0 (IntKind.wrap .i64 (v15 + 1))
        else some (dat 4 (.lit (.bool false)))
      else some (dat 4 (.lit (.bool false)))
    else none
  else t4_lp11 Try.prog Try.f4 N m0 x0 x1 x2 (IntKind.wrap .i64 (v12 + 1)) := by kernel_rfl
theorem t4_lp11_step (N n : Nat) (x0 : D) (x1 : D) (x2 : Int) (v12 : Int) : t4_lp11 Try.prog Try.f4 N (n + 1) x0 x1 x2 v12 =
  bif decide (v12 < ((elemsD (fieldD x1 1)).length : Int)) then
    bif (decide (0 ≤ v12) && decide (v12 < ((elemsD (fieldD x1 1)).length : Int))) then
      bif (decide (0 ≤ v12) && decide (v12 < ((elemsD (fieldD x1 1)).length : Int))) then
        bif ((decide ((ofE ((elemsD (fieldD x1 1)).getD (v12).toNat .nil)) < 1)) == false) then
          bif decide ((ofE ((elemsD (fieldD x1 1)).getD (v12).toNat .nil)) > 15) then
            some (dat 4 (.lit (.bool false)))
          else t4_lp18 Try.prog Try.f4 N N x0 x1 x2 v12 n 0
        else some (dat 4 (.lit (.bool false)))
      else none
    else none
  else some (dat 4 (.lit (.bool true))) := by kernel_rfl
theorem t4 (N : Nat) (x0 : D) (x1 : D) (x2 : Int) : evFn Try.prog (envR Q9 [] [] []) t4_h N Try.f4 [dat 24 x0, dat 28 x1, dat 3 (.lit (.int .i64 x2))] =
  bif ((!(fewQ fewB x0 x1)) == false) then
    bif ((!(mayQ x0 x1)) == false) then
      bif ((decide (x2 < 0)) == false) then
        bif decide (x2 > 15) then
          some (dat 4 (.lit (.bool true)))
        else bif decide ((qP x1).length ≤ 2147483647) then
            bif ((((ownL x1 15).length : Int) != ((elemsD (fieldD x1 1)).length : Int)) == false) then
              bif (((IntKind.wrap .i64 (((colsQ x0 x1 x2).length : Int) + ((colsQ x0 x1 (IntKind.wrap .i64 (15 - x2))).length : Int))) != ((colsQ x0 x1 15).length : Int)) == false) then
                bif decide ((qP x1).length ≤ 2147483647) then
                  bif (((ownL x1 0).length : Int) != 0) then
                    some (dat 4 (.lit (.bool false)))
                  else t4_lp11 Try.prog Try.f4 N N x0 x1 x2 0
                else none
              else some (dat 4 (.lit (.bool false)))
            else some (dat 4 (.lit (.bool false)))
          else none
      else some (dat 4 (.lit (.bool true)))
    else some (dat 4 (.lit (.bool true)))
  else some (dat 4 (.lit (.bool true))) := by kernel_rfl

end X
end Go.Proofs.Ytjgnknkbohlopaa

namespace Go.Proofs.Ytjgnknkbohlopaa
namespace X
open Go.Ev
set_option linter.unusedVariables false
set_option maxRecDepth 10000
set_option linter.unusedSimpArgs false

theorem occCols_len {c q : D} (h1 : mayCat c = true) (h2 : occMayB c q = true) (s : Int) {o : Nat} (ho : o < (qOcc q).length) : (occColsL c q s o).length = bif inS s o then (tabC c q (o : Int)).toNat else 0 := by
  have h4 := occ_len h2
  unfold occColsL
  rw [has_alone (show 0 ≤ (o : Int) ∧ (o : Int) < 4 by omega), Int.toNat_natCast]
  cases inS s o
  · rfl
  · rw [cond_true, cond_true, seenCols_len]
theorem in15 {o : Nat} (h : o < 4) : inS 15 o = true := by
  have : o = 0 ∨ o = 1 ∨ o = 2 ∨ o = 3 := by omega
  rcases this with rfl | rfl | rfl | rfl <;> decide
theorem cols_all {c q : D} {a : Int} (hm : mayQ c q = true) (ha : 0 ≤ a ∧ a ≤ 15) : (colsQ c q a).length + (colsQ c q (15 - a)).length = (colsQ c q 15).length ∧ (colsQ c q 15).length ≤ 16 := by
  obtain ⟨h1, h2, _, _⟩ := may_cat hm
  have h4 := occ_len h2
  unfold colsQ
  rw [hm, cond_true, cond_true, cond_true]
  constructor
  · refine flat3 _ fun o ho => ?_
    have ho : o < (qOcc q).length := by simpa using ho
    rw [occCols_len h1 h2 a ho, occCols_len h1 h2 (15 - a) ho, occCols_len h1 h2 15 ho, all_in ha (show o < 4 by omega), in15 (show o < 4 by omega)]
    cases inS a o <;> simp
  · have := flat_le (k := 4) (f := occColsL c q 15) (List.range (qOcc q).length) (fun o ho => by
      have ho : o < (qOcc q).length := by simpa using ho
      have := tab_in h1 h2 ho
      rw [occCols_len h1 h2 15 ho]
      cases inS 15 o <;> simp
      omega)
    rw [List.length_range] at this
    omega
theorem col_fine {c q e : D} (hc : areColB c q (colsE e) = true) {x : D} (hx : x ∈ colsE e) : belowB (intD x) 16 = true ∧ bitB (ofE e) (splitA (intD x)) = true ∧ splitA (intD x) < ((qOcc q).length : Int) := by
  unfold areColB at hc
  rw [List.all_eq_true] at hc
  have h := hc x hx
  unfold isColB at h
  simp only [Bool.and_eq_true, decide_eq_true_eq] at h
  refine ⟨h.1, ?_, h.2.1⟩
  rw [bit_in (of_in e) (split_lt _), inS_of, List.any_eq_true]
  refine ⟨x, hx, ?_⟩
  have := split_lt (intD x)
  rw [decide_eq_true_eq]
  omega
theorem all_inner {N m0 i : Nat} {c q : D} {a : Int} (hi : i < (elemsD (fieldD q 1)).length) (hc : areColB c q (colsE ((elemsD (fieldD q 1)).getD i .nil)) = true) (n : Nat) (hn : 16 < n) :
    t4_lp18 Try.prog Try.f4 N n c q a (i : Int) m0 0 = t4_lp11 Try.prog Try.f4 N m0 c q a (IntKind.wrap .i64 ((i : Int) + 1)) := by
  have hl := cols_few ((elemsD (fieldD q 1)).getD i .nil)
  have := l_loop (fun n v => t4_lp18 Try.prog Try.f4 N n c q a (i : Int) m0 v) (colsE ((elemsD (fieldD q 1)).getD i .nil)).length (fun _ => false) none (t4_lp11 Try.prog Try.f4 N m0 c q a (IntKind.wrap .i64 ((i : Int) + 1)))
    (fun n j hj => by
      rw [t4_lp18_step, Int.toNat_natCast, l_idx hj, l_lt hj, cond_true, cond_true, Int.toNat_natCast]
      obtain ⟨g1, g2, g3⟩ := col_fine hc (List.getElem_mem hj)
      rw [l_get hj, g1, g2, ge_not, dF (show ¬ (((elemsD (fieldD q 0)).length : Int) ≤ splitA (intD (colsE ((elemsD (fieldD q 1)).getD i .nil))[j])) from fun hh => absurd g3 (by unfold qOcc; omega)), l_wrap (Nat.le_trans hl (by unfold maxLen; omega)) hj]
      rfl)
    (fun n => by rw [t4_lp18_step, Int.toNat_natCast, l_ge (by omega), cond_false]) n 0 (Nat.zero_le _) (by omega)
  refine this.trans ?_
  rw [show (List.range' 0 ((colsE ((elemsD (fieldD q 1)).getD i .nil)).length - 0)).any (fun _ => false) = false by simp, cond_false]
theorem all_outer {N : Nat} {c q : D} {a : Int} (hN : 16 < N) (hl : (elemsD (fieldD q 1)).length ≤ maxLen) (he : exprMayB c q = true) : ∀ (n i : Nat), i ≤ (elemsD (fieldD q 1)).length → (elemsD (fieldD q 1)).length - i < n →
    t4_lp11 Try.prog Try.f4 N n c q a (i : Int) = some (dat 4 (.lit (.bool true)))
  | 0, i, _, h => by omega
  | n + 1, i, hi, h => by
    rw [t4_lp11_step]
    by_cases hlt : i < (elemsD (fieldD q 1)).length
    · have hmem : (elemsD (fieldD q 1)).getD i .nil ∈ qP q := by rw [l_get hlt]; exact List.getElem_mem hlt
      obtain ⟨g1, g2⟩ := expr_ne he hmem
      have p1 := of_pos g1
      have p2 := (of_in ((elemsD (fieldD q 1)).getD i .nil)).2
      rw [l_idx hlt, l_lt hlt, cond_true, cond_true, cond_true, Int.toNat_natCast, dF (show ¬ ofE ((elemsD (fieldD q 1)).getD i .nil) < 1 by omega), dF (show ¬ ofE ((elemsD (fieldD q 1)).getD i .nil) > 15 by omega), beq_self_eq_true, cond_true, cond_false, all_inner hlt g2 N hN, l_wrap hl hlt]
      exact all_outer hN hl he n (i + 1) (by omega) (by omega)
    · rw [l_ge hlt, cond_false]
theorem k4 : FnOK Try.prog 4 Try.f4 := ⟨Try.func4, rfl, by kernel_rfl⟩
theorem lawAll {n0 n1 n2 : Nat} {c q x2 : D} (h0 : Ty Try.prog n0 24 c) (h1 : Ty Try.prog n1 28 q) (h2 : Ty Try.prog n2 3 x2) :
    CallOK Try.prog 4 [dat 24 c, dat 28 q, dat 3 x2] (dat 4 (.lit (.bool true))) := by
  obtain ⟨a, rfl, _⟩ := ty3' h2
  refine law_ok envQ9 k4 ((t4 30 c q a).trans ?_)
  cases hf : fewQ fewB c q with
  | false => rfl
  | true =>
    cases hmq : mayQ c q with
    | false => rfl
    | true =>
      by_cases a0 : a < 0
      · rw [dT a0]; rfl
      rw [dF a0]
      by_cases a1 : a > 15
      · rw [dT a1]; rfl
      rw [dF a1]
      obtain ⟨_, _, he, _⟩ := may_cat hmq
      have hP := (few_len hf).1
      have hP' : (elemsD (fieldD q 1)).length ≤ 8 := hP
      obtain ⟨s1, s2⟩ := cols_all hmq (show 0 ≤ a ∧ a ≤ 15 by omega)
      have o1 : (ownL q 15).length = (elemsD (fieldD q 1)).length := by
        unfold ownL
        rw [plc_len]
        exact countP_all _ fun e _ => has_all e
      have o0 : (ownL q 0).length = 0 := by
        unfold ownL
        rw [plc_len]
        exact countP_not _ fun e he' => has_none (expr_ne he he').1
      have E1 : (((ownL q 15).length : Int) != ((elemsD (fieldD q 1)).length : Int)) = false := by rw [o1]; simp
      have E2 : (IntKind.wrap .i64 (((colsQ c q a).length : Int) + ((colsQ c q (15 - a)).length : Int)) != ((colsQ c q 15).length : Int)) = false := by
        rw [l_wrapI (l_in (by omega) (by omega)), bne_eq_false_iff_eq]
        omega
      have E3 : (((ownL q 0).length : Int) != 0) = false := by rw [o0]; rfl
      have lp := all_outer (N := 30) (c := c) (q := q) (a := a) (by omega) (Nat.le_trans hP' (by unfold maxLen; omega)) he 30 0 (Nat.zero_le _) (by omega)
      have lp : t4_lp11 Try.prog Try.f4 30 30 c q a 0 = _ := lp
      rw [l_wrapI (z := 15 - a) (l_in (by omega) (by omega)), dT (show (qP q).length ≤ 2147483647 by omega), E1, E2, E3, lp]
      rfl

end X
end Go.Proofs.Ytjgnknkbohlopaa

namespace Go.Proofs.Ytjgnknkbohlopaa
open Go.Ev
open Go.ChangeShapes Go.WideShapes Go.ChangeAt Go.RowKit
set_option linter.unusedVariables false

namespace queryAllLaw

theorem own : ownKnob Try.prog.godebug = none := by kernel_rfl
theorem laidOut : laidOutB Try.prog = true := by kernel_rfl
theorem types : okTypes Try.prog [3, 25, 26, 40, 38, 22, 66, 24, 28] = true := by kernel_rfl

set_option maxRecDepth 100000 in
theorem lifted (os : Os) (started : os.Started) (H : Type) (enc : TypeId × Value → H) :
    ReturnsInHanded {} Try.checked os 4 .any (Rows.queryAllSpec.pre6 enc Try.prog Try.f4 Rows.queryAllRow.domain false) (Rows.queryAllSpec.post enc Try.prog Try.f4 false true false false) := by
  refine returnsInHanded_of_change (C := Try.checked) own started (by kernel_rfl) Try.func4
    (ChangeSpec.witness6 (enc := enc) (C := Try.checked) false ⟨#[], #[.agg #[.slice none 0 0], .agg #[.slice none 0 0, .slice none 0 0, .int .i64 0, .slice none 0 0, .slice none 0 0, .int .i64 0], .int .i64 0], []⟩ 8 (by kernel_rfl) (by kernel_rfl) (by kernel_rfl) (by kernel_rfl)) ?_
  intro W base args ds gs before hval0 hW hcnd _
  have hval : ∀ (j : Nat) t v, Try.f4.params[j]? = some t → args[j]? = some v → Value.okWide Try.prog W .any base t v := hval0
  have hW' := hW
  obtain ⟨p, q, hA0, hV, rfl, hfz, hnd⟩ := hW
  have hA : DataW.TrodAll enc Try.prog W 0 (fun _ => true) true Try.f4.params.toList args.toList ds p := hA0
  rw [Try.params4] at hA hval
  obtain ⟨v0, vs0, d0, ds0, p0, q0, hargs, rfl, rfl, h0, r0⟩ := trodAll_cons hA
  obtain ⟨v1, vs1, d1, ds1, p1, q1, rfl, rfl, rfl, h1, r1⟩ := trodAll_cons r0
  obtain ⟨v2, vs2, d2, ds2, p2, q2, rfl, rfl, rfl, h2, r2⟩ := trodAll_cons r1
  obtain ⟨rfl, rfl, rfl⟩ := trodAll_nil r2
  obtain rfl : args = #[v0, v1, v2] := by cases args; simp_all
  obtain ⟨rfl, rfl⟩ := trodVars_none hV
  have lt0 : ∀ x ∈ p0, x.block < W.heap.size := by obtain ⟨m, hm⟩ := h0; exact DataW.trod_lt m _ _ _ hm
  obtain ⟨n0, x0, ty0, rep0⟩ := arg_rep types (by decide) (hval 0 24 v0 rfl rfl) h0
  have lt1 : ∀ x ∈ p1, x.block < W.heap.size := by obtain ⟨m, hm⟩ := h1; exact DataW.trod_lt m _ _ _ hm
  obtain ⟨n1, x1, ty1, rep1⟩ := arg_rep types (by decide) (hval 1 28 v1 rfl rfl) h1
  have lt2 : ∀ x ∈ p2, x.block < W.heap.size := by obtain ⟨m, hm⟩ := h2; exact DataW.trod_lt m _ _ _ hm
  obtain ⟨n2, x2, ty2, rep2⟩ := arg_rep types (by decide) (hval 2 3 v2 rfl rfl) h2
  clear hA0 hval0
  refine (calls_true Try.underlying4 (tabOn_none (by kernel_rfl) _ _) (X.lawAll ty0 ty1 ty2) (w := W) (vs := [v0, v1, v2]) ⟨⟨rfl, rep0⟩, ⟨rfl, rep1⟩, ⟨rfl, rep2⟩, trivial⟩).mono fun e W' ⟨he, bel⟩ => ?_
  subst he
  exact ⟨_, rfl, _, _, _, [], _, [], hW', trodAll_mk1 (shut_bool Try.underlying4 _), (trodAll_cons_mk (Below.trod laidOut (by kernel_rfl) (of_decide_eq_true (by kernel_rfl)) h0 bel lt0) (trodAll_cons_mk (Below.trod laidOut (by kernel_rfl) (of_decide_eq_true (by kernel_rfl)) h1 bel lt1) (trodAll_cons_mk (Below.trod laidOut (by kernel_rfl) (of_decide_eq_true (by kernel_rfl)) h2 bel lt2) trodAll_mk0))), rfl, bel.frame _, fun h => by cases h⟩

theorem over : Rows.queryAllRow.holds Try.pinned (OpenSpec.ofChange Rows.queryAllSpec) :=
  OpenClaim.holds_of_wide 4 Try.f4 rfl rfl rfl rfl rfl rfl rfl ⟨rfl, rfl, rfl, rfl, rfl⟩ rfl rfl rfl rfl rfl (by kernel_rfl) Try.func4 (by kernel_rfl)
    (of_decide_eq_true (by kernel_rfl)) (by unfold Func.isWrapper; first | (rw [if_pos (by decide +kernel)]; kernel_rfl) | (rw [if_neg (by decide +kernel)]; exact ⟨rfl, rfl⟩))
    (fun os started H enc _ => lifted os started H enc)

end queryAllLaw

/-- The statement. -/
theorem queryAllProved : Rows.QueryAllSaid := queryAllLaw.over

end Go.Proofs.Ytjgnknkbohlopaa
