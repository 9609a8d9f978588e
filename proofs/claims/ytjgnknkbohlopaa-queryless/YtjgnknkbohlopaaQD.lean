/- What the evaluator comes to, function by function: by the kernel. Nothing here is trusted. -/
import Derived.Test.YtjgnknkbohlopaaQC
namespace Go.Proofs.Ytjgnknkbohlopaa
namespace X
open Go.Ev
set_option linter.unusedVariables false
/- roadbook/query.May -/
def t10_h : Hints := fun _ =>  none
theorem t10 (N : Nat) (x0 : D) (x1 : D) : evFn Try.prog (envR Q6 [] [] []) t10_h N Try.f10 [dat 24 x0, dat 28 x1] =
  bif ((mayCat x0) == true) then
    bif ((occMayB x0 x1) == true) then
      bif occMayB x0 x1 then
        bif ((exprMayB x0 x1) == true) then
          bif occMayB x0 x1 then
            some (dat 4 (.lit (.bool (endB x0 x1))))
          else none
        else some (dat 4 (.lit (.bool false)))
      else none
    else some (dat 4 (.lit (.bool false)))
  else some (dat 4 (.lit (.bool false))) := by kernel_rfl

/- roadbook/query.New -/
def t12_h : Hints := fun _ =>  none
theorem t12 (N : Nat) (x0 : D) (x1 : Int) (x2 : Int) : evFn Try.prog (envR Q6 Q6h [] []) t12_h N Try.f12 [dat 28 x0, dat 3 (.lit (.int .i64 x1)), dat 3 (.lit (.int .i64 x2))] =
  bif decide ((qP x0).length ≤ 2147483647) then
    some (dat 25 (.slice (plc (fun e => askB (orI .i64 x1 x2) x1 x2 (ofE e)) (qP x0) 0) []))
  else none := by kernel_rfl

end X
end Go.Proofs.Ytjgnknkbohlopaa

namespace Go.Proofs.Ytjgnknkbohlopaa
namespace X
open Go.Ev
set_option linter.unusedVariables false
set_option maxRecDepth 10000
set_option linter.unusedSimpArgs false

def e10 : FuncId × TypeId × (List AV → Bool) × (List AV → Option D) := (10, 4, yes, ent [24, 28] (f2 fun x y => some (.lit (.bool (mayQ x y)))))
theorem k10 : FnOK Try.prog 10 Try.f10 := ⟨Try.func10, rfl, by kernel_rfl⟩
theorem c10 : ∀ args d, e10.2.2.2 args = some d → CallOK Try.prog 10 args (mkRes Try.prog 4 d) :=
  ent2 k10 fun x y d h _ _ => by
    cases h
    rw [nCat, nQry]
    refine fn_ok hm envQ6 k10 ((t10 1 x y).trans ?_)
    rw [m4]
    show _ = some (dat 4 (.lit (.bool (mayQ x y))))
    unfold mayQ
    cases mayCat x <;> cases occMayB x y <;> cases exprMayB x y <;> rfl
def e12 : FuncId × TypeId × (List AV → Bool) × (List AV → Option D) := (12, 25, preD (q3 fun x _ _ => decide ((qP x).length ≤ 2147483647)), ent [28, 3, 3] (f3 fun x y z => some (.slice (newL x (intD y) (intD z)) [])))
theorem k12 : FnOK Try.prog 12 Try.f12 := ⟨Try.func12, rfl, by kernel_rfl⟩
theorem c12 : ∀ args d, e12.2.2.1 args = true → e12.2.2.2 args = some d → CallOK Try.prog 12 args (mkRes Try.prog 25 d) :=
  ent3p k12 fun x y z d hq h _ _ _ => by
    cases h
    rw [nQry, n3, n3]
    have hq : decide ((qP x).length ≤ 2147483647) = true := hq
    refine fn_ok hm envQ6h k12 ((t12 1 x (intD y) (intD z)).trans ?_)
    rw [m27, hq]
    rfl
def Q7 : Tab := e12 :: e10 :: Q6
theorem envQ7 : EnvOK Try.prog (envH Q7 []) := envOK_cons' (envOK_cons envQ6 c10) c12

end X
end Go.Proofs.Ytjgnknkbohlopaa

namespace Go.Proofs.Ytjgnknkbohlopaa
namespace X
open Go.Ev
set_option linter.unusedVariables false
/- roadbook/query.Cols -/
def t14_h : Hints := fun i => if i = 6 then some ([0, 1, 2, 5, 6, 9, 10, 11, 12, 13, 14, 15, 16, 17, 18, 21, 22, 23, 24, 25, 26, 27, 28, 29, 30, 31, 32, 33, 34, 35, 36, 37, 38, 39, 40, 41, 42, 43, 44, 45, 46, 47, 48, 49], [3, 4, 7], []) else if i = 10 then some ([0, 1, 2, 5, 6, 10, 11, 12, 13, 14, 15, 16, 17, 18, 21, 22, 23, 24, 25, 26, 27, 28, 29, 30, 31, 32, 33, 34, 35, 36, 39, 40, 41, 42, 43, 44, 45, 46, 47, 48, 49], [3, 4, 7], []) else none
def t14_lp6 (P : Program) (fn : Func) (N n : Nat) (x0 : D) (x1 : D) (x2 : Int) (v20 : Int) (b7 : List D) : Option AV := evLoop (preL t14_h (sub [1, 1, 1, 1, 0, 1, 0, 0] (bodyOf fn))) (evCode P (envR Q7 [] [] []) t14_h N (sub [1, 1, 1, 1, 0, 1, 0, 0] (bodyOf fn))) n ⟨[dead, dead, dead, bxp 3 24, bxp 4 28, dead, dead, bxp 7 25, dat 62 (bndD 32 3 (.lit (.int .i64 x2))), dead, dead, dead, dead, dead, dead, dead, dead, dead, dead, dat 3 (.lit (.int .i64 ((elemsD (fieldD x1 0)).length : Int))), dat 3 (.lit (.int .i64 v20)), dead, dead, dead, dead, dead, dead, dead, dead, dead, dead, dead, dead, dead, dead, dead, dead, dead, dead, dead, dead, dead, dead, dead, dead, dead, dead, dead, dead, dead], lookB [(3, some ⟨24, x0, 0, none⟩), (4, some ⟨28, x1, 0, none⟩), (7, some ⟨25, .slice b7 [], 1, none⟩)]⟩ (blockK 0 (seqC P (envR Q7 [] [] []) t14_h N (sub [1, 1, 1, 1, 1] (bodyOf fn)) (finK P fn) ))
def t14_lp10 (P : Program) (fn : Func) (N n : Nat) (x0 : D) (x1 : D) (x2 : Int) (v20 : Int) (b7 : List D) (m0 : Nat) (v38 : Int) (b7q : List D) : Option AV := evLoop (preL t14_h (sub [1, 1, 1, 1, 0, 1, 0, 0, 1, 1, 0, 0, 1, 1, 1, 0, 0] (bodyOf fn))) (evCode P (envR Q7 [] [] []) t14_h N (sub [1, 1, 1, 1, 0, 1, 0, 0, 1, 1, 0, 0, 1, 1, 1, 0, 0] (bodyOf fn))) n ⟨[dead, dead, dead, bxp 3 24, bxp 4 28, dead, dead, bxp 7 25, dat 62 (bndD 32 3 (.lit (.int .i64 x2))), dat 3 (.lit (.int .i64 v20)), dead, dead, dead, dead, dead, dead, dead, dead, dead, dat 3 (.lit (.int .i64 ((elemsD (fieldD x1 0)).length : Int))), dat 3 (.lit (.int .i64 v20)), dead, dead, dead, dead, dead, dead, dead, dead, dead, dead, dead, dead, dead, dead, dead, dead, dat 3 (.lit (.int .i64 (intD (fieldD ((elemsD (fieldD x0 0)).getD (intD ((elemsD (fieldD x1 0)).getD (v20).toNat .nil)).toNat .nil) 0)))), dat 3 (.lit (.int .i64 v38)), dead, dead, dead, dead, dead, dead, dead, dead, dead, dead, dead], lookB [(3, some ⟨24, x0, 0, none⟩), (4, some ⟨28, x1, 0, none⟩), (7, some ⟨25, .slice b7q [], 1, none⟩)]⟩ (blockK 2 (blockK 1 (seqC P (envR Q7 [] [] []) t14_h N (sub [1, 1, 1, 1, 0, 1, 0, 0, 1, 1, 1] (bodyOf fn)) (seqK (fun s => evLoop (preL t14_h (sub [1, 1, 1, 1, 0, 1, 0, 0] (bodyOf fn))) (evCode P (envR Q7 [] [] []) t14_h N (sub [1, 1, 1, 1, 0, 1, 0, 0] (bodyOf fn))) m0 ((preL t14_h (sub [1, 1, 1, 1, 0, 1, 0, 0] (bodyOf fn))) s) (blockK 0 (seqC P (envR Q7 [] [] []) t14_h N (sub [1, 1, 1, 1, 1] (bodyOf fn)) (finK P fn) ))) (blockK 0 (seqC P (envR Q7 [] [] []) t14_h N (sub [1, 1, 1, 1, 1] (bodyOf fn)) (finK P fn) ))) )))
theorem t14_lp10_step (N n : Nat) (x0 : D) (x1 : D) (x2 : Int) (v20 : Int) (b7 : List D) (m0 : Nat) (v38 : Int) (b7q : List D) : t14_lp10 Try.prog Try.f14 N (n + 1) x0 x1 x2 v20 b7 m0 v38 b7q =
  bif decide (v38 < (intD (fieldD ((elemsD (fieldD x0 0)).getD (intD ((elemsD (fieldD x1 0)).getD (v20).toNat .nil)).toNat .nil) 0))) then
    bif decide ((b7q).length + 1 ≤ 2147483648) then
      t14_lp10 Try.prog Try.f14 N n x0 x1 x2 v20 b7 m0 (IntKind.wrap .i64 (v38 + 1)) (b7q ++ [.lit (.int .i64 (colN v20 v38))])
    else none
  else t14_lp6 Try.prog Try.f14 N m0 x0 x1 x2 (IntKind.wrap .i64 (v20 + 1)) b7q := by kernel_rfl
theorem t14_lp6_step (N n : Nat) (x0 : D) (x1 : D) (x2 : Int) (v20 : Int) (b7 : List D) : t14_lp6 Try.prog Try.f14 N (n + 1) x0 x1 x2 v20 b7 =
  bif decide (v20 < ((elemsD (fieldD x1 0)).length : Int)) then
    bif decide (0 ≤ v20) then
      bif (!(hasS x2 (aloneI v20))) then
        t14_lp6 Try.prog Try.f14 N n x0 x1 x2 (IntKind.wrap .i64 (v20 + 1)) b7
      else bif (decide (0 ≤ v20) && decide (v20 < ((elemsD (fieldD x1 0)).length : Int))) then
          bif (decide (0 ≤ (intD ((elemsD (fieldD x1 0)).getD (v20).toNat .nil))) && decide ((intD ((elemsD (fieldD x1 0)).getD (v20).toNat .nil)) < ((elemsD (fieldD x0 0)).length : Int))) then
            t14_lp10 Try.prog Try.f14 N N x0 x1 x2 v20 b7 n 0 b7
          else none
        else none
    else none
  else some (dat 25 (.slice b7 [])) := by kernel_rfl
theorem t14 (N : Nat) (x0 : D) (x1 : D) (x2 : Int) : evFn Try.prog (envR Q7 [] [] []) t14_h N Try.f14 [dat 24 x0, dat 28 x1, dat 3 (.lit (.int .i64 x2))] =
  bif (!(mayQ x0 x1)) then
    some (dat 25 (.slice [] []))
  else t14_lp6 Try.prog Try.f14 N N x0 x1 x2 0 [] := by kernel_rfl

/- roadbook/query.Pairs -/
def t19_h : Hints := fun i => if i = 4 then some ([0, 1, 2, 4, 5, 6, 10, 11, 12, 13, 14, 15, 16, 17, 18, 19, 20, 21, 25, 26, 27, 28, 29, 30, 31, 32, 33, 34, 35, 36, 37, 38, 39, 40, 41, 42, 43, 44, 45, 46, 47, 48, 49, 50, 51, 52, 53, 54, 55, 56, 57, 58, 59, 60, 61, 62, 63, 64, 65, 66, 67, 68, 69, 70, 71, 72, 73, 74, 75, 76], [3, 7], []) else none
def t19_lp4 (P : Program) (fn : Func) (N n : Nat) (x0 : D) (x1 : Int) (x2 : Int) (v24 : Int) (b7 : List D) : Option AV := evLoop (preL t19_h (sub [1, 1, 1, 0, 1, 0, 0] (bodyOf fn))) (evCode P (envR Q7 [] [] []) t19_h N (sub [1, 1, 1, 0, 1, 0, 0] (bodyOf fn))) n ⟨[dead, dead, dead, bxp 3 28, dead, dead, dead, bxp 7 46, dat 62 (bndD 32 3 (.lit (.int .i64 x1))), dat 62 (bndD 32 3 (.lit (.int .i64 x2))), dead, dead, dead, dead, dead, dead, dead, dead, dead, dead, dead, dead, dat 25 (.slice (newL x0 x1 x2) []), dat 3 (.lit (.int .i64 ((newL x0 x1 x2).length : Int))), dat 3 (.lit (.int .i64 v24)), dead, dead, dead, dead, dead, dead, dead, dead, dead, dead, dead, dead, dead, dead, dead, dead, dead, dead, dead, dead, dead, dead, dead, dead, dead, dead, dead, dead, dead, dead, dead, dead, dead, dead, dead, dead, dead, dead, dead, dead, dead, dead, dead, dead, dead, dead, dead, dead, dead, dead, dead, dead], lookB [(3, some ⟨28, x0, 0, none⟩), (7, some ⟨46, .slice b7 [], 1, none⟩)]⟩ (blockK 0 (seqC P (envR Q7 [] [] []) t19_h N (sub [1, 1, 1, 1] (bodyOf fn)) (finK P fn) ))
theorem t19_lp4_step (N n : Nat) (x0 : D) (x1 : Int) (x2 : Int) (v24 : Int) (b7 : List D) : t19_lp4 Try.prog Try.f19 N (n + 1) x0 x1 x2 v24 b7 =
  bif decide (v24 < ((newL x0 x1 x2).length : Int)) then
    bif (decide (0 ≤ v24) && decide (v24 < ((newL x0 x1 x2).length : Int))) then
      bif (decide (0 ≤ (intD ((newL x0 x1 x2).getD (v24).toNat .nil))) && decide ((intD ((newL x0 x1 x2).getD (v24).toNat .nil)) < ((elemsD (fieldD x0 1)).length : Int))) then
        bif (!(pairE ((elemsD (fieldD x0 1)).getD (intD ((newL x0 x1 x2).getD (v24).toNat .nil)).toNat .nil))) then
          t19_lp4 Try.prog Try.f19 N n x0 x1 x2 (IntKind.wrap .i64 (v24 + 1)) b7
        else bif ((hasS x1 (ofColI (pairA ((elemsD (fieldD x0 1)).getD (intD ((newL x0 x1 x2).getD (v24).toNat .nil)).toNat .nil)))) == true) then
            bif hasS x2 (ofColI (pairB ((elemsD (fieldD x0 1)).getD (intD ((newL x0 x1 x2).getD (v24).toNat .nil)).toNat .nil))) then
              bif decide ((b7).length + 1 ≤ 2147483648) then
                t19_lp4 Try.prog Try.f19 N n x0 x1 x2 (IntKind.wrap .i64 (v24 + 1)) (b7 ++ [.agg [.lit (.int .i64 (pairA ((elemsD (fieldD x0 1)).getD (intD ((newL x0 x1 x2).getD (v24).toNat .nil)).toNat .nil))), .lit (.int .i64 (pairB ((elemsD (fieldD x0 1)).getD (intD ((newL x0 x1 x2).getD (v24).toNat .nil)).toNat .nil)))]])
              else none
            else bif ((hasS x1 (ofColI (pairB ((elemsD (fieldD x0 1)).getD (intD ((newL x0 x1 x2).getD (v24).toNat .nil)).toNat .nil)))) == true) then
                bif hasS x2 (ofColI (pairA ((elemsD (fieldD x0 1)).getD (intD ((newL x0 x1 x2).getD (v24).toNat .nil)).toNat .nil))) then
                  bif decide ((b7).length + 1 ≤ 2147483648) then
                    t19_lp4 Try.prog Try.f19 N n x0 x1 x2 (IntKind.wrap .i64 (v24 + 1)) (b7 ++ [.agg [.lit (.int .i64 (pairB ((elemsD (fieldD x0 1)).getD (intD ((newL x0 x1 x2).getD (v24).toNat .nil)).toNat .nil))), .lit (.int .i64 (pairA ((elemsD (fieldD x0 1)).getD (intD ((newL x0 x1 x2).getD (v24).toNat .nil)).toNat .nil)))]])
                  else none
                else t19_lp4 Try.prog Try.f19 N n x0 x1 x2 (IntKind.wrap .i64 (v24 + 1)) b7
              else t19_lp4 Try.prog Try.f19 N n x0 x1 x2 (IntKind.wrap .i64 (v24 + 1)) b7
          else bif ((hasS x1 (ofColI (pairB ((elemsD (fieldD x0 1)).getD (intD ((newL x0 x1 x2).getD (v24).toNat .nil)).toNat .nil)))) == true) then
              bif hasS x2 (ofColI (pairA ((elemsD (fieldD x0 1)).getD (intD ((newL x0 x1 x2).getD (v24).toNat .nil)).toNat .nil))) then
                bif decide ((b7).length + 1 ≤ 2147483648) then
                  t19_lp4 Try.prog Try.f19 N n x0 x1 x2 (IntKind.wrap .i64 (v24 + 1)) (b7 ++ [.agg [.lit (.int .i64 (pairB ((elemsD (fieldD x0 1)).getD (intD ((newL x0 x1 x2).getD (v24).toNat .nil)).toNat .nil))), .lit (.int .i64 (pairA ((elemsD (fieldD x0 1)).getD (intD ((newL x0 x1 x2).getD (v24).toNat .nil)).toNat .nil)))]])
                else none
              else t19_lp4 Try.prog Try.f19 N n x0 x1 x2 (IntKind.wrap .i64 (v24 + 1)) b7
            else t19_lp4 Try.prog Try.f19 N n x0 x1 x2 (IntKind.wrap .i64 (v24 + 1)) b7
      else none
    else none
  else some (dat 46 (.slice b7 [])) := by kernel_rfl
theorem t19 (N : Nat) (x0 : D) (x1 : Int) (x2 : Int) : evFn Try.prog (envR Q7 [] [] []) t19_h N Try.f19 [dat 28 x0, dat 3 (.lit (.int .i64 x1)), dat 3 (.lit (.int .i64 x2))] =
  bif decide ((qP x0).length ≤ 2147483647) then
    t19_lp4 Try.prog Try.f19 N N x0 x1 x2 0 []
  else none := by kernel_rfl

end X
end Go.Proofs.Ytjgnknkbohlopaa

namespace Go.Proofs.Ytjgnknkbohlopaa
namespace X
open Go.Ev
set_option linter.unusedVariables false
set_option maxRecDepth 10000
set_option linter.unusedSimpArgs false

theorem may_cat {c q : D} (h : mayQ c q = true) : mayCat c = true ∧ occMayB c q = true ∧ exprMayB c q = true ∧ endB c q = true := by
  unfold mayQ at h
  simpa only [Bool.and_eq_true] using h
theorem occ_len {c q : D} (h : occMayB c q = true) : 1 ≤ (qOcc q).length ∧ (qOcc q).length ≤ 4 := by
  unfold occMayB at h
  simp only [Bool.and_eq_true, decide_eq_true_eq] at h
  exact h.1
theorem tab_in {c q : D} (h1 : mayCat c = true) (h2 : occMayB c q = true) {i : Nat} (hi : i < (qOcc q).length) : 1 ≤ tabC c q (i : Int) ∧ tabC c q (i : Int) ≤ 4 := by
  have hb := occ_below h2 hi
  obtain ⟨_, _, h3⟩ := mayCat_iff.1 h1
  unfold tabC
  rw [Int.toNat_natCast]
  have hlt : (intD ((qOcc q).getD i .nil)).toNat < (tabs c).length := by omega
  rw [l_get hlt]
  have := mayDef_iff.1 (h3 _ (List.getElem_mem hlt))
  omega
theorem cols_in {N m0 i : Nat} {c q : D} {set : Int} {l0 : List D} (h1 : 1 ≤ tabC c q (i : Int) ∧ tabC c q (i : Int) ≤ 4) : ∀ (n j : Nat) (l : List D), j ≤ (tabC c q (i : Int)).toNat → (tabC c q (i : Int)).toNat - j < n → l.length + (tabC c q (i : Int)).toNat ≤ 1000 + j →
    t14_lp10 Try.prog Try.f14 N n c q set (i : Int) l0 m0 (j : Int) l = t14_lp6 Try.prog Try.f14 N m0 c q set (IntKind.wrap .i64 ((i : Int) + 1)) (l ++ ((List.range (tabC c q (i : Int)).toNat).drop j).map (seenCol (i : Int)))
  | 0, j, l, _, h, _ => by omega
  | n + 1, j, l, hj, h, hl => by
    rw [t14_lp10_step]
    show (bif decide ((j : Int) < tabC c q (i : Int)) then _ else _) = _
    by_cases hlt : (j : Int) < tabC c q (i : Int)
    · have hlt' : j < (List.range (tabC c q (i : Int)).toNat).length := by rw [List.length_range]; omega
      rw [dT hlt, cond_true, dT (show l.length + 1 ≤ 2147483648 by omega), cond_true, l_wrapI (l_in (by omega) (by omega)), show ((j : Int) + 1) = ((j + 1 : Nat) : Int) from rfl]
      rw [cols_in h1 n (j + 1) _ (by omega) (by omega) (by simp; omega), List.drop_eq_getElem_cons hlt', List.map_cons, List.append_assoc, List.getElem_range]
      rfl
    · rw [dF hlt, cond_false, List.drop_of_length_le (by rw [List.length_range]; omega), List.map_nil, List.append_nil]
theorem cols_out {N : Nat} {c q : D} {set : Int} (hN : 6 ≤ N) (h1 : mayCat c = true) (h2 : occMayB c q = true) : ∀ (n i : Nat) (l : List D), i ≤ (qOcc q).length → (qOcc q).length - i < n → l.length ≤ 4 * i →
    t14_lp6 Try.prog Try.f14 N n c q set (i : Int) l = some (dat 25 (.slice (l ++ (List.range' i ((qOcc q).length - i)).flatMap (occColsL c q set)) []))
  | 0, i, l, _, h, _ => by omega
  | n + 1, i, l, hi, h, hl => by
    have h4 := occ_len h2
    rw [t14_lp6_step]
    show (bif decide ((i : Int) < ((qOcc q).length : Int)) then _ else _) = _
    by_cases hlt : i < (qOcc q).length
    · have hb := occ_below h2 hlt
      have ht := tab_in h1 h2 hlt
      have b1 : (decide (0 ≤ intD ((elemsD (fieldD q 0)).getD ((i : Int)).toNat .nil)) && decide (intD ((elemsD (fieldD q 0)).getD ((i : Int)).toNat .nil) < ((elemsD (fieldD c 0)).length : Int))) = true := by
        rw [Int.toNat_natCast, Bool.and_eq_true, decide_eq_true_eq, decide_eq_true_eq]
        exact hb
      have b2 : (decide (0 ≤ (i : Int)) && decide ((i : Int) < ((elemsD (fieldD q 0)).length : Int))) = true := l_idx hlt
      have hw : IntKind.wrap .i64 ((i : Int) + 1) = ((i + 1 : Nat) : Int) := by rw [l_wrapI (l_in (by omega) (by omega))]; rfl
      have hr : (qOcc q).length - i = ((qOcc q).length - (i + 1)) + 1 := by omega
      rw [l_lt hlt, cond_true, b1, b2, dT (show 0 ≤ (i : Int) by omega), cond_true, cond_true, cond_true, hw, hr, List.range'_succ, List.flatMap_cons]
      cases hs : hasS set (aloneI (i : Int)) with
      | false =>
        rw [show (!false) = true from rfl, cond_true, cols_out hN h1 h2 n (i + 1) _ (by omega) (by omega) (by omega), show occColsL c q set i = [] by unfold occColsL; rw [hs]; rfl, List.nil_append]
      | true =>
        rw [show (!true) = false from rfl, cond_false]
        have hin := cols_in (N := N) (m0 := n) (c := c) (q := q) (set := set) (l0 := l) ht N 0 l (Nat.zero_le _) (by omega) (by omega)
        have hin : t14_lp10 Try.prog Try.f14 N N c q set (i : Int) l n 0 l = _ := hin
        rw [hin, hw, cols_out hN h1 h2 n (i + 1) _ (by omega) (by omega) (by simp; omega), List.drop_zero, List.append_assoc, show occColsL c q set i = (List.range (tabC c q (i : Int)).toNat).map (seenCol (i : Int)) by unfold occColsL; rw [hs]; rfl]
    · rw [l_ge hlt, cond_false, show (qOcc q).length - i = 0 by omega]
      simp
def e14 : FuncId × TypeId × (List AV → Bool) × (List AV → Option D) := (14, 25, yes, ent [24, 28, 3] (f3 fun x y z => some (.slice (colsQ x y (intD z)) [])))
theorem k14 : FnOK Try.prog 14 Try.f14 := ⟨Try.func14, rfl, by kernel_rfl⟩
theorem c14 : ∀ args d, e14.2.2.2 args = some d → CallOK Try.prog 14 args (mkRes Try.prog 25 d) :=
  ent3 k14 fun x y z d h _ _ _ => by
    cases h
    rw [nCat, nQry, n3]
    refine fn_ok hm envQ7 k14 ((t14 10 x y (intD z)).trans ?_)
    rw [m27]
    unfold colsQ
    cases hq : mayQ x y with
    | false => rfl
    | true =>
      obtain ⟨h1, h2, _, _⟩ := may_cat hq
      have h4 := occ_len h2
      rw [show (!true) = false from rfl, cond_false, cond_true, List.range_eq_range']
      exact cols_out (by omega) h1 h2 10 0 [] (Nat.zero_le _) (by omega) (by simp)
theorem new_mem {q : D} {a b : Int} {x : D} (h : x ∈ newL q a b) : ∃ k, k < (qP q).length ∧ x = litI (k : Int) := by
  unfold newL at h
  obtain ⟨k, hk, hx, _⟩ := plc_mem.1 h
  rw [Nat.zero_add] at hx
  exact ⟨k, hk, hx⟩
theorem new_len (q : D) (a b : Int) : (newL q a b).length ≤ (qP q).length := by
  unfold newL
  rw [plc_len]
  exact List.countP_le_length
theorem pairOf_len (a b : Int) (e : D) : (pairOf a b e).length ≤ 1 := by
  unfold pairOf
  cases pairE e
  · exact Nat.zero_le _
  · cases (hasS a (ofColI (pairA e)) && hasS b (ofColI (pairB e)))
    · cases (hasS a (ofColI (pairB e)) && hasS b (ofColI (pairA e)))
      · exact Nat.zero_le _
      · exact Nat.le_refl _
    · exact Nat.le_refl _
theorem pairs_loop {N : Nat} {q : D} {a b : Int} (hl : (qP q).length ≤ 2147483647) : ∀ (n i : Nat) (l : List D), i ≤ (newL q a b).length → (newL q a b).length - i < n → l.length ≤ i →
    t19_lp4 Try.prog Try.f19 N n q a b (i : Int) l = some (dat 46 (.slice (l ++ ((newL q a b).drop i).flatMap fun x => pairOf a b ((qP q).getD (intD x).toNat .nil)) []))
  | 0, i, l, _, h, _ => by omega
  | n + 1, i, l, hi, h, hle => by
    have hnl := new_len q a b
    rw [t19_lp4_step]
    by_cases hlt : i < (newL q a b).length
    · obtain ⟨k, hk, hx⟩ := new_mem (List.getElem_mem hlt)
      have e1 : intD ((newL q a b).getD i .nil) = (k : Int) := by rw [l_get hlt, hx]; rfl
      have b1 : (decide (0 ≤ (k : Int)) && decide ((k : Int) < ((elemsD (fieldD q 1)).length : Int))) = true := l_idx hk
      rw [l_idx hlt, l_lt hlt, cond_true, cond_true, Int.toNat_natCast, e1, b1, cond_true, Int.toNat_natCast, l_wrap (Nat.le_trans (Nat.le_trans hnl hl) (by unfold maxLen; omega)) hlt, List.drop_eq_getElem_cons hlt, List.flatMap_cons, hx]
      show _ = some (dat 46 (.slice (l ++ (pairOf a b ((elemsD (fieldD q 1)).getD ((k : Int)).toNat .nil) ++ _)) []))
      rw [Int.toNat_natCast]
      generalize (elemsD (fieldD q 1)).getD k .nil = e
      have ih : ∀ l' : List D, l'.length ≤ i + 1 → t19_lp4 Try.prog Try.f19 N n q a b ((i + 1 : Nat) : Int) l' = some (dat 46 (.slice (l' ++ ((newL q a b).drop (i + 1)).flatMap fun x => pairOf a b ((qP q).getD (intD x).toNat .nil)) [])) :=
        fun l' hl' => pairs_loop hl n (i + 1) l' (by omega) (by omega) hl'
      have hd : decide (l.length + 1 ≤ 2147483648) = true := dT (by omega)
      have hA : ∀ x : D, (l ++ [x]).length ≤ i + 1 := fun x => by simp; omega
      rw [hd, ih l (by omega)]
      rw [ih _ (hA _), ih _ (hA _)]
      unfold pairOf pairD litI
      cases pairE e
      · rfl
      · cases hasS a (ofColI (pairA e)) <;> cases hasS b (ofColI (pairB e)) <;> cases hasS a (ofColI (pairB e)) <;> cases hasS b (ofColI (pairA e)) <;> simp only [cond_true, cond_false, Bool.not_true, Bool.not_false, Bool.and_true, Bool.true_and, Bool.false_and, Bool.and_false, Bool.and_self, List.append_assoc, List.nil_append, List.append_nil, List.cons_append, beq_self_eq_true, show (false == true) = false from rfl]
    · rw [l_ge hlt, cond_false, List.drop_of_length_le (by omega)]
      simp
def e19 : FuncId × TypeId × (List AV → Bool) × (List AV → Option D) := (19, 46, preD (q3 fun x _ _ => decide ((qP x).length ≤ 2147483647)), ent [28, 3, 3] (f3 fun x y z => some (.slice (pairsL x (intD y) (intD z)) [])))
theorem k19 : FnOK Try.prog 19 Try.f19 := ⟨Try.func19, rfl, by kernel_rfl⟩
theorem c19 : ∀ args d, e19.2.2.1 args = true → e19.2.2.2 args = some d → CallOK Try.prog 19 args (mkRes Try.prog 46 d) :=
  ent3p k19 fun x y z d hq h _ _ _ => by
    cases h
    rw [nQry, n3, n3]
    have hl : (qP x).length ≤ 2147483647 := of_decide_eq_true hq
    have hq : decide ((qP x).length ≤ 2147483647) = true := hq
    refine fn_ok hm envQ7 k19 ((t19 ((newL x (intD y) (intD z)).length + 1) x (intD y) (intD z)).trans ?_)
    rw [mPrs, hq, cond_true]
    exact pairs_loop hl _ 0 [] (Nat.zero_le _) (by omega) (by simp)
def Q8 : Tab := e19 :: e14 :: Q7
theorem envQ8 : EnvOK Try.prog (envH Q8 []) := envOK_cons' (envOK_cons envQ7 c14) c19

end X
end Go.Proofs.Ytjgnknkbohlopaa
