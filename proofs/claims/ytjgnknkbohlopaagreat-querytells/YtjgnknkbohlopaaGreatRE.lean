/- QueryTells: anything may be asked, or not, has the columns, of any set, what must be so of it, newly of two, and the pairs, and the orders, that the document says. Proved for every world, every order, every argument that the statement takes. -/
import Derived.Test.YtjgnknkbohlopaaGreatRD
import Derived.WalkKit
import Derived.ProofKit
import Derived.OpenShut
import Derived.ShutString
import Derived.ChangeOld
import Derived.Below
namespace Go.Proofs.YtjgnknkbohlopaaGreat
namespace X
open Go.Ev
set_option linter.unusedVariables false
/- roadbook/roadbooklaw05.QueryTells -/
def t3_h : Hints := fun i => if i = 6 then some ([0, 1, 6, 7, 8, 9, 10, 12, 13, 14, 15, 16, 17, 18, 19, 20, 21, 22, 23, 24, 25, 26, 27, 28, 29, 30, 31, 32, 33, 34, 35, 36, 37, 38, 39, 40, 41, 42, 43, 44, 45, 46, 47, 48, 49, 50, 51, 52, 53, 54, 55, 56, 57, 58, 59, 60, 61, 62, 63, 64, 65, 66, 67, 68, 69, 70, 71, 72, 73, 74, 75, 76, 77, 78, 79, 80, 81, 82, 83, 84, 85, 86, 87, 88, 89, 90, 91, 92, 93, 94, 95, 96, 97, 98, 99, 100], [4, 5], []) else none
def t3_lp6 (P : Program) (fn : Func) (N n : Nat) (x0 : D) (x1 : D) (x2 : Int) (x3 : Int) (v11 : Int) : Option AV := evLoop (preL t3_h (sub [1, 1, 1, 1, 0, 1, 0, 0] (bodyOf fn))) (evCode P (envR R8 [] [] []) t3_h N (sub [1, 1, 1, 1, 0, 1, 0, 0] (bodyOf fn))) n ⟨[dead, dead, dat 3 (.lit (.int .i64 x2)), dat 3 (.lit (.int .i64 x3)), bxp 4 24, bxp 5 28, dead, dead, dead, dead, dead, dat 3 (.lit (.int .i64 v11)), dead, dead, dead, dead, dead, dead, dead, dead, dead, dead, dead, dead, dead, dead, dead, dead, dead, dead, dead, dead, dead, dead, dead, dead, dead, dead, dead, dead, dead, dead, dead, dead, dead, dead, dead, dead, dead, dead, dead, dead, dead, dead, dead, dead, dead, dead, dead, dead, dead, dead, dead, dead, dead, dead, dead, dead, dead, dead, dead, dead, dead, dead, dead, dead, dead, dead, dead, dead, dead, dead, dead, dead, dead, dead, dead, dead, dead, dead, dead, dead, dead, dead, dead, dead, dead, dead, dead, dead, dead], lookB [(4, some ⟨24, x0, 0, none⟩), (5, some ⟨28, x1, 0, none⟩)]⟩ (blockK 0 (seqC P (envR R8 [] [] []) t3_h N (sub [1, 1, 1, 1, 1] (bodyOf fn)) (finK P fn) ))
theorem t3_lp6_step (N n : Nat) (x0 : D) (x1 : D) (x2 : Int) (x3 : Int) (v11 : Int) : t3_lp6 Tryz.prog Tryz.f3 N (n + 1) x0 x1 x2 x3 v11 =
  bif decide (v11 < ((elemsD (fieldD x1 1)).length : Int)) then
    bif (decide (0 ≤ v11) && decide (v11 < ((elemsD (fieldD x1 1)).length : Int))) then
      bif (decide (0 ≤ v11) && decide (v11 < ((elemsD (fieldD x1 1)).length : Int))) then
        bif ((ofE ((elemsD (fieldD x1 1)).getD (v11).toNat .nil)) != (ofE ((elemsD (fieldD x1 1)).getD (v11).toNat .nil))) then
          some (dat 4 (.lit (.bool false)))
        else t3_lp6 Tryz.prog Tryz.f3 N n x0 x1 x2 x3 (IntKind.wrap .i64 (v11 + 1))
      else none
    else none
  else bif (((mayQ x0 x1) == (mayQ x0 x1)) == true) then
      bif ((intsB (colsQ x0 x1 x2) (colsQ x0 x1 x2)) == true) then
        bif decide ((qP x1).length ≤ 2147483647) then
          bif decide ((qP x1).length ≤ 2147483647) then
            bif ((intsB (ownL x1 x2) (ownL x1 x2)) == true) then
              bif decide ((qP x1).length ≤ 2147483647) then
                bif decide ((qP x1).length ≤ 2147483647) then
                  bif ((intsB (newL x1 x2 x3) (newL x1 x2 x3)) == true) then
                    bif decide ((qP x1).length ≤ 2147483647) then
                      bif decide ((qP x1).length ≤ 2147483647) then
                        bif ((samePB (pairsL x1 x2 x3) (pairsL x1 x2 x3)) == true) then
                          bif decide ((qP x1).length ≤ 400000) then
                            some (dat 4 (.lit (.bool (intsB (ordersL x1) (ordersL x1)))))
                          else none
                        else some (dat 4 (.lit (.bool false)))
                      else none
                    else none
                  else some (dat 4 (.lit (.bool false)))
                else none
              else none
            else some (dat 4 (.lit (.bool false)))
          else none
        else none
      else some (dat 4 (.lit (.bool false)))
    else some (dat 4 (.lit (.bool false))) := by kernel_rfl
theorem t3 (N : Nat) (x0 : D) (x1 : D) (x2 : Int) (x3 : Int) : evFn Tryz.prog (envR R8 [] [] []) t3_h N Tryz.f3 [dat 24 x0, dat 28 x1, dat 3 (.lit (.int .i64 x2)), dat 3 (.lit (.int .i64 x3))] =
  bif (!(fewQ fewB x0 x1)) then
    some (dat 4 (.lit (.bool true)))
  else t3_lp6 Tryz.prog Tryz.f3 N N x0 x1 x2 x3 0 := by kernel_rfl

end X
end Go.Proofs.YtjgnknkbohlopaaGreat

namespace Go.Proofs.YtjgnknkbohlopaaGreat
namespace X
open Go.Ev
set_option linter.unusedVariables false
set_option maxRecDepth 10000
set_option linter.unusedSimpArgs false

theorem samePB_refl (l : List D) : samePB l l = true := by unfold samePB; exact beq_self_eq_true _
theorem tells_loop {N : Nat} {c q : D} {a b : Int} (hP : (qP q).length ≤ 8) (n : Nat) (hn : 8 < n) : t3_lp6 Tryz.prog Tryz.f3 N n c q a b 0 = some (dat 4 (.lit (.bool true))) := by
  have hP' : (elemsD (fieldD q 1)).length ≤ 8 := hP
  have := l_loop (fun n v => t3_lp6 Tryz.prog Tryz.f3 N n c q a b v) (elemsD (fieldD q 1)).length (fun _ => false) none (some (dat 4 (.lit (.bool true))))
    (fun n i hi => by
      rw [t3_lp6_step, l_idx hi, l_lt hi, cond_true, cond_true, cond_true, bne_self_eq_false, cond_false, l_wrap (by unfold maxLen; omega) hi]
      rfl)
    (fun n => by
      rw [t3_lp6_step, l_ge (by omega), cond_false, beq_self_eq_true (mayQ c q), intsB_refl, intsB_refl, intsB_refl, intsB_refl, samePB_refl, dT (show (qP q).length ≤ 2147483647 by omega), dT (show (qP q).length ≤ 400000 by omega)]
      rfl) n 0 (Nat.zero_le _) (by omega)
  refine this.trans ?_
  rw [show (List.range' 0 ((elemsD (fieldD q 1)).length - 0)).any (fun _ => false) = false by simp, cond_false]
theorem k3 : FnOK Tryz.prog 3 Tryz.f3 := ⟨Tryz.func3, rfl, by kernel_rfl⟩
theorem lawTells {n0 n1 n2 n3 : Nat} {c q x2 x3 : D} (h0 : Ty Tryz.prog n0 24 c) (h1 : Ty Tryz.prog n1 28 q) (h2 : Ty Tryz.prog n2 3 x2) (h3 : Ty Tryz.prog n3 3 x3) :
    CallOK Tryz.prog 3 [dat 24 c, dat 28 q, dat 3 x2, dat 3 x3] (dat 4 (.lit (.bool true))) := by
  obtain ⟨a, rfl, _⟩ := ty3' h2
  obtain ⟨b, rfl, _⟩ := ty3' h3
  refine law_ok envR8 k3 ((t3 20 c q a b).trans ?_)
  cases hf : fewQ fewB c q with
  | false => rfl
  | true =>
    rw [tells_loop (few_len hf).1 20 (by omega)]
    rfl

end X
end Go.Proofs.YtjgnknkbohlopaaGreat

namespace Go.Proofs.YtjgnknkbohlopaaGreat
open Go.Ev
open Go.ChangeShapes Go.WideShapes Go.ChangeAt Go.RowKit
set_option linter.unusedVariables false

namespace queryTellsLaw

theorem own : ownKnob Tryz.prog.godebug = none := by kernel_rfl
theorem laidOut : laidOutB Tryz.prog = true := by kernel_rfl
theorem types : okTypes Tryz.prog [3, 25, 26, 35, 33, 22, 63, 24, 28] = true := by kernel_rfl

set_option maxRecDepth 100000 in
theorem lifted (os : Os) (started : os.Started) (H : Type) (enc : TypeId × Value → H) :
    ReturnsInHanded {} Tryz.checked os 3 .any (Rows.queryTellsSpec.pre6 enc Tryz.prog Tryz.f3 Rows.queryTellsRow.domain false) (Rows.queryTellsSpec.post enc Tryz.prog Tryz.f3 false true false false) := by
  refine returnsInHanded_of_change (C := Tryz.checked) own started (by kernel_rfl) Tryz.func3
    (ChangeSpec.witness6 (enc := enc) (C := Tryz.checked) false ⟨#[], #[.agg #[.slice none 0 0], .agg #[.slice none 0 0, .slice none 0 0, .int .i64 0, .slice none 0 0, .slice none 0 0, .int .i64 0], .int .i64 0, .int .i64 0], []⟩ 8 (by kernel_rfl) (by kernel_rfl) (by kernel_rfl) (by kernel_rfl)) ?_
  intro W base args ds gs before hval0 hW hcnd _
  have hval : ∀ (j : Nat) t v, Tryz.f3.params[j]? = some t → args[j]? = some v → Value.okWide Tryz.prog W .any base t v := hval0
  have hW' := hW
  obtain ⟨p, q, hA0, hV, rfl, hfz, hnd⟩ := hW
  have hA : DataW.TrodAll enc Tryz.prog W 0 (fun _ => true) true Tryz.f3.params.toList args.toList ds p := hA0
  rw [Tryz.params3] at hA hval
  obtain ⟨v0, vs0, d0, ds0, p0, q0, hargs, rfl, rfl, h0, r0⟩ := trodAll_cons hA
  obtain ⟨v1, vs1, d1, ds1, p1, q1, rfl, rfl, rfl, h1, r1⟩ := trodAll_cons r0
  obtain ⟨v2, vs2, d2, ds2, p2, q2, rfl, rfl, rfl, h2, r2⟩ := trodAll_cons r1
  obtain ⟨v3, vs3, d3, ds3, p3, q3, rfl, rfl, rfl, h3, r3⟩ := trodAll_cons r2
  obtain ⟨rfl, rfl, rfl⟩ := trodAll_nil r3
  obtain rfl : args = #[v0, v1, v2, v3] := by cases args; simp_all
  obtain ⟨rfl, rfl⟩ := trodVars_none hV
  have lt0 : ∀ x ∈ p0, x.block < W.heap.size := by obtain ⟨m, hm⟩ := h0; exact DataW.trod_lt m _ _ _ hm
  obtain ⟨n0, x0, ty0, rep0⟩ := arg_rep types (by decide) (hval 0 24 v0 rfl rfl) h0
  have lt1 : ∀ x ∈ p1, x.block < W.heap.size := by obtain ⟨m, hm⟩ := h1; exact DataW.trod_lt m _ _ _ hm
  obtain ⟨n1, x1, ty1, rep1⟩ := arg_rep types (by decide) (hval 1 28 v1 rfl rfl) h1
  have lt2 : ∀ x ∈ p2, x.block < W.heap.size := by obtain ⟨m, hm⟩ := h2; exact DataW.trod_lt m _ _ _ hm
  obtain ⟨n2, x2, ty2, rep2⟩ := arg_rep types (by decide) (hval 2 3 v2 rfl rfl) h2
  have lt3 : ∀ x ∈ p3, x.block < W.heap.size := by obtain ⟨m, hm⟩ := h3; exact DataW.trod_lt m _ _ _ hm
  obtain ⟨n3, x3, ty3, rep3⟩ := arg_rep types (by decide) (hval 3 3 v3 rfl rfl) h3
  clear hA0 hval0
  refine (calls_true Tryz.underlying4 (tabOn_none (by kernel_rfl) _ _) (X.lawTells ty0 ty1 ty2 ty3) (w := W) (vs := [v0, v1, v2, v3]) ⟨⟨rfl, rep0⟩, ⟨rfl, rep1⟩, ⟨rfl, rep2⟩, ⟨rfl, rep3⟩, trivial⟩).mono fun e W' ⟨he, bel⟩ => ?_
  subst he
  exact ⟨_, rfl, _, _, _, [], _, [], hW', trodAll_mk1 (shut_bool Tryz.underlying4 _), (trodAll_cons_mk (Below.trod laidOut (by kernel_rfl) (of_decide_eq_true (by kernel_rfl)) h0 bel lt0) (trodAll_cons_mk (Below.trod laidOut (by kernel_rfl) (of_decide_eq_true (by kernel_rfl)) h1 bel lt1) (trodAll_cons_mk (Below.trod laidOut (by kernel_rfl) (of_decide_eq_true (by kernel_rfl)) h2 bel lt2) (trodAll_cons_mk (Below.trod laidOut (by kernel_rfl) (of_decide_eq_true (by kernel_rfl)) h3 bel lt3) trodAll_mk0)))), rfl, bel.frame _, fun h => by cases h⟩

theorem over : Rows.queryTellsRow.holds Tryz.pinned (OpenSpec.ofChange Rows.queryTellsSpec) :=
  OpenClaim.holds_of_wide 3 Tryz.f3 rfl rfl rfl rfl rfl rfl rfl ⟨rfl, rfl, rfl, rfl, rfl⟩ rfl rfl rfl rfl rfl (by kernel_rfl) Tryz.func3 (by kernel_rfl)
    (of_decide_eq_true (by kernel_rfl)) (by unfold Func.isWrapper; first | (rw [if_pos (by decide +kernel)]; kernel_rfl) | (rw [if_neg (by decide +kernel)]; exact ⟨rfl, rfl⟩))
    (fun os started H enc _ => lifted os started H enc)

end queryTellsLaw

/-- The statement. -/
theorem queryTellsProved : Rows.QueryTellsSaid := queryTellsLaw.over

end Go.Proofs.YtjgnknkbohlopaaGreat
