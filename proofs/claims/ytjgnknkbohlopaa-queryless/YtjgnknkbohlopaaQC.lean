/- What the evaluator comes to, function by function: by the kernel. Nothing here is trusted. -/
import Derived.Test.YtjgnknkbohlopaaQB
namespace Go.Proofs.Ytjgnknkbohlopaa
namespace X
open Go.Ev
set_option linter.unusedVariables false
/- roadbook/query.expressionsMay -/
def t29_h : Hints := fun i => if i = 4 then some ([0, 1, 4, 5, 6, 7, 8, 9, 10, 11, 12, 16, 17, 18, 19, 20, 21, 22, 23, 24, 25, 26, 27, 28, 29, 30, 31], [2, 3], []) else none
def t29_lp4 (P : Program) (fn : Func) (N n : Nat) (x0 : D) (x1 : D) (v15 : Int) : Option AV := evLoop (preL t29_h (sub [1, 1, 0, 1, 0, 0] (bodyOf fn))) (evCode P (envR Q4 [] [] []) t29_h N (sub [1, 1, 0, 1, 0, 0] (bodyOf fn))) n ⟨[dead, dead, bxp 2 24, bxp 3 28, dead, dead, dead, dead, dead, dead, dead, dead, dead, dat 26 (fieldD x1 1), dat 3 (.lit (.int .i64 ((elemsD (fieldD x1 1)).length : Int))), dat 3 (.lit (.int .i64 v15)), dead, dead, dead, dead, dead, dead, dead, dead, dead, dead, dead, dead, dead, dead, dead, dead], lookB [(2, some ⟨24, x0, 0, none⟩), (3, some ⟨28, x1, 0, none⟩)]⟩ (blockK 0 (seqC P (envR Q4 [] [] []) t29_h N (sub [1, 1, 1] (bodyOf fn)) (finK P fn) ))
theorem t29_lp4_step (N n : Nat) (x0 : D) (x1 : D) (v15 : Int) : t29_lp4 Try.prog Try.f29 N (n + 1) x0 x1 v15 =
  bif decide (v15 < ((elemsD (fieldD x1 1)).length : Int)) then
    bif (decide (0 ≤ v15) && decide (v15 < ((elemsD (fieldD x1 1)).length : Int))) then
      bif ((((colsE ((elemsD (fieldD x1 1)).getD (v15).toNat .nil)).length : Int) == 0) == false) then
        bif occMayB x0 x1 then
          bif (!(areColB x0 x1 (colsE ((elemsD (fieldD x1 1)).getD (v15).toNat .nil)))) then
            some (dat 4 (.lit (.bool false)))
          else t29_lp4 Try.prog Try.f29 N n x0 x1 (IntKind.wrap .i64 (v15 + 1))
        else none
      else some (dat 4 (.lit (.bool false)))
    else none
  else some (dat 4 (.lit (.bool true))) := by kernel_rfl
theorem t29 (N : Nat) (x0 : D) (x1 : D) : evFn Try.prog (envR Q4 [] [] []) t29_h N Try.f29 [dat 24 x0, dat 28 x1] =
  bif decide (((elemsD (fieldD x1 1)).length : Int) > 6) then
    some (dat 4 (.lit (.bool false)))
  else t29_lp4 Try.prog Try.f29 N N x0 x1 0 := by kernel_rfl

/- roadbook/query.toldMay -/
def t49_h : Hints := fun i => if i = 4 then some ([0, 1, 2, 4, 5, 6, 7, 8, 9, 10, 11, 12, 13, 14, 15, 16, 17, 18, 19, 20, 21, 22, 23, 24, 25, 26, 27, 28, 29, 30, 31, 35, 36, 37, 38, 39, 40, 41, 42, 43, 44, 45, 46, 47, 48, 49, 50, 51, 52, 53, 54, 55], [3], []) else none
def t49_lp4 (P : Program) (fn : Func) (N n : Nat) (x0 : D) (x1 : D) (v34 : Int) : Option AV := evLoop (preL t49_h (sub [1, 1, 0, 1, 0, 0] (bodyOf fn))) (evCode P (envR Q4 [] [] []) t49_h N (sub [1, 1, 0, 1, 0, 0] (bodyOf fn))) n ⟨[dead, dead, dead, bxp 3 28, dead, dead, dead, dead, dead, dead, dead, dead, dead, dead, dead, dead, dead, dead, dead, dead, dead, dead, dead, dead, dead, dead, dead, dead, dead, dead, dead, dead, dat 25 (fieldD x1 4), dat 3 (.lit (.int .i64 ((elemsD (fieldD x1 4)).length : Int))), dat 3 (.lit (.int .i64 v34)), dead, dead, dead, dead, dead, dead, dead, dead, dead, dead, dead, dead, dead, dead, dead, dead, dead, dead, dead, dead, dead], lookB [(3, some ⟨28, x1, 0, none⟩)]⟩ (blockK 0 (seqC P (envR Q4 [] [] []) t49_h N (sub [1, 1, 1] (bodyOf fn)) (finK P fn) ))
theorem t49_lp4_step (N n : Nat) (x0 : D) (x1 : D) (v34 : Int) : t49_lp4 Try.prog Try.f49 N (n + 1) x0 x1 v34 =
  bif decide (v34 < ((elemsD (fieldD x1 4)).length : Int)) then
    bif (decide (0 ≤ v34) && decide (v34 < ((elemsD (fieldD x1 4)).length : Int))) then
      bif (decide (0 ≤ (0 : Int)) && decide ((0 : Int) ≤ v34) && decide (v34 ≤ ((elemsD (fieldD x1 4)).length : Int))) then
        bif hasB (((elemsD (fieldD x1 4)).drop ((0 : Int) : Int).toNat).take (v34 - (0 : Int)).toNat) (intD ((elemsD (fieldD x1 4)).getD (v34).toNat .nil)) then
          some (dat 4 (.lit (.bool false)))
        else t49_lp4 Try.prog Try.f49 N n x0 x1 (IntKind.wrap .i64 (v34 + 1))
      else none
    else none
  else bif (((intD (fieldD x1 5)) == (-1)) == false) then
      some (dat 4 (.lit (.bool (hasB (elemsD (fieldD x1 4)) (intD (fieldD x1 5))))))
    else some (dat 4 (.lit (.bool true))) := by kernel_rfl
theorem t49 (N : Nat) (x0 : D) (x1 : D) : evFn Try.prog (envR Q4 [] [] []) t49_h N Try.f49 [dat 24 x0, dat 28 x1] =
  bif ((decide (((elemsD (fieldD x1 3)).length : Int) > 0)) == false) then
    bif ((decide (((elemsD (fieldD x1 4)).length : Int) < 1)) == false) then
      bif ((decide (((elemsD (fieldD x1 4)).length : Int) > 8)) == false) then
        bif occMayB x0 x1 then
          bif (!(areColB x0 x1 (elemsD (fieldD x1 4)))) then
            some (dat 4 (.lit (.bool false)))
          else t49_lp4 Try.prog Try.f49 N N x0 x1 0
        else none
      else some (dat 4 (.lit (.bool false)))
    else some (dat 4 (.lit (.bool false)))
  else some (dat 4 (.lit (.bool false))) := by kernel_rfl

/- roadbook/query.groupsMay -/
def t50_h : Hints := fun _ =>  none
theorem t50 (N : Nat) (x0 : D) (x1 : D) : evFn Try.prog (envR Q4 [] [] []) t50_h N Try.f50 [dat 24 x0, dat 28 x1] =
  bif occMayB x0 x1 then
    bif ((!(isColB x0 x1 (intD (fieldD x1 2)))) == false) then
      bif ((decide (((elemsD (fieldD x1 3)).length : Int) > 4)) == false) then
        bif occMayB x0 x1 then
          bif ((!(areColB x0 x1 (elemsD (fieldD x1 3)))) == false) then
            bif decide (((elemsD (fieldD x1 4)).length : Int) > 0) then
              some (dat 4 (.lit (.bool false)))
            else bif (((intD (fieldD x1 5)) == (-1)) == false) then
                some (dat 4 (.lit (.bool ((intD (fieldD x1 5)) == (intD (fieldD x1 2))))))
              else some (dat 4 (.lit (.bool true)))
          else some (dat 4 (.lit (.bool false)))
        else none
      else some (dat 4 (.lit (.bool false)))
    else some (dat 4 (.lit (.bool false)))
  else none := by kernel_rfl

/- roadbook/query.New$1 -/
def t33_h : Hints := fun _ =>  none
theorem t33 (N : Nat) (x0 : Int) (a : Int) (b : Int) (c : Int) : evFnH Try.prog (envR Q4 [] [] []) t33_h N Try.f33 [dat 3 (.lit (.int .i64 x0)), bxp 1000000 62, bxp 1000001 62, bxp 1000002 62] [⟨62, bndD 32 3 (.lit (.int .i64 a)), 0, none⟩, ⟨62, bndD 32 3 (.lit (.int .i64 b)), 0, none⟩, ⟨62, bndD 32 3 (.lit (.int .i64 c)), 0, none⟩] =
  bif ((hasS a x0) == true) then
    bif ((!(hasS b x0)) == true) then
      some (dat 4 (.lit (.bool (!(hasS c x0)))), [some ⟨62, bndD 32 3 (.lit (.int .i64 a)), 0, none⟩, some ⟨62, bndD 32 3 (.lit (.int .i64 b)), 0, none⟩, some ⟨62, bndD 32 3 (.lit (.int .i64 c)), 0, none⟩])
    else some (dat 4 (.lit (.bool false)), [some ⟨62, bndD 32 3 (.lit (.int .i64 a)), 0, none⟩, some ⟨62, bndD 32 3 (.lit (.int .i64 b)), 0, none⟩, some ⟨62, bndD 32 3 (.lit (.int .i64 c)), 0, none⟩])
  else some (dat 4 (.lit (.bool false)), [some ⟨62, bndD 32 3 (.lit (.int .i64 a)), 0, none⟩, some ⟨62, bndD 32 3 (.lit (.int .i64 b)), 0, none⟩, some ⟨62, bndD 32 3 (.lit (.int .i64 c)), 0, none⟩]) := by kernel_rfl

/- roadbook/query.places -/
def t31_b_h : Hints := fun i => if i = 3 then some ([0, 2, 3, 4, 6, 7, 8, 12, 13, 14, 15, 16, 17, 18, 19, 20, 21, 22, 23, 24, 25], [5], []) else none
def t31_b_lp3 (P : Program) (fn : Func) (N n : Nat) (x0 : D) (s : Int) (v11 : Int) (b5 : List D) : Option AV := evLoop (preL t31_b_h (sub [1, 1, 0, 1, 0, 0] (bodyOf fn))) (evCode P (envR Q4 [] [] []) t31_b_h N (sub [1, 1, 0, 1, 0, 0] (bodyOf fn))) n ⟨[dead, dat 62 (bndD 32 3 (.lit (.int .i64 s))), dead, dead, dead, bxp 5 25, dead, dead, dead, dat 26 (fieldD x0 1), dat 3 (.lit (.int .i64 ((elemsD (fieldD x0 1)).length : Int))), dat 3 (.lit (.int .i64 v11)), dead, dead, dead, dead, dead, dead, dead, dead, dead, dead, dead, dead, dead, dead], lookB [(5, some ⟨25, .slice b5 [], 1, none⟩)]⟩ (blockK 0 (seqC P (envR Q4 [] [] []) t31_b_h N (sub [1, 1, 1] (bodyOf fn)) (finK P fn) ))
theorem t31_b_lp3_step (N n : Nat) (x0 : D) (s : Int) (v11 : Int) (b5 : List D) : t31_b_lp3 Try.prog Try.f31 N (n + 1) x0 s v11 b5 =
  bif decide (v11 < ((elemsD (fieldD x0 1)).length : Int)) then
    bif (decide (0 ≤ v11) && decide (v11 < ((elemsD (fieldD x0 1)).length : Int))) then
      bif hasS s (ofE ((elemsD (fieldD x0 1)).getD (v11).toNat .nil)) then
        bif decide ((b5).length + 1 ≤ 2147483648) then
          t31_b_lp3 Try.prog Try.f31 N n x0 s (IntKind.wrap .i64 (v11 + 1)) (b5 ++ [.lit (.int .i64 v11)])
        else none
      else t31_b_lp3 Try.prog Try.f31 N n x0 s (IntKind.wrap .i64 (v11 + 1)) b5
    else none
  else some (dat 25 (.slice b5 [])) := by kernel_rfl
theorem t31_b (N : Nat) (x0 : D) (s : Int) : evFn Try.prog (envR Q4 [] [] []) t31_b_h N Try.f31 [dat 28 x0, dat 62 (bndD 32 3 (.lit (.int .i64 s)))] =
  t31_b_lp3 Try.prog Try.f31 N N x0 s 0 [] := by kernel_rfl

end X
end Go.Proofs.Ytjgnknkbohlopaa

namespace Go.Proofs.Ytjgnknkbohlopaa
namespace X
open Go.Ev
set_option linter.unusedVariables false
set_option maxRecDepth 10000
set_option linter.unusedSimpArgs false

def e29 : FuncId × TypeId × (List AV → Bool) × (List AV → Option D) := (29, 4, preD (q2 fun x y => occMayB x y), ent [24, 28] (f2 fun x y => some (.lit (.bool (exprMayB x y)))))
theorem k29 : FnOK Try.prog 29 Try.f29 := ⟨Try.func29, rfl, by kernel_rfl⟩
theorem c29 : ∀ args d, e29.2.2.1 args = true → e29.2.2.2 args = some d → CallOK Try.prog 29 args (mkRes Try.prog 4 d) :=
  ent2p k29 fun x y d hq h _ ⟨_, hy⟩ => by
    cases h
    rw [nCat, nQry]
    have hl : (elemsD (fieldD y 1)).length ≤ maxLen := (tyQ hy).p
    have hq : occMayB x y = true := hq
    refine fn_ok hm envQ4 k29 ((t29 ((elemsD (fieldD y 1)).length + 1) x y).trans ?_)
    have lp : t29_lp4 Try.prog Try.f29 ((elemsD (fieldD y 1)).length + 1) ((elemsD (fieldD y 1)).length + 1) x y 0 = some (dat 4 (.lit (.bool ((elemsD (fieldD y 1)).all (exprB x y))))) := by
      have := l_loop (fun n v => t29_lp4 Try.prog Try.f29 ((elemsD (fieldD y 1)).length + 1) n x y v) (elemsD (fieldD y 1)).length (fun i => !exprB x y ((elemsD (fieldD y 1)).getD i .nil)) (some (dat 4 (.lit (.bool false)))) (some (dat 4 (.lit (.bool true))))
        (fun n i hi => by
          rw [t29_lp4_step, l_idx hi, l_lt hi, cond_true, cond_true, Int.toNat_natCast, l_wrap hl hi, hq, natEq0, cond_true]
          unfold exprB
          generalize t29_lp4 Try.prog Try.f29 ((elemsD (fieldD y 1)).length + 1) n x y ((i + 1 : Nat) : Int) = W
          cases (colsE ((elemsD (fieldD y 1)).getD i .nil)).isEmpty <;> cases areColB x y (colsE ((elemsD (fieldD y 1)).getD i .nil)) <;> rfl)
        (fun n => by rw [t29_lp4_step, l_ge (by omega), cond_false]) ((elemsD (fieldD y 1)).length + 1) 0 (Nat.zero_le _) (by omega)
      refine this.trans ?_
      rw [Nat.sub_zero, l_any0 (elemsD (fieldD y 1)) (fun o => !exprB x y o), any_not]
      cases (elemsD (fieldD y 1)).all (exprB x y) <;> rfl
    rw [m4, lp]
    show _ = some (dat 4 (.lit (.bool (exprMayB x y))))
    unfold exprMayB qP
    rw [show decide (((elemsD (fieldD y 1)).length : Int) > 6) = _ from natGt 6]
    cases decide ((elemsD (fieldD y 1)).length ≤ 6) <;> rfl
def e49 : FuncId × TypeId × (List AV → Bool) × (List AV → Option D) := (49, 4, preD (q2 fun x y => occMayB x y), ent [24, 28] (f2 fun x y => some (.lit (.bool (toldB x y)))))
theorem k49 : FnOK Try.prog 49 Try.f49 := ⟨Try.func49, rfl, by kernel_rfl⟩
theorem c49 : ∀ args d, e49.2.2.1 args = true → e49.2.2.2 args = some d → CallOK Try.prog 49 args (mkRes Try.prog 4 d) :=
  ent2p k49 fun x y d hq h _ ⟨_, hy⟩ => by
    cases h
    rw [nCat, nQry]
    have hl : (elemsD (fieldD y 4)).length ≤ maxLen := (tyQ hy).out
    have hq : occMayB x y = true := hq
    refine fn_ok hm envQ4 k49 ((t49 ((elemsD (fieldD y 4)).length + 1) x y).trans ?_)
    have lp : t49_lp4 Try.prog Try.f49 ((elemsD (fieldD y 4)).length + 1) ((elemsD (fieldD y 4)).length + 1) x y 0 = some (dat 4 (.lit (.bool (!dupB (elemsD (fieldD y 4)) && (intD (fieldD y 5) == -1 || hasB (elemsD (fieldD y 4)) (intD (fieldD y 5))))))) := by
      have := l_loop (fun n v => t49_lp4 Try.prog Try.f49 ((elemsD (fieldD y 4)).length + 1) n x y v) (elemsD (fieldD y 4)).length (fun i => hasB ((elemsD (fieldD y 4)).take i) (intD ((elemsD (fieldD y 4)).getD i .nil))) (some (dat 4 (.lit (.bool false)))) (some (dat 4 (.lit (.bool (intD (fieldD y 5) == -1 || hasB (elemsD (fieldD y 4)) (intD (fieldD y 5)))))))
        (fun n i hi => by
          have ht : (decide (0 ≤ (0 : Int)) && decide ((0 : Int) ≤ (i : Int)) && decide ((i : Int) ≤ ((elemsD (fieldD y 4)).length : Int))) = true := by
            simp only [Bool.and_eq_true, decide_eq_true_eq]
            omega
          rw [t49_lp4_step, l_idx hi, l_lt hi, cond_true, cond_true, ht, cond_true, Int.sub_zero, Int.toNat_natCast, l_wrap hl hi, show ((0 : Int)).toNat = 0 from rfl, List.drop_zero])
        (fun n => by
          rw [t49_lp4_step, l_ge (by omega), cond_false]
          cases (intD (fieldD y 5) == -1) <;> rfl) ((elemsD (fieldD y 4)).length + 1) 0 (Nat.zero_le _) (by omega)
      refine this.trans ?_
      unfold dupB
      rw [Nat.sub_zero]
      cases (List.range' 0 (elemsD (fieldD y 4)).length).any fun i => hasB ((elemsD (fieldD y 4)).take i) (intD ((elemsD (fieldD y 4)).getD i .nil)) <;> rfl
    rw [m4, lp, hq]
    show _ = some (dat 4 (.lit (.bool (toldB x y))))
    unfold toldB qSums qOut qOrd
    rw [natGt0, show decide (((elemsD (fieldD y 4)).length : Int) < 1) = _ from natLt 1, show decide (((elemsD (fieldD y 4)).length : Int) > 8) = _ from natGt 8]
    generalize (!dupB (elemsD (fieldD y 4)) && (intD (fieldD y 5) == -1 || hasB (elemsD (fieldD y 4)) (intD (fieldD y 5)))) = W
    cases (elemsD (fieldD y 3)).isEmpty <;> cases decide (1 ≤ (elemsD (fieldD y 4)).length) <;> cases decide ((elemsD (fieldD y 4)).length ≤ 8) <;> cases areColB x y (elemsD (fieldD y 4)) <;> rfl
def e50 : FuncId × TypeId × (List AV → Bool) × (List AV → Option D) := (50, 4, preD (q2 fun x y => occMayB x y), ent [24, 28] (f2 fun x y => some (.lit (.bool (groupsB x y)))))
theorem k50 : FnOK Try.prog 50 Try.f50 := ⟨Try.func50, rfl, by kernel_rfl⟩
theorem c50 : ∀ args d, e50.2.2.1 args = true → e50.2.2.2 args = some d → CallOK Try.prog 50 args (mkRes Try.prog 4 d) :=
  ent2p k50 fun x y d hq h _ _ => by
    cases h
    rw [nCat, nQry]
    have hq : occMayB x y = true := hq
    refine fn_ok hm envQ4 k50 ((t50 1 x y).trans ?_)
    rw [m4, hq]
    show _ = some (dat 4 (.lit (.bool (groupsB x y))))
    unfold groupsB qSums qOut qOrd qBy
    rw [natGt0, show decide (((elemsD (fieldD y 3)).length : Int) > 4) = _ from natGt 4]
    cases isColB x y (intD (fieldD y 2)) <;> cases decide ((elemsD (fieldD y 3)).length ≤ 4) <;> cases areColB x y (elemsD (fieldD y 3)) <;> cases (elemsD (fieldD y 4)).isEmpty <;> cases (intD (fieldD y 5) == -1) <;> rfl

/-! ### A function that looks at three sets -/
theorem uAsk : ∃ p q r, Try.prog.underlying 62 = some (.func p q r) := ⟨_, _, _, Try.underlying62⟩
theorem tyAsk {n : Nat} {x : D} (h : Ty Try.prog n 62 x) (hb : bndIs 32 3 x = true) : ∃ z, x = bndD 32 3 (litI z) := by
  obtain ⟨p, q, r, hu⟩ := uAsk
  obtain ⟨m, y, rfl, hy⟩ := ty_bnd hu h hb
  obtain ⟨z, rfl, _⟩ := ty3' hy
  exact ⟨z, rfl⟩
def setOf (x : D) : Int := intD (bndArg x)
def isAsk (x : D) : Bool := bndIs 32 3 x
def askB (a b c s : Int) : Bool := hasS a s && !hasS b s && !hasS c s
def a33 : List AV := [dat 3 .nil, bxp OID 62, bxp (OID + 1) 62, bxp (OID + 2) 62]
def b33 : List Ent := [⟨62, .nil, 0, none⟩, ⟨62, .nil, 0, none⟩, ⟨62, .nil, 0, none⟩]
def g33 (ds hs : List D) : Option D := match ds, hs with
  | [x, _, _, _], [a, b, c] => bif isAsk a && isAsk b && isAsk c then some (.lit (.bool (askB (setOf a) (setOf b) (setOf c) (intD x)))) else none
  | _, _ => none
def r33 : FuncId × TypeId × (List AV → List Ent → Bool) × (List AV → List Ent → Option D) := (33, 4, preH a33 b33 (fun _ _ => true), entR a33 b33 g33)
theorem k33 : FnOK Try.prog 33 Try.f33 := ⟨Try.func33, rfl, by kernel_rfl⟩
theorem r33_ok : ∀ args hp d, preH a33 b33 (fun _ _ => true) args hp = true → entR a33 b33 g33 args hp = some d → HCallOK Try.prog 33 args hp (mkRes Try.prog 4 d) (hp.map some) := by
  refine entR_ok rfl rfl fun ds es d _ hd => ?_
  unfold g33 at hd
  split at hd
  · rename_i x y1 y2 y3 a b c
    cases hb : (isAsk a && isAsk b && isAsk c) with
    | false => rw [hb, cond_false] at hd; cases hd
    | true =>
      rw [hb, cond_true] at hd
      cases hd
      rw [Bool.and_eq_true, Bool.and_eq_true] at hb
      refine HCallOK.typed k33.ex fun hta hty => ?_
      obtain ⟨n0, h0⟩ := hta (dat 3 x) (by simp [fillA, a33, dat]) rfl
      obtain ⟨n1, h1⟩ := hty ⟨62, a, 0, none⟩ (by simp [fillE, b33]) rfl rfl
      obtain ⟨n2, h2⟩ := hty ⟨62, b, 0, none⟩ (by simp [fillE, b33]) rfl rfl
      obtain ⟨n3, h3⟩ := hty ⟨62, c, 0, none⟩ (by simp [fillE, b33]) rfl rfl
      obtain ⟨v, rfl, _⟩ := ty3' h0
      obtain ⟨z1, rfl⟩ := tyAsk h1 hb.1.1
      obtain ⟨z2, rfl⟩ := tyAsk h2 hb.1.2
      obtain ⟨z3, rfl⟩ := tyAsk h3 hb.2
      rw [m4]
      refine fnH_ok hm envQ4 k33 ((t33 1 v z1 z2 z3).trans ?_)
      show _ = some (dat 4 (.lit (.bool (askB z1 z2 z3 v))), _)
      unfold askB
      cases hasS z1 v <;> cases hasS z2 v <;> rfl
  · cases hd
def Q4r : RTab := [r33]
theorem envQ4r : EnvOK Try.prog (envR Q4 [] Q4r []) := envOK_consR envQ4 r33_ok

/-! ### Places -/
theorem plb_loop {N : Nat} {q : D} {s : Int} (hl : (elemsD (fieldD q 1)).length ≤ 2147483647) : ∀ (n i : Nat) (l : List D), i ≤ (elemsD (fieldD q 1)).length → (elemsD (fieldD q 1)).length - i < n → l.length ≤ i →
    t31_b_lp3 Try.prog Try.f31 N n q s (i : Int) l = some (dat 25 (.slice (l ++ plc (fun e => hasS s (ofE e)) ((elemsD (fieldD q 1)).drop i) i) []))
  | 0, i, l, _, h, _ => by omega
  | n + 1, i, l, hi, h, hle => by
    rw [t31_b_lp3_step]
    by_cases hlt : i < (elemsD (fieldD q 1)).length
    · rw [l_idx hlt, l_lt hlt, cond_true, cond_true, Int.toNat_natCast, l_get hlt, l_wrap (Nat.le_trans hl (by unfold maxLen; omega)) hlt, List.drop_eq_getElem_cons hlt, plc_cons]
      cases hf : hasS s (ofE (elemsD (fieldD q 1))[i]) with
      | true =>
        rw [cond_true, dT (show l.length + 1 ≤ 2147483648 by omega), cond_true, plb_loop hl n (i + 1) _ (by omega) (by omega) (by simp; omega), List.append_assoc]
        rfl
      | false =>
        rw [cond_false, plb_loop hl n (i + 1) _ (by omega) (by omega) (by omega)]
        rfl
    · rw [l_ge hlt, cond_false, List.drop_of_length_le (by omega)]
      simp [plc]
def plbF (x y : D) : Option D := bif isAsk y then some (.slice (plc (fun e => hasS (setOf y) (ofE e)) (qP x) 0) []) else none
def e31 : FuncId × TypeId × (List AV → Bool) × (List AV → Option D) := (31, 25, preD (q2 fun x _ => decide ((qP x).length ≤ 2147483647)), ent [28, 62] (f2 plbF))
theorem k31 : FnOK Try.prog 31 Try.f31 := ⟨Try.func31, rfl, by kernel_rfl⟩
theorem c31 : ∀ args d, e31.2.2.1 args = true → e31.2.2.2 args = some d → CallOK Try.prog 31 args (mkRes Try.prog 25 d) :=
  ent2p k31 fun x y d hq h ⟨_, hx⟩ ⟨_, hy⟩ => by
    unfold plbF at h
    cases hb : isAsk y with
    | false => rw [hb, cond_false] at h; cases h
    | true =>
      rw [hb, cond_true] at h
      cases h
      rw [nQry, nAsk]
      obtain ⟨s, rfl⟩ := tyAsk hy hb
      have hl : (elemsD (fieldD x 1)).length ≤ 2147483647 := of_decide_eq_true hq
      refine fn_ok hm envQ4 k31 ((t31_b ((elemsD (fieldD x 1)).length + 1) x s).trans ?_)
      rw [m27]
      exact (plb_loop hl _ 0 [] (Nat.zero_le _) (by omega) (by simp))
def Q5 : Tab := e31 :: e50 :: e49 :: e29 :: Q4
theorem envQ5 : EnvOK Try.prog (envH Q5 []) := envOK_cons' (envOK_cons' (envOK_cons' (envOK_cons' envQ4 c29) c49) c50) c31

end X
end Go.Proofs.Ytjgnknkbohlopaa

namespace Go.Proofs.Ytjgnknkbohlopaa
namespace X
open Go.Ev
set_option linter.unusedVariables false
/- roadbook/query.places -/
def t31_c_h : Hints := fun i => if i = 3 then some ([0, 2, 3, 4, 6, 7, 8, 12, 13, 14, 15, 16, 17, 18, 19, 20, 21, 22, 23, 24, 25], [5, 1000000, 1000001, 1000002], []) else none
def t31_c_lp3 (P : Program) (fn : Func) (N n : Nat) (x0 : D) (a : Int) (b : Int) (c : Int) (v11 : Int) (b5 : List D) : Option (AV × List (Option Ent)) := evLoop (preL t31_c_h (sub [1, 1, 0, 1, 0, 0] (bodyOf fn))) (evCode P (envR Q4 [] Q4r []) t31_c_h N (sub [1, 1, 0, 1, 0, 0] (bodyOf fn))) n ⟨[dead, clo 62 33 [1000000, 1000001, 1000002], dead, dead, dead, bxp 5 25, dead, dead, dead, dat 26 (fieldD x0 1), dat 3 (.lit (.int .i64 ((elemsD (fieldD x0 1)).length : Int))), dat 3 (.lit (.int .i64 v11)), dead, dead, dead, dead, dead, dead, dead, dead, dead, dead, dead, dead, dead, dead], lookB [(5, some ⟨25, .slice b5 [], 1, none⟩), (1000000, some ⟨62, bndD 32 3 (.lit (.int .i64 a)), 0, none⟩), (1000001, some ⟨62, bndD 32 3 (.lit (.int .i64 b)), 0, none⟩), (1000002, some ⟨62, bndD 32 3 (.lit (.int .i64 c)), 0, none⟩)]⟩ (blockK 0 (seqC P (envR Q4 [] Q4r []) t31_c_h N (sub [1, 1, 1] (bodyOf fn)) (finH P fn 3) ))
theorem t31_c_lp3_step (N n : Nat) (x0 : D) (a : Int) (b : Int) (c : Int) (v11 : Int) (b5 : List D) : t31_c_lp3 Try.prog Try.f31 N (n + 1) x0 a b c v11 b5 =
  bif decide (v11 < ((elemsD (fieldD x0 1)).length : Int)) then
    bif (decide (0 ≤ v11) && decide (v11 < ((elemsD (fieldD x0 1)).length : Int))) then
      bif askB a b c (ofE ((elemsD (fieldD x0 1)).getD (v11).toNat .nil)) then
        bif decide ((b5).length + 1 ≤ 2147483648) then
          t31_c_lp3 Try.prog Try.f31 N n x0 a b c (IntKind.wrap .i64 (v11 + 1)) (b5 ++ [.lit (.int .i64 v11)])
        else none
      else t31_c_lp3 Try.prog Try.f31 N n x0 a b c (IntKind.wrap .i64 (v11 + 1)) b5
    else none
  else some (dat 25 (.slice b5 []), [some ⟨62, bndD 32 3 (.lit (.int .i64 a)), 0, none⟩, some ⟨62, bndD 32 3 (.lit (.int .i64 b)), 0, none⟩, some ⟨62, bndD 32 3 (.lit (.int .i64 c)), 0, none⟩]) := by kernel_rfl
theorem t31_c (N : Nat) (x0 : D) (a : Int) (b : Int) (c : Int) : evFnH Try.prog (envR Q4 [] Q4r []) t31_c_h N Try.f31 [dat 28 x0, clo 62 33 [1000000, 1000001, 1000002]] [⟨62, bndD 32 3 (.lit (.int .i64 a)), 0, none⟩, ⟨62, bndD 32 3 (.lit (.int .i64 b)), 0, none⟩, ⟨62, bndD 32 3 (.lit (.int .i64 c)), 0, none⟩] =
  t31_c_lp3 Try.prog Try.f31 N N x0 a b c 0 [] := by kernel_rfl

/- roadbook/query.endMay -/
def t30_h : Hints := fun _ =>  none
theorem t30 (N : Nat) (x0 : D) (x1 : D) : evFn Try.prog (envR Q5 [] [] []) t30_h N Try.f30 [dat 24 x0, dat 28 x1] =
  bif ((intD (fieldD x1 2)) == (-1)) then
    bif occMayB x0 x1 then
      some (dat 4 (.lit (.bool (toldB x0 x1))))
    else none
  else bif occMayB x0 x1 then
      some (dat 4 (.lit (.bool (groupsB x0 x1))))
    else none := by kernel_rfl

/- roadbook/query.Own -/
def t11_h : Hints := fun _ =>  none
theorem t11 (N : Nat) (x0 : D) (x1 : Int) : evFn Try.prog (envR Q5 [] [] []) t11_h N Try.f11 [dat 28 x0, dat 3 (.lit (.int .i64 x1))] =
  bif decide ((qP x0).length ≤ 2147483647) then
    some (dat 25 (.slice (plc (fun e => hasS x1 (ofE e)) (qP x0) 0) []))
  else none := by kernel_rfl

end X
end Go.Proofs.Ytjgnknkbohlopaa

namespace Go.Proofs.Ytjgnknkbohlopaa
namespace X
open Go.Ev
set_option linter.unusedVariables false
set_option maxRecDepth 10000
set_option linter.unusedSimpArgs false

theorem plc_loop {N : Nat} {q : D} {a b c : Int} (hl : (elemsD (fieldD q 1)).length ≤ 2147483647) : ∀ (n i : Nat) (l : List D), i ≤ (elemsD (fieldD q 1)).length → (elemsD (fieldD q 1)).length - i < n → l.length ≤ i →
    t31_c_lp3 Try.prog Try.f31 N n q a b c (i : Int) l = some (dat 25 (.slice (l ++ plc (fun e => askB a b c (ofE e)) ((elemsD (fieldD q 1)).drop i) i) []), [some ⟨62, bndD 32 3 (.lit (.int .i64 a)), 0, none⟩, some ⟨62, bndD 32 3 (.lit (.int .i64 b)), 0, none⟩, some ⟨62, bndD 32 3 (.lit (.int .i64 c)), 0, none⟩])
  | 0, i, l, _, h, _ => by omega
  | n + 1, i, l, hi, h, hle => by
    rw [t31_c_lp3_step]
    by_cases hlt : i < (elemsD (fieldD q 1)).length
    · rw [l_idx hlt, l_lt hlt, cond_true, cond_true, Int.toNat_natCast, l_get hlt, l_wrap (Nat.le_trans hl (by unfold maxLen; omega)) hlt, List.drop_eq_getElem_cons hlt, plc_cons]
      show (bif askB a b c (ofE (elemsD (fieldD q 1))[i]) then _ else _) = _
      cases hf : askB a b c (ofE (elemsD (fieldD q 1))[i]) with
      | true =>
        rw [cond_true, dT (show l.length + 1 ≤ 2147483648 by omega), cond_true, plc_loop hl n (i + 1) _ (by omega) (by omega) (by simp; omega), List.append_assoc]
        rfl
      | false =>
        rw [cond_false, plc_loop hl n (i + 1) _ (by omega) (by omega) (by omega)]
        rfl
    · rw [l_ge hlt, cond_false, List.drop_of_length_le (by omega)]
      simp [plc]
def a31 : List AV := [dat 28 .nil, clo 62 33 [OID, OID + 1, OID + 2]]
def g31 (ds hs : List D) : HRes := match ds, hs with
  | [x, _], [a, b, c] => bif isAsk a && isAsk b && isAsk c then some (dat 25 (.slice (plc (fun e => askB (setOf a) (setOf b) (setOf c) (ofE e)) (qP x) 0) []), [some ⟨62, a, 0, none⟩, some ⟨62, b, 0, none⟩, some ⟨62, c, 0, none⟩]) else none
  | _, _ => none
def p31 (ds hs : List D) : Bool := decide ((qP (ds.getD 0 .nil)).length ≤ 2147483647)
def h31 : HEnt := (31, 25, preH a31 b33 p31, entH a31 b33 g31)
theorem h31_ok : ∀ args hh r h', preH a31 b33 p31 args hh = true → entH a31 b33 g31 args hh = some (r, h') → HCallOK Try.prog 31 args hh r h' := by
  refine entH_ok rfl rfl fun ds es r h' hq hd => ?_
  unfold g31 at hd
  split at hd
  · rename_i x y a b c
    cases hb : (isAsk a && isAsk b && isAsk c) with
    | false => rw [hb, cond_false] at hd; cases hd
    | true =>
      rw [hb, cond_true] at hd
      injection hd with hd
      injection hd with h1 h2
      subst h1 h2
      rw [Bool.and_eq_true, Bool.and_eq_true] at hb
      refine HCallOK.typed k31.ex fun hta hty => ?_
      obtain ⟨n1, h1⟩ := hty ⟨62, a, 0, none⟩ (by simp [fillE, b33]) rfl rfl
      obtain ⟨n2, h2⟩ := hty ⟨62, b, 0, none⟩ (by simp [fillE, b33]) rfl rfl
      obtain ⟨n3, h3⟩ := hty ⟨62, c, 0, none⟩ (by simp [fillE, b33]) rfl rfl
      obtain ⟨z1, rfl⟩ := tyAsk h1 hb.1.1
      obtain ⟨z2, rfl⟩ := tyAsk h2 hb.1.2
      obtain ⟨z3, rfl⟩ := tyAsk h3 hb.2
      have hl : (elemsD (fieldD x 1)).length ≤ 2147483647 := of_decide_eq_true hq
      refine fnH_ok hm envQ4r k31 ((t31_c ((elemsD (fieldD x 1)).length + 1) x z1 z2 z3).trans ?_)
      exact plc_loop hl _ 0 [] (Nat.zero_le _) (by omega) (by simp)
  · cases hd
def e30 : FuncId × TypeId × (List AV → Bool) × (List AV → Option D) := (30, 4, preD (q2 fun x y => occMayB x y), ent [24, 28] (f2 fun x y => some (.lit (.bool (endB x y)))))
theorem k30 : FnOK Try.prog 30 Try.f30 := ⟨Try.func30, rfl, by kernel_rfl⟩
theorem c30 : ∀ args d, e30.2.2.1 args = true → e30.2.2.2 args = some d → CallOK Try.prog 30 args (mkRes Try.prog 4 d) :=
  ent2p k30 fun x y d hq h _ _ => by
    cases h
    rw [nCat, nQry]
    have hq : occMayB x y = true := hq
    refine fn_ok hm envQ5 k30 ((t30 1 x y).trans ?_)
    rw [m4, hq]
    show _ = some (dat 4 (.lit (.bool (endB x y))))
    unfold endB qBy
    cases (intD (fieldD y 2) == -1) <;> rfl
def e11 : FuncId × TypeId × (List AV → Bool) × (List AV → Option D) := (11, 25, preD (q2 fun x _ => decide ((qP x).length ≤ 2147483647)), ent [28, 3] (f2 fun x y => some (.slice (ownL x (intD y)) [])))
theorem k11 : FnOK Try.prog 11 Try.f11 := ⟨Try.func11, rfl, by kernel_rfl⟩
theorem c11 : ∀ args d, e11.2.2.1 args = true → e11.2.2.2 args = some d → CallOK Try.prog 11 args (mkRes Try.prog 25 d) :=
  ent2p k11 fun x y d hq h _ _ => by
    cases h
    rw [nQry, n3]
    have hq : decide ((qP x).length ≤ 2147483647) = true := hq
    refine fn_ok hm envQ5 k11 ((t11 1 x (intD y)).trans ?_)
    rw [m27, hq]
    rfl
def Q6 : Tab := e11 :: e30 :: Q5
theorem envQ6 : EnvOK Try.prog (envH Q6 []) := envOK_cons' (envOK_cons' envQ5 c30) c11
def Q6h : HTab := [h31]
theorem envQ6h : EnvOK Try.prog (envR Q6 Q6h [] []) := envOK_consH envQ6 h31_ok

end X
end Go.Proofs.Ytjgnknkbohlopaa
