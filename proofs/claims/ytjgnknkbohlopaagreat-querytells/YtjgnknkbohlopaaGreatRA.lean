/- What the evaluator comes to, function by function: by the kernel. Nothing here is trusted. -/
import Derived.Test.YtjgnknkbohlopaaGreatQE
import Derived.Test.YtjgnknkbohlopaaGreatV3
namespace Go.Proofs.YtjgnknkbohlopaaGreat
namespace X
open Go.Ev
set_option linter.unusedVariables false
/- roadbook/roadbookref02.many -/
def t94_h : Hints := fun _ =>  none
theorem t94 (N : Nat) (x0 : Int) (x1 : Int) : evFn Tryz.prog (envR QA [] [] []) t94_h N Tryz.f94 [dat 3 (.lit (.int .i64 x0)), dat 3 (.lit (.int .i64 x1))] =
  bif (x0 == 0) then
    some (dat 4 (.lit (.bool (x1 == 0))))
  else bif (x0 == 1) then
      some (dat 4 (.lit (.bool (x1 == 0))))
    else bif (x0 == 10) then
        some (dat 4 (.lit (.bool (x1 == 1))))
      else bif (x0 == 8) then
          some (dat 4 (.lit (.bool (decide (x1 ≤ 4)))))
        else bif (x0 == 9) then
            some (dat 4 (.lit (.bool (decide (x1 ≤ 4)))))
          else some (dat 4 (.lit (.bool (x1 == 2)))) := by kernel_rfl

/- roadbook/roadbookref03.Place -/
def t37_h : Hints := fun i => if i = 2 then some ([2, 3, 4, 6, 7, 8, 9, 10, 11, 12, 13, 14, 15, 16, 17, 18], [], []) else none
def t37_lp2 (P : Program) (fn : Func) (N n : Nat) (x0 : D) (x1 : Int) (v5 : Int) : Option AV := evLoop (preL t37_h (sub [1, 0, 1, 0, 0] (bodyOf fn))) (evCode P (envR QA [] [] []) t37_h N (sub [1, 0, 1, 0, 0] (bodyOf fn))) n ⟨[dat 25 x0, dat 3 (.lit (.int .i64 x1)), dead, dead, dead, dat 3 (.lit (.int .i64 v5)), dead, dead, dead, dead, dead, dead, dead, dead, dead, dead, dead, dead, dead], lookB []⟩ (blockK 0 (seqC P (envR QA [] [] []) t37_h N (sub [1, 1] (bodyOf fn)) (finK P fn) ))
theorem t37_lp2_step (N n : Nat) (x0 : D) (x1 : Int) (v5 : Int) : t37_lp2 Tryz.prog Tryz.f37 N (n + 1) x0 x1 v5 =
  bif decide (v5 < ((elemsD x0).length : Int)) then
    bif (decide (0 ≤ v5) && decide (v5 < ((elemsD x0).length : Int))) then
      bif ((intD ((elemsD x0).getD (v5).toNat .nil)) == x1) then
        some (dat 3 (.lit (.int .i64 v5)))
      else t37_lp2 Tryz.prog Tryz.f37 N n x0 x1 (IntKind.wrap .i64 (v5 + 1))
    else none
  else some (dat 3 (.lit (.int .i64 (-1)))) := by kernel_rfl
theorem t37 (N : Nat) (x0 : D) (x1 : Int) : evFn Tryz.prog (envR QA [] [] []) t37_h N Tryz.f37 [dat 25 x0, dat 3 (.lit (.int .i64 x1))] =
  t37_lp2 Tryz.prog Tryz.f37 N N x0 x1 0 := by kernel_rfl

/- roadbook/roadbookref04.May -/
def t35_h : Hints := fun i => if i = 2 then some ([0, 2, 4, 5, 6, 7, 8, 9, 10, 11, 12, 13, 14, 15, 16, 17, 18, 19, 20, 21, 22, 23, 24, 25, 26, 27, 28, 29, 30, 31, 32, 33, 34, 35, 36, 37, 38, 39, 40, 41, 42, 43, 44, 45, 46, 47, 48, 49, 50, 51, 52, 53, 54], [1], []) else none
def t35_lp2 (P : Program) (fn : Func) (N n : Nat) (x0 : D) (v3 : Int) : Option AV := evLoop (preL t35_h (sub [1, 0, 1, 0, 0] (bodyOf fn))) (evCode P (envR QA [] [] []) t35_h N (sub [1, 0, 1, 0, 0] (bodyOf fn))) n ⟨[dead, bxp 1 24, dead, dat 3 (.lit (.int .i64 v3)), dead, dead, dead, dead, dead, dead, dead, dead, dead, dead, dead, dead, dead, dead, dead, dead, dead, dead, dead, dead, dead, dead, dead, dead, dead, dead, dead, dead, dead, dead, dead, dead, dead, dead, dead, dead, dead, dead, dead, dead, dead, dead, dead, dead, dead, dead, dead, dead, dead, dead, dead], lookB [(1, some ⟨24, x0, 0, none⟩)]⟩ (blockK 0 (seqC P (envR QA [] [] []) t35_h N (sub [1, 1] (bodyOf fn)) (finK P fn) ))
theorem t35_lp2_step (N n : Nat) (x0 : D) (v3 : Int) : t35_lp2 Tryz.prog Tryz.f35 N (n + 1) x0 v3 =
  bif decide (v3 < ((elemsD (fieldD x0 0)).length : Int)) then
    bif (decide (0 ≤ v3) && decide (v3 < ((elemsD (fieldD x0 0)).length : Int))) then
      bif ((decide ((intD (fieldD ((elemsD (fieldD x0 0)).getD (v3).toNat .nil) 0)) < 1)) == false) then
        bif (decide (0 ≤ v3) && decide (v3 < ((elemsD (fieldD x0 0)).length : Int))) then
          bif ((decide ((intD (fieldD ((elemsD (fieldD x0 0)).getD (v3).toNat .nil) 0)) > 4)) == false) then
            bif (decide (0 ≤ v3) && decide (v3 < ((elemsD (fieldD x0 0)).length : Int))) then
              bif ((decide ((intD (fieldD ((elemsD (fieldD x0 0)).getD (v3).toNat .nil) 1)) < 1)) == false) then
                bif (decide (0 ≤ v3) && decide (v3 < ((elemsD (fieldD x0 0)).length : Int))) then
                  bif decide ((intD (fieldD ((elemsD (fieldD x0 0)).getD (v3).toNat .nil) 1)) > 1000000) then
                    some (dat 4 (.lit (.bool false)))
                  else t35_lp2 Tryz.prog Tryz.f35 N n x0 (IntKind.wrap .i64 (v3 + 1))
                else none
              else some (dat 4 (.lit (.bool false)))
            else none
          else some (dat 4 (.lit (.bool false)))
        else none
      else some (dat 4 (.lit (.bool false)))
    else none
  else bif ((decide (((elemsD (fieldD x0 0)).length : Int) ≥ 1)) == true) then
      some (dat 4 (.lit (.bool (decide (((elemsD (fieldD x0 0)).length : Int) ≤ 4)))))
    else some (dat 4 (.lit (.bool false))) := by kernel_rfl
theorem t35 (N : Nat) (x0 : D) : evFn Tryz.prog (envR QA [] [] []) t35_h N Tryz.f35 [dat 24 x0] =
  t35_lp2 Tryz.prog Tryz.f35 N N x0 0 := by kernel_rfl

/- roadbook/roadbookref05.column -/
def t36_h : Hints := fun _ =>  none
theorem t36 (N : Nat) (x0 : D) (x1 : D) (x2 : Int) : evFn Tryz.prog (envR QA [] [] []) t36_h N Tryz.f36 [dat 24 x0, dat 28 x1, dat 3 (.lit (.int .i64 x2))] =
  bif ((decide (x2 < 0)) == false) then
    bif ((decide (x2 > 15)) == false) then
      bif decide ((IntKind.wrap .i64 (Int.tdiv x2 4)) ≥ ((elemsD (fieldD x1 0)).length : Int)) then
        some (dat 4 (.lit (.bool false)))
      else bif (decide (0 ≤ (IntKind.wrap .i64 (Int.tdiv x2 4))) && decide ((IntKind.wrap .i64 (Int.tdiv x2 4)) < ((elemsD (fieldD x1 0)).length : Int))) then
          bif ((decide ((intD ((elemsD (fieldD x1 0)).getD (IntKind.wrap .i64 (Int.tdiv x2 4)).toNat .nil)) ≥ 0)) == true) then
            bif ((decide ((intD ((elemsD (fieldD x1 0)).getD (IntKind.wrap .i64 (Int.tdiv x2 4)).toNat .nil)) < ((elemsD (fieldD x0 0)).length : Int))) == true) then
              bif (decide (0 ≤ (intD ((elemsD (fieldD x1 0)).getD (IntKind.wrap .i64 (Int.tdiv x2 4)).toNat .nil))) && decide ((intD ((elemsD (fieldD x1 0)).getD (IntKind.wrap .i64 (Int.tdiv x2 4)).toNat .nil)) < ((elemsD (fieldD x0 0)).length : Int))) then
                some (dat 4 (.lit (.bool (decide ((Int.tmod x2 4) < (intD (fieldD ((elemsD (fieldD x0 0)).getD (intD ((elemsD (fieldD x1 0)).getD (IntKind.wrap .i64 (Int.tdiv x2 4)).toNat .nil)).toNat .nil) 0)))))))
              else none
            else some (dat 4 (.lit (.bool false)))
          else some (dat 4 (.lit (.bool false)))
        else none
    else some (dat 4 (.lit (.bool false)))
  else some (dat 4 (.lit (.bool false))) := by kernel_rfl

/- roadbook/roadbookref05.part -/
def t43_h : Hints := fun i => if i = 2 then some ([2, 3, 4, 6, 7, 8, 9, 10, 11, 12, 13, 14, 15, 16, 17, 18, 19, 20, 21, 22], [], []) else none
def t43_lp2 (P : Program) (fn : Func) (N n : Nat) (x0 : Int) (x1 : Int) (v5 : Int) : Option AV := evLoop (preL t43_h (sub [1, 0, 1, 0, 0] (bodyOf fn))) (evCode P (envR QA [] [] []) t43_h N (sub [1, 0, 1, 0, 0] (bodyOf fn))) n ⟨[dat 3 (.lit (.int .i64 x0)), dat 3 (.lit (.int .i64 x1)), dead, dead, dead, dat 3 (.lit (.int .i64 v5)), dead, dead, dead, dead, dead, dead, dead, dead, dead, dead, dead, dead, dead, dead, dead, dead, dead], lookB []⟩ (blockK 0 (seqC P (envR QA [] [] []) t43_h N (sub [1, 1] (bodyOf fn)) (finK P fn) ))
theorem t43_lp2_step (N n : Nat) (x0 : Int) (x1 : Int) (v5 : Int) : t43_lp2 Tryz.prog Tryz.f43 N (n + 1) x0 x1 v5 =
  bif decide (v5 < 4) then
    bif ((bitB x0 v5) == true) then
      bif (!(bitB x1 v5)) then
        some (dat 4 (.lit (.bool false)))
      else t43_lp2 Tryz.prog Tryz.f43 N n x0 x1 (IntKind.wrap .i64 (v5 + 1))
    else t43_lp2 Tryz.prog Tryz.f43 N n x0 x1 (IntKind.wrap .i64 (v5 + 1))
  else some (dat 4 (.lit (.bool true))) := by kernel_rfl
theorem t43 (N : Nat) (x0 : Int) (x1 : Int) : evFn Tryz.prog (envR QA [] [] []) t43_h N Tryz.f43 [dat 3 (.lit (.int .i64 x0)), dat 3 (.lit (.int .i64 x1))] =
  t43_lp2 Tryz.prog Tryz.f43 N N x0 x1 0 := by kernel_rfl

/- roadbook/roadbookref05.Same -/
def t17_h : Hints := fun i => if i = 4 then some ([2, 3, 4, 6, 7, 8, 9, 10, 11, 12, 13, 14, 15, 16, 17, 18, 19, 20, 21, 22, 23, 24, 25], [], []) else none
def t17_lp4 (P : Program) (fn : Func) (N n : Nat) (x0 : D) (x1 : D) (v5 : Int) : Option AV := evLoop (preL t17_h (sub [1, 1, 0, 1, 0, 0] (bodyOf fn))) (evCode P (envR QA [] [] []) t17_h N (sub [1, 1, 0, 1, 0, 0] (bodyOf fn))) n ⟨[dat 41 x0, dat 41 x1, dead, dead, dead, dat 3 (.lit (.int .i64 v5)), dead, dead, dead, dead, dead, dead, dead, dead, dead, dead, dead, dead, dead, dead, dead, dead, dead, dead, dead, dead], lookB []⟩ (blockK 0 (seqC P (envR QA [] [] []) t17_h N (sub [1, 1, 1] (bodyOf fn)) (finK P fn) ))
theorem t17_lp4_step (N n : Nat) (x0 : D) (x1 : D) (v5 : Int) : t17_lp4 Tryz.prog Tryz.f17 N (n + 1) x0 x1 v5 =
  bif decide (v5 < ((elemsD x0).length : Int)) then
    bif (decide (0 ≤ v5) && decide (v5 < ((elemsD x0).length : Int))) then
      bif (decide (0 ≤ v5) && decide (v5 < ((elemsD x1).length : Int))) then
        bif (!(((intD (fieldD ((elemsD x0).getD (v5).toNat .nil) 0)) == (intD (fieldD ((elemsD x1).getD (v5).toNat .nil) 0))) && (((intD (fieldD ((elemsD x0).getD (v5).toNat .nil) 1)) == (intD (fieldD ((elemsD x1).getD (v5).toNat .nil) 1))) && true))) then
          some (dat 4 (.lit (.bool false)))
        else t17_lp4 Tryz.prog Tryz.f17 N n x0 x1 (IntKind.wrap .i64 (v5 + 1))
      else none
    else none
  else some (dat 4 (.lit (.bool true))) := by kernel_rfl
theorem t17 (N : Nat) (x0 : D) (x1 : D) : evFn Tryz.prog (envR QA [] [] []) t17_h N Tryz.f17 [dat 41 x0, dat 41 x1] =
  bif (((elemsD x0).length : Int) != ((elemsD x1).length : Int)) then
    some (dat 4 (.lit (.bool false)))
  else t17_lp4 Tryz.prog Tryz.f17 N N x0 x1 0 := by kernel_rfl

end X
end Go.Proofs.YtjgnknkbohlopaaGreat

namespace Go.Proofs.YtjgnknkbohlopaaGreat
namespace X
open Go.Ev
set_option linter.unusedVariables false
set_option maxRecDepth 10000
set_option linter.unusedSimpArgs false

def e94 : FuncId × TypeId × (List AV → Bool) × (List AV → Option D) := (94, 4, yes, ent [3, 3] (f2 fun x y => some (.lit (.bool (takesN (intD x) (intD y))))))
theorem k94 : FnOK Tryz.prog 94 Tryz.f94 := ⟨Tryz.func94, rfl, by kernel_rfl⟩
theorem c94 : ∀ args d, e94.2.2.2 args = some d → CallOK Tryz.prog 94 args (mkRes Tryz.prog 4 d) :=
  ent2 k94 fun x y d h _ _ => by
    cases h
    rw [n3, n3]
    refine fn_ok hm envQA k94 ((t94 1 (intD x) (intD y)).trans ?_)
    rw [m4]
    show _ = some (dat 4 (.lit (.bool (takesN (intD x) (intD y)))))
    generalize intD x = a
    generalize intD y = b
    by_cases h0 : a = 0
    · subst h0; rfl
    by_cases h1 : a = 1
    · subst h1; rfl
    by_cases h2 : a = 10
    · subst h2; rfl
    by_cases h3 : a = 8
    · subst h3; rfl
    by_cases h4 : a = 9
    · subst h4; rfl
    unfold takesN
    rw [beq_eq_false_iff_ne.2 h0, beq_eq_false_iff_ne.2 h1, beq_eq_false_iff_ne.2 h2, beq_eq_false_iff_ne.2 h3, beq_eq_false_iff_ne.2 h4]
    rfl
theorem place_loop {N : Nat} {x0 : D} {x1 : Int} (hl : (elemsD x0).length ≤ maxLen) : ∀ (n i : Nat), i ≤ (elemsD x0).length → (elemsD x0).length - i < n →
    t37_lp2 Tryz.prog Tryz.f37 N n x0 x1 (i : Int) = some (dat 3 (.lit (.int .i64 (Lib.idxFrom (((elemsD x0).drop i).map intD) x1 i))))
  | 0, i, _, h => by omega
  | n + 1, i, hi, h => by
    rw [t37_lp2_step]
    by_cases hlt : i < (elemsD x0).length
    · rw [l_idx hlt, l_lt hlt, cond_true, cond_true, List.drop_eq_getElem_cons hlt, List.map_cons, Int.toNat_natCast, l_get hlt, Lib.idxFrom, l_wrap hl hlt, place_loop hl n (i + 1) (by omega) (by omega)]
      by_cases he : intD (elemsD x0)[i] = x1
      · have : (intD (elemsD x0)[i] == x1) = true := by simp [he]
        rw [this, cond_true, if_pos he]
      · have : (intD (elemsD x0)[i] == x1) = false := by rw [beq_eq_false_iff_ne]; exact he
        rw [this, cond_false, if_neg he]
    · rw [l_ge hlt, cond_false, List.drop_of_length_le (by omega)]
      rfl
def e37 : FuncId × TypeId × (List AV → Bool) × (List AV → Option D) := (37, 3, yes, ent [25, 3] (f2 fun x y => some (.lit (.int .i64 (Lib.idxOf ((elemsD x).map intD) (intD y))))))
theorem k37 : FnOK Tryz.prog 37 Tryz.f37 := ⟨Tryz.func37, rfl, by kernel_rfl⟩
theorem c37 : ∀ args d, e37.2.2.2 args = some d → CallOK Tryz.prog 37 args (mkRes Tryz.prog 3 d) :=
  ent2 k37 fun x y d h ⟨_, hx⟩ _ => by
    cases h
    rw [n27, n3]
    refine fn_ok hm envQA k37 ((t37 ((elemsD x).length + 1) x (intD y)).trans ?_)
    rw [m3]
    exact place_loop (N := (elemsD x).length + 1) (x1 := intD y) (len27 hx) ((elemsD x).length + 1) 0 (Nat.zero_le _) (by omega)

def e35 : FuncId × TypeId × (List AV → Bool) × (List AV → Option D) := (35, 4, yes, ent [24] (f1 fun x => some (.lit (.bool (mayCat x)))))
theorem k35 : FnOK Tryz.prog 35 Tryz.f35 := ⟨Tryz.func35, rfl, by kernel_rfl⟩
theorem c35 : ∀ args d, e35.2.2.2 args = some d → CallOK Tryz.prog 35 args (mkRes Tryz.prog 4 d) :=
  ent1 k35 fun x d h ⟨_, hx⟩ => by
    cases h
    rw [nCat]
    obtain ⟨ts, rfl, hl, _⟩ := tyCat hx
    refine fn_ok hm envQA k35 ((t35 (ts.length + 1) (catD ts)).trans ?_)
    rw [m4]
    have := l_loop (fun n v => t35_lp2 Tryz.prog Tryz.f35 (ts.length + 1) n (catD ts) v) ts.length (fun i => !mayDef (ts.getD i .nil)) (some (dat 4 (.lit (.bool false))))
      (some (dat 4 (.lit (.bool (decide (1 ≤ ts.length) && decide (ts.length ≤ 4))))))
      (fun n i hi => by
        rw [t35_lp2_step, tabs_cat, l_idx hi, l_lt hi, Int.toNat_natCast]
        simp only [cond_true]
        rw [mayDef_tree, l_wrap hl hi])
      (fun n => by
        rw [t35_lp2_step, tabs_cat, l_ge (by omega), cond_false]
        by_cases h1 : 1 ≤ ts.length
        · rw [dT (show ((ts.length : Int)) ≥ 1 by omega), dT h1]
          by_cases h4 : ts.length ≤ 4
          · rw [dT (show ((ts.length : Int)) ≤ 4 by omega), dT h4]; rfl
          · rw [dF (show ¬ ((ts.length : Int)) ≤ 4 by omega), dF h4]; rfl
        · rw [dF (show ¬ ((ts.length : Int)) ≥ 1 by omega), dF h1]; rfl) (ts.length + 1) 0 (Nat.zero_le _) (by omega)
    refine this.trans ?_
    rw [Nat.sub_zero, l_any0 ts (fun t => !mayDef t), any_may]
    show _ = some (dat 4 (.lit (.bool ((decide (1 ≤ ts.length) && decide (ts.length ≤ 4)) && ts.all mayDef))))
    cases (decide (1 ≤ ts.length) && decide (ts.length ≤ 4)) <;> cases ts.all mayDef <;> rfl

def e36 : FuncId × TypeId × (List AV → Bool) × (List AV → Option D) := (36, 4, yes, ent [24, 28, 3] (f3 fun x y z => some (.lit (.bool (colRB x y (intD z))))))
theorem k36 : FnOK Tryz.prog 36 Tryz.f36 := ⟨Tryz.func36, rfl, by kernel_rfl⟩
theorem c36 : ∀ args d, e36.2.2.2 args = some d → CallOK Tryz.prog 36 args (mkRes Tryz.prog 4 d) :=
  ent3 k36 fun x y z d h _ _ _ => by
    cases h
    rw [nCat, nQry, n3]
    refine fn_ok hm envQA k36 ((t36 1 x y (intD z)).trans ?_)
    rw [m4]
    show _ = some (dat 4 (.lit (.bool (colRB x y (intD z)))))
    generalize intD z = v
    unfold colRB
    by_cases h0 : v < 0
    · rw [dT h0, below_not.2 (by omega)]; rfl
    by_cases h1 : v > 15
    · rw [dF h0, dT h1, below_not.2 (by omega)]; rfl
    have h16 : 0 ≤ v ∧ v < 16 := by omega
    rw [dF h0, dF h1, below_iff.2 h16, wrap_div h16, ge_not]
    by_cases h2 : v / 4 < ((qOcc y).length : Int)
    · have h2' : ¬ (((elemsD (fieldD y 0)).length : Int) ≤ v / 4) := fun hh => absurd h2 (by unfold qOcc; omega)
      have h3 : v / 4 < ((elemsD (fieldD y 0)).length : Int) := h2
      rw [dF h2', dT h2, dT (show 0 ≤ v / 4 by omega), dT h3, Int.tmod_eq_emod_of_nonneg h16.1]
      unfold belowB tabC defC qOcc tabs
      rw [ge_not]
      cases decide (0 ≤ intD ((elemsD (fieldD y 0)).getD (v / 4).toNat .nil)) <;> cases decide (intD ((elemsD (fieldD y 0)).getD (v / 4).toNat .nil) < ((elemsD (fieldD x 0)).length : Int)) <;> rfl
    · have h2' : ((elemsD (fieldD y 0)).length : Int) ≤ v / 4 := by unfold qOcc at h2; omega
      rw [dT h2', dF h2]
      rfl
def e43 : FuncId × TypeId × (List AV → Bool) × (List AV → Option D) := (43, 4, preD (q2 fun x _ => decide (0 ≤ intD x) && decide (intD x ≤ 15)), ent [3, 3] (f2 fun x y => some (.lit (.bool (hasS (intD y) (intD x))))))
theorem k43 : FnOK Tryz.prog 43 Tryz.f43 := ⟨Tryz.func43, rfl, by kernel_rfl⟩
theorem part_step {N n : Nat} {a b : Int} {o : Nat} (ho : o < 4) : t43_lp2 Tryz.prog Tryz.f43 N (n + 1) a b (o : Int) = bif inS a o && !inS b o then some (dat 4 (.lit (.bool false))) else t43_lp2 Tryz.prog Tryz.f43 N n a b ((o + 1 : Nat) : Int) := by
  rw [t43_lp2_step, dT (show (o : Int) < 4 by omega), cond_true, bit_any (show 0 ≤ (o : Int) ∧ (o : Int) < 64 by omega), bit_any (show 0 ≤ (o : Int) ∧ (o : Int) < 64 by omega), Int.toNat_natCast, l_wrapI (l_in (by omega) (by omega)), show ((o : Int) + 1) = ((o + 1 : Nat) : Int) from rfl]
  generalize t43_lp2 Tryz.prog Tryz.f43 N n a b ((o + 1 : Nat) : Int) = W
  cases inS a o <;> cases inS b o <;> rfl
theorem small_bits {a : Int} (h : 0 ≤ a ∧ a ≤ 15) {i : Nat} (hi : 4 ≤ i) : inS a i = false := by
  by_cases h64 : i < 64
  · rw [inS_div _ _ h64, decide_eq_false_iff_not]
    have hp : (16 : Int) ≤ 2 ^ i := by
      have h2 : 2 ^ 4 ≤ 2 ^ i := Nat.pow_le_pow_right (by decide) hi
      have h3 : ((2 ^ 4 : Nat) : Int) ≤ ((2 ^ i : Nat) : Int) := Int.ofNat_le.2 h2
      rw [Int.natCast_pow, Int.natCast_pow] at h3
      exact h3
    rw [Int.ediv_eq_zero_of_lt h.1 (by omega)]
    decide
  · exact BitVec.getLsbD_of_ge _ _ (by omega)
theorem part_has {a b : Int} (h : 0 ≤ a ∧ a ≤ 15) : hasS b a = !((List.range' 0 4).any fun o => inS a o && !inS b o) := by
  rw [Bool.eq_iff_iff, hasS_iff, Bool.not_eq_true', ← Bool.not_eq_true, List.any_eq_true]
  constructor
  · rintro hh ⟨o, _, ho⟩
    rw [Bool.and_eq_true, Bool.not_eq_true'] at ho
    rw [hh o ho.1] at ho
    cases ho.2
  · intro hh i hi
    by_cases h4 : i < 4
    · cases hb : inS b i with
      | true => rfl
      | false => exact absurd ⟨i, by simpa using h4, by rw [hi, hb]; rfl⟩ hh
    · rw [small_bits h (by omega)] at hi
      cases hi
theorem c43 : ∀ args d, e43.2.2.1 args = true → e43.2.2.2 args = some d → CallOK Tryz.prog 43 args (mkRes Tryz.prog 4 d) :=
  ent2p k43 fun x y d hq h _ _ => by
    cases h
    rw [n3, n3]
    have hq : (decide (0 ≤ intD x) && decide (intD x ≤ 15)) = true := hq
    rw [Bool.and_eq_true, decide_eq_true_eq, decide_eq_true_eq] at hq
    refine fn_ok hm envQA k43 ((t43 5 (intD x) (intD y)).trans ?_)
    rw [m4]
    have := l_loop (fun n v => t43_lp2 Tryz.prog Tryz.f43 5 n (intD x) (intD y) v) 4 (fun o => inS (intD x) o && !inS (intD y) o) (some (dat 4 (.lit (.bool false)))) (some (dat 4 (.lit (.bool true))))
      (fun n i hi => part_step hi) (fun n => by rw [t43_lp2_step, dF (show ¬ (((4 : Nat) : Int) < 4) by omega), cond_false]) 5 0 (Nat.zero_le _) (by omega)
    refine this.trans ?_
    show _ = some (dat 4 (.lit (.bool (hasS (intD y) (intD x)))))
    rw [part_has hq]
    cases (List.range' 0 4).any fun o => inS (intD x) o && !inS (intD y) o <;> rfl
def e17 : FuncId × TypeId × (List AV → Bool) × (List AV → Option D) := (17, 4, yes, ent [41, 41] (f2 fun x y => some (.lit (.bool (samePB (elemsD x) (elemsD y))))))
theorem k17 : FnOK Tryz.prog 17 Tryz.f17 := ⟨Tryz.func17, rfl, by kernel_rfl⟩
theorem pair_test (x y : D) : ((intD (fieldD x 0) == intD (fieldD y 0)) && ((intD (fieldD x 1) == intD (fieldD y 1)) && true)) = (pairI x == pairI y) := by
  unfold pairI kk nn
  rw [Bool.and_true]
  rfl
theorem nPrs (x : D) : normD Tryz.prog 41 x = x := by kernel_rfl
theorem uPrs : Tryz.prog.underlying 41 = some (.slice 52) := by kernel_rfl
theorem c17 : ∀ args d, e17.2.2.2 args = some d → CallOK Tryz.prog 17 args (mkRes Tryz.prog 4 d) :=
  ent2 k17 fun x y d h ⟨_, hx⟩ ⟨_, hy⟩ => by
    cases h
    rw [nPrs, nPrs]
    obtain ⟨_, ts, rfl, hl, _⟩ := ty_slice hx uPrs
    obtain ⟨_, us, rfl, _, _⟩ := ty_slice hy uPrs
    refine fn_ok hm envQA k17 ((t17 (ts.length + 1) (.slice ts []) (.slice us [])).trans ?_)
    rw [m4, show elemsD (.slice ts [] : D) = ts from rfl, show elemsD (.slice us [] : D) = us from rfl]
    show _ = some (dat 4 (.lit (.bool (ts.map pairI == us.map pairI))))
    by_cases hle : ts.length = us.length
    · have := l_loop (fun n v => t17_lp4 Tryz.prog Tryz.f17 (ts.length + 1) n (.slice ts []) (.slice us []) v) ts.length (fun i => !(pairI (ts.getD i .nil) == pairI (us.getD i .nil))) (some (dat 4 (.lit (.bool false)))) (some (dat 4 (.lit (.bool true))))
        (fun n i hi => by
          rw [t17_lp4_step, show elemsD (.slice ts [] : D) = ts from rfl, show elemsD (.slice us [] : D) = us from rfl, l_idx hi, l_lt hi, l_idx (by omega : i < us.length), cond_true, cond_true, cond_true, l_wrap hl hi, Int.toNat_natCast, pair_test])
        (fun n => by rw [t17_lp4_step, show elemsD (.slice ts [] : D) = ts from rfl, l_ge (by omega), cond_false]) (ts.length + 1) 0 (Nat.zero_le _) (by omega)
      have this : t17_lp4 Tryz.prog Tryz.f17 (ts.length + 1) (ts.length + 1) (.slice ts []) (.slice us []) 0 = _ := this
      have h5 := l_any2 pairI ts us hle
      rw [l_nef hle, this, ← h5, Nat.sub_zero]
      cases (List.range' 0 ts.length).any _ <;> rfl
    · have : (ts.map pairI == us.map pairI) = false := by
        rw [beq_eq_false_iff_ne]
        intro hh
        exact hle (by simpa using congrArg List.length hh)
      rw [l_net hle, this]
      rfl
def R1 : Tab := e17 :: e43 :: e36 :: e35 :: e37 :: e94 :: QA
theorem envR1 : EnvOK Tryz.prog (envH R1 []) := envOK_cons (envOK_cons' (envOK_cons (envOK_cons (envOK_cons (envOK_cons envQA c94) c37) c35) c36) c43) c17
def e70 (K : Nat) : FuncId × TypeId × (List AV → Bool) × (List AV → Option D) := (70, 3, preD (q2 fun _ y => partsP K (intD y)), ent [35, 3] (f2 fun x y => some (.lit (.int .i64 (partsK K x (intD y))))))
def e71 (K : Nat) : FuncId × TypeId × (List AV → Bool) × (List AV → Option D) := (71, 4, preD (q1 fun x => deepK K x), ent [35] (f1 fun x => some (.lit (.bool (fineK K x)))))
def R1K (K : Nat) : Tab := e70 K :: e71 K :: R1

end X
end Go.Proofs.YtjgnknkbohlopaaGreat

namespace Go.Proofs.YtjgnknkbohlopaaGreat
namespace X
open Go.Ev
set_option linter.unusedVariables false
/- roadbook/roadbookref02.parts -/
def t70_h : Hints := fun i => if i = 5 then some ([0, 3, 4, 7, 8, 9, 10, 11, 12, 13, 14, 15, 16, 17, 18, 19, 20, 21, 22, 23, 24, 25, 26, 27, 28, 29, 30], [2], []) else none
def t70_lp5 (P : Program) (fn : Func) (K : Nat) (N n : Nat) (x0 : D) (x1 : Int) (v5 : Int) (v6 : Int) : Option AV := evLoop (preL t70_h (sub [1, 1, 1, 0, 1, 0, 0] (bodyOf fn))) (evCode P (envR (R1K K) [] [] []) t70_h N (sub [1, 1, 1, 0, 1, 0, 0] (bodyOf fn))) n ⟨[dead, dat 3 (.lit (.int .i64 x1)), bxp 2 35, dead, dead, dat 3 (.lit (.int .i64 v5)), dat 3 (.lit (.int .i64 v6)), dead, dead, dead, dead, dead, dead, dead, dead, dead, dead, dead, dead, dead, dead, dead, dead, dead, dead, dead, dead, dead, dead, dead, dead], lookB [(2, some ⟨35, x0, 0, none⟩)]⟩ (blockK 0 (seqC P (envR (R1K K) [] [] []) t70_h N (sub [1, 1, 1, 1] (bodyOf fn)) (finK P fn) ))
theorem t70_lp5_step (K : Nat) (N n : Nat) (x0 : D) (x1 : Int) (v5 : Int) (v6 : Int) : t70_lp5 Tryz.prog Tryz.f70 K N (n + 1) x0 x1 v5 v6 =
  bif ((decide (v6 < ((elemsD (fieldD x0 3)).length : Int))) == true) then
    bif decide (v5 < 31) then
      bif (decide (0 ≤ v6) && decide (v6 < ((elemsD (fieldD x0 3)).length : Int))) then
        bif partsP K (IntKind.wrap .i64 (x1 + 1)) then
          t70_lp5 Tryz.prog Tryz.f70 K N n x0 x1 (IntKind.wrap .i64 (v5 + (partsK K ((elemsD (fieldD x0 3)).getD (v6).toNat .nil) (IntKind.wrap .i64 (x1 + 1))))) (IntKind.wrap .i64 (v6 + 1))
        else none
      else none
    else some (dat 3 (.lit (.int .i64 v5)))
  else some (dat 3 (.lit (.int .i64 v5))) := by kernel_rfl
theorem t70 (K : Nat) (N : Nat) (x0 : D) (x1 : Int) : evFn Tryz.prog (envR (R1K K) [] [] []) t70_h N Tryz.f70 [dat 35 x0, dat 3 (.lit (.int .i64 x1))] =
  bif decide (x1 > 6) then
    some (dat 3 (.lit (.int .i64 100)))
  else t70_lp5 Tryz.prog Tryz.f70 K N N x0 x1 1 0 := by kernel_rfl

/- roadbook/roadbookref02.fine -/
def t71_h : Hints := fun i => if i = 6 then some ([0, 2, 3, 4, 6, 7, 8, 9, 10, 11, 12, 13, 14, 15, 16, 17, 18, 19, 20, 21, 22, 23, 24, 25, 26, 27, 28, 29, 30, 31, 32, 33, 34, 35, 36, 37, 38, 39, 40, 41, 42, 43, 44, 45, 46, 47, 48, 49, 50, 51, 52, 53, 54, 55, 56, 57, 58, 59, 60, 61, 62, 63, 64, 65, 66, 67, 68, 69, 70, 71, 72, 73, 74, 75, 76, 77], [1], []) else none
def t71_lp6 (P : Program) (fn : Func) (K : Nat) (N n : Nat) (x0 : D) (v5 : Int) : Option AV := evLoop (preL t71_h (sub [1, 1, 1, 1, 0, 1, 0, 0] (bodyOf fn))) (evCode P (envR (R1K K) [] [] []) t71_h N (sub [1, 1, 1, 1, 0, 1, 0, 0] (bodyOf fn))) n ⟨[dead, bxp 1 35, dead, dead, dead, dat 3 (.lit (.int .i64 v5)), dead, dead, dead, dead, dead, dead, dead, dead, dead, dead, dead, dead, dead, dead, dead, dead, dead, dead, dead, dead, dead, dead, dead, dead, dead, dead, dead, dead, dead, dead, dead, dead, dead, dead, dead, dead, dead, dead, dead, dead, dead, dead, dead, dead, dead, dead, dead, dead, dead, dead, dead, dead, dead, dead, dead, dead, dead, dead, dead, dead, dead, dead, dead, dead, dead, dead, dead, dead, dead, dead, dead, dead], lookB [(1, some ⟨35, x0, 0, none⟩)]⟩ (blockK 0 (seqC P (envR (R1K K) [] [] []) t71_h N (sub [1, 1, 1, 1, 1] (bodyOf fn)) (finK P fn) ))
theorem t71_lp6_step (K : Nat) (N n : Nat) (x0 : D) (v5 : Int) : t71_lp6 Tryz.prog Tryz.f71 K N (n + 1) x0 v5 =
  bif decide (v5 < ((elemsD (fieldD x0 3)).length : Int)) then
    bif (decide (0 ≤ v5) && decide (v5 < ((elemsD (fieldD x0 3)).length : Int))) then
      bif deepK K ((elemsD (fieldD x0 3)).getD (v5).toNat .nil) then
        bif (!(fineK K ((elemsD (fieldD x0 3)).getD (v5).toNat .nil))) then
          some (dat 4 (.lit (.bool false)))
        else t71_lp6 Tryz.prog Tryz.f71 K N n x0 (IntKind.wrap .i64 (v5 + 1))
      else none
    else none
  else some (dat 4 (.lit (.bool true))) := by kernel_rfl
theorem t71 (K : Nat) (N : Nat) (x0 : D) : evFn Tryz.prog (envR (R1K K) [] [] []) t71_h N Tryz.f71 [dat 35 x0] =
  bif ((decide ((intD (fieldD x0 0)) < 0)) == false) then
    bif ((decide ((intD (fieldD x0 0)) > 10)) == false) then
      bif ((!(takesN (intD (fieldD x0 0)) ((elemsD (fieldD x0 3)).length : Int))) == false) then
        bif ((!(mayB (fieldD x0 2))) == false) then
          bif ((decide ((intD (fieldD x0 1)) < 0)) == false) then
            bif ((decide ((intD (fieldD x0 1)) > 15)) == false) then
              bif (((intD (fieldD x0 0)) != 1) == true) then
                bif (((intD (fieldD x0 1)) != 0) == false) then
                  bif (((intD (fieldD x0 0)) != 0) == true) then
                    bif (!(((intD (fieldD (fieldD x0 2) 0)) == 0) && (((intD (fieldD (fieldD x0 2) 1)) == 0) && true))) then
                      some (dat 4 (.lit (.bool false)))
                    else t71_lp6 Tryz.prog Tryz.f71 K N N x0 0
                  else t71_lp6 Tryz.prog Tryz.f71 K N N x0 0
                else some (dat 4 (.lit (.bool false)))
              else bif (((intD (fieldD x0 0)) != 0) == true) then
                  bif (!(((intD (fieldD (fieldD x0 2) 0)) == 0) && (((intD (fieldD (fieldD x0 2) 1)) == 0) && true))) then
                    some (dat 4 (.lit (.bool false)))
                  else t71_lp6 Tryz.prog Tryz.f71 K N N x0 0
                else t71_lp6 Tryz.prog Tryz.f71 K N N x0 0
            else some (dat 4 (.lit (.bool false)))
          else some (dat 4 (.lit (.bool false)))
        else some (dat 4 (.lit (.bool false)))
      else some (dat 4 (.lit (.bool false)))
    else some (dat 4 (.lit (.bool false)))
  else some (dat 4 (.lit (.bool false))) := by kernel_rfl

end X
end Go.Proofs.YtjgnknkbohlopaaGreat

namespace Go.Proofs.YtjgnknkbohlopaaGreat
namespace X
open Go.Ev
set_option linter.unusedVariables false
set_option maxRecDepth 10000
set_option linter.unusedSimpArgs false

theorem k70 : FnOK Tryz.prog 70 Tryz.f70 := ⟨Tryz.func70, rfl, by kernel_rfl⟩
theorem k71 : FnOK Tryz.prog 71 Tryz.f71 := ⟨Tryz.func71, rfl, by kernel_rfl⟩
theorem parts_loop {K N : Nat} {e : D} {deep : Int} (hK : K ≤ 100) (hd : 1 ≤ deep ∧ deep ≤ 6) (hp : partsP K (deep + 1) = true) (hl : (elemsD (fieldD e 3)).length ≤ maxLen) : ∀ (n i : Nat) (v : Int), i ≤ (elemsD (fieldD e 3)).length → (elemsD (fieldD e 3)).length - i < n → 0 ≤ v → v ≤ 10000 →
    t70_lp5 Tryz.prog Tryz.f70 K N n e deep v (i : Int) = some (dat 3 (.lit (.int .i64 (partsL (fun p => partsK K p (deep + 1)) ((elemsD (fieldD e 3)).drop i) v))))
  | 0, i, v, _, h, _, _ => by omega
  | n + 1, i, v, hi, h, h0, hv => by
    rw [t70_lp5_step]
    by_cases hlt : i < (elemsD (fieldD e 3)).length
    · rw [l_idx hlt, l_lt hlt, beq_self_eq_true, cond_true, cond_true, l_wrapI (z := deep + 1) (l_in (by omega) (by omega)), hp, cond_true, Int.toNat_natCast, l_get hlt, l_wrap hl hlt, List.drop_eq_getElem_cons hlt]
      unfold partsL
      by_cases h31 : v < 31
      · have b1 := partsK_le K (elemsD (fieldD e 3))[i] (deep + 1)
        have b2 := partsK_pos K (elemsD (fieldD e 3))[i] (deep + 1)
        rw [dT h31, cond_true, cond_true, l_wrapI (l_in (by omega) (by omega)), parts_loop hK hd hp hl n (i + 1) _ (by omega) (by omega) (by omega) (by omega)]
      · rw [dF h31, cond_false, cond_false]
    · rw [l_ge hlt, show (false == true) = false from rfl, cond_false, List.drop_of_length_le (by omega)]
      rfl
theorem c70 (K : Nat) (hK : K ≤ 100) (henv : EnvOK Tryz.prog (envR (R1K K) [] [] [])) : ∀ args d, (e70 (K + 1)).2.2.1 args = true → (e70 (K + 1)).2.2.2 args = some d → CallOK Tryz.prog 70 args (mkRes Tryz.prog 3 d) :=
  ent2p k70 fun x y d hq h ⟨_, hx⟩ ⟨_, hy⟩ => by
    cases h
    rw [n26, n3]
    obtain ⟨z, rfl, _⟩ := ty3' hy
    obtain ⟨hl, _⟩ := ty_kids hx
    have hl : (elemsD (fieldD x 3)).length ≤ maxLen := hl
    have hq : partsP (K + 1) z = true := hq
    unfold partsP at hq
    simp only [Bool.and_eq_true, decide_eq_true_eq] at hq
    refine fn_ok hm henv k70 ((t70 K ((elemsD (fieldD x 3)).length + 1) x z).trans ?_)
    rw [m3]
    show _ = some (dat 3 (.lit (.int .i64 (partsK (K + 1) x z))))
    rw [partsK_succ]
    by_cases h6 : z > 6
    · rw [dT h6]; rfl
    · rw [dF h6, cond_false, cond_false]
      exact parts_loop hK (by omega) (by unfold partsP; simp only [Bool.and_eq_true, decide_eq_true_eq]; omega) hl _ 0 1 (Nat.zero_le _) (by omega) (by omega) (by omega)
theorem fine_loop {K N : Nat} {e : D} (hd : (elemsD (fieldD e 3)).all (deepK K) = true) (hl : (elemsD (fieldD e 3)).length ≤ maxLen) (n : Nat) (hn : (elemsD (fieldD e 3)).length < n) :
    t71_lp6 Tryz.prog Tryz.f71 K N n e 0 = some (dat 4 (.lit (.bool ((elemsD (fieldD e 3)).all (okK K))))) := by
  have := l_loop (fun n v => t71_lp6 Tryz.prog Tryz.f71 K N n e v) (elemsD (fieldD e 3)).length (fun i => !okK K ((elemsD (fieldD e 3)).getD i .nil)) (some (dat 4 (.lit (.bool false)))) (some (dat 4 (.lit (.bool true))))
    (fun n i hi => by
      have hdi : deepK K ((elemsD (fieldD e 3)).getD i .nil) = true := by
        rw [List.all_eq_true] at hd
        rw [l_get hi]
        exact hd _ (List.getElem_mem hi)
      rw [t71_lp6_step, l_idx hi, l_lt hi, cond_true, cond_true, Int.toNat_natCast, hdi, cond_true, l_wrap hl hi]
      rfl)
    (fun n => by rw [t71_lp6_step, l_ge (by omega), cond_false]) n 0 (Nat.zero_le _) (by omega)
  refine this.trans ?_
  rw [Nat.sub_zero, l_any0 (elemsD (fieldD e 3)) (fun o => !okK K o), any_not]
  cases (elemsD (fieldD e 3)).all (okK K) <;> rfl
theorem c71 (K : Nat) (henv : EnvOK Tryz.prog (envR (R1K K) [] [] [])) : ∀ args d, (e71 (K + 1)).2.2.1 args = true → (e71 (K + 1)).2.2.2 args = some d → CallOK Tryz.prog 71 args (mkRes Tryz.prog 4 d) :=
  ent1p k71 fun x d hq h ⟨_, hx⟩ => by
    cases h
    rw [n26]
    obtain ⟨hl, _⟩ := ty_kids hx
    have hl : (elemsD (fieldD x 3)).length ≤ maxLen := hl
    have hq : deepK (K + 1) x = true := hq
    rw [deepK_succ] at hq
    refine fn_ok hm henv k71 ((t71 K ((elemsD (fieldD x 3)).length + 1) x).trans ?_)
    rw [m4, fine_loop hq hl _ (by omega)]
    show _ = some (dat 4 (.lit (.bool (okK (K + 1) x))))
    rw [okK_succ]
    unfold fitsB opI colI kids kk nn
    rw [lt_not, gt_not, lt_not, gt_not]
    rw [show decide (intD (fieldD x 0) < 11) = decide (intD (fieldD x 0) ≤ 10) by rw [Bool.eq_iff_iff, decide_eq_true_eq, decide_eq_true_eq]; omega]
    rw [show (intD (fieldD x 0) != 1) = !(intD (fieldD x 0) == 1) from rfl, show (intD (fieldD x 1) != 0) = !(intD (fieldD x 1) == 0) from rfl, show (intD (fieldD x 0) != 0) = !(intD (fieldD x 0) == 0) from rfl]
    generalize (elemsD (fieldD x 3)).all (okK K) = w0
    generalize takesN (intD (fieldD x 0)) ((elemsD (fieldD x 3)).length : Int) = w1
    generalize mayB (fieldD x 2) = w2
    generalize decide (0 ≤ intD (fieldD x 0)) = w3
    generalize decide (intD (fieldD x 0) ≤ 10) = w4
    generalize decide (0 ≤ intD (fieldD x 1)) = w5
    generalize decide (intD (fieldD x 1) ≤ 15) = w6
    generalize (intD (fieldD x 0) == 1) = w7
    generalize (intD (fieldD x 1) == 0) = w8
    generalize (intD (fieldD x 0) == 0) = w9
    generalize (intD (fieldD (fieldD x 2) 0) == 0) = u1
    generalize (intD (fieldD (fieldD x 2) 1) == 0) = u2
    cases w3
    · rfl
    cases w4
    · rfl
    cases w5
    · cases w1 <;> cases w2 <;> rfl
    cases w6
    · cases w1 <;> cases w2 <;> rfl
    cases w1
    · cases w2 <;> cases w7 <;> cases w8 <;> cases w9 <;> cases u1 <;> cases u2 <;> rfl
    cases w2
    · rfl
    cases w7 <;> cases w8 <;> cases w9 <;> cases u1 <;> cases u2 <;> rfl
theorem envR1K : ∀ K : Nat, K ≤ 100 → EnvOK Tryz.prog (envR (R1K K) [] [] [])
  | 0, _ => envOK_cons' (envOK_cons' envR1 (fun args d hp hd => by
        exfalso
        unfold preD q1 at hp
        simp only at hp
        split at hp
        · cases hp
        · cases hp)) (fun args d hp hd => by
        exfalso
        unfold preD q2 at hp
        simp only at hp
        split at hp
        · unfold partsP at hp
          simp only [Bool.and_eq_true, decide_eq_true_eq] at hp
          omega
        · cases hp)
  | K + 1, h => envOK_cons' (envOK_cons' envR1 (c71 K (envR1K K (by omega)))) (c70 K (by omega) (envR1K K (by omega)))
def R2 : Tab := R1K 7
theorem envR2 : EnvOK Tryz.prog (envR R2 [] [] []) := envR1K 7 (by omega)

/-! ### It comes to what may be -/
theorem dOK_deep : ∀ (K : Nat) (e : D) (deep : Int), dOK K e deep = true → deepK K e = true
  | 0, e, deep, h => h
  | K + 1, e, deep, h => by
    rw [dOK_succ, Bool.and_eq_true, List.all_eq_true] at h
    rw [deepK_succ, List.all_eq_true]
    exact fun p hp => dOK_deep K p _ (h.2 p hp)
theorem parts_iff : ∀ (K : Nat) (e : D) (deep : Int), 8 - deep ≤ (K : Int) → deep ≤ 7 → ((partsK K e deep ≤ 30 ↔ (dOK K e deep = true ∧ szK K e ≤ 30)) ∧ (partsK K e deep ≤ 30 → partsK K e deep = szK K e))
  | 0, e, deep, h, h7 => by omega
  | K + 1, e, deep, h, h7 => by
    rw [partsK_succ, dOK_succ, szK_succ, Bool.and_eq_true, decide_eq_true_eq]
    by_cases h6 : deep > 6
    · rw [dT h6, cond_true]
      exact ⟨⟨fun hh => by omega, fun hh => by omega⟩, fun hh => by omega⟩
    · rw [dF h6, cond_false]
      have ih := fun p => parts_iff K p (deep + 1) (by omega) (by omega)
      have := partsL_eq (g := fun p => partsK K p (deep + 1)) (s := szK K) (o := fun p => dOK K p (deep + 1)) (szK_pos K) (fun p => partsK_pos K p (deep + 1)) (fun p => (ih p).1) (fun p => (ih p).2) (kids e) 1 (by omega) (by omega)
      obtain ⟨t1, t2⟩ := this
      rw [t1]
      refine ⟨⟨fun hh => ⟨⟨by omega, hh.1⟩, hh.2⟩, fun hh => ⟨hh.1.2, hh.2⟩⟩, fun hh => ?_⟩
      exact t2 (t1.2 hh)
theorem okD_iff : ∀ (K : Nat) (e : D) (deep : Int), okD K e deep = true ↔ (dOK K e deep = true ∧ okK K e = true)
  | 0, e, deep => by simp [okD, dOK]
  | K + 1, e, deep => by
    rw [okD_succ, dOK_succ, okK_succ]
    simp only [Bool.and_eq_true, List.all_eq_true]
    constructor
    · rintro ⟨⟨a, b⟩, c⟩
      exact ⟨⟨b, fun p hp => ((okD_iff K p _).1 (c p hp)).1⟩, a, fun p hp => ((okD_iff K p _).1 (c p hp)).2⟩
    · rintro ⟨⟨b, c⟩, a, d⟩
      exact ⟨⟨a, b⟩, fun p hp => (okD_iff K p _).2 ⟨c p hp, d p hp⟩⟩
theorem may_parts (e : D) : mayE e = (decide (partsK 7 e 1 ≤ 30) && okK 7 e) ∧ (partsK 7 e 1 ≤ 30 → deepK 7 e = true) := by
  obtain ⟨p1, p2⟩ := parts_iff 7 e 1 (by omega) (by omega)
  constructor
  · rw [Bool.eq_iff_iff, mayE_iff, okD_iff, Bool.and_eq_true, decide_eq_true_eq, p1]
    constructor
    · rintro ⟨⟨a, b⟩, c⟩; exact ⟨⟨a, c⟩, b⟩
    · rintro ⟨⟨a, c⟩, b⟩; exact ⟨⟨a, b⟩, c⟩
  · exact fun hh => dOK_deep 7 e 1 (p1.1 hh).1

end X
end Go.Proofs.YtjgnknkbohlopaaGreat
