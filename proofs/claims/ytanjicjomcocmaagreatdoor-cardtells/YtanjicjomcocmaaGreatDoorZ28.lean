/- Trees of functions, and lemmas. Nothing here is trusted. -/
import Derived.Test.YtanjicjomcocmaaGreatDoorZ27
import Derived.Test.YtanjicjomcocmaaGreatDoorZ23
namespace Go.Proofs.YtanjicjomcocmaaGreatDoor
section
namespace X
open Go.Ev
set_option linter.unusedVariables false
/- roadbook/roadbookref02.many -/
def t60_h : Hints := fun _ =>  none
theorem t60 (N : Nat) (x0 : Int) (x1 : Int) : evFn Tryz.prog (envR QA [] [] []) t60_h N Tryz.f60 [dat 3 (.lit (.int .i64 x0)), dat 3 (.lit (.int .i64 x1))] =
 bif (x0 == 0) then
  some (dat 4 (.lit (.bool (x1 == 0))))
 else bif (x0 == 1) then
   some (dat 4 (.lit (.bool (x1 == 0))))
  else bif (x0 == 10) then
    some (dat 4 (.lit (.bool (x1 == 1))))
   else bif (x0 == 8) then
     some (dat 4 (.lit (.bool (decide (x1 <= 4)))))
    else bif (x0 == 9) then
      some (dat 4 (.lit (.bool (decide (x1 <= 4)))))
     else some (dat 4 (.lit (.bool (x1 == 2)))) := by kernel_rfl

/- roadbook/roadbookref03.Place -/
def t35_h : Hints := fun i => if i = 2 then some ([2, 3, 4, 6, 7, 8, 9, 10, 11, 12, 13, 14, 15, 16, 17, 18], [], []) else none
def t35_lp2 (P : Program) (fn : Func) (N n : Nat) (x0 : D) (x1 : Int) (v5 : Int) : Option AV := evLoop (preL t35_h (sub [1, 0, 1, 0, 0] (bodyOf fn))) (evCode P (envR QA [] [] []) t35_h N (sub [1, 0, 1, 0, 0] (bodyOf fn))) n ⟨[dat 25 x0, dat 3 (.lit (.int .i64 x1)), dead, dead, dead, dat 3 (.lit (.int .i64 v5)), dead, dead, dead, dead, dead, dead, dead, dead, dead, dead, dead, dead, dead], lookB []⟩ (blockK 0 (seqC P (envR QA [] [] []) t35_h N (sub [1, 1] (bodyOf fn)) (finK P fn) ))
theorem t35_lp2_step (N n : Nat) (x0 : D) (x1 : Int) (v5 : Int) : t35_lp2 Tryz.prog Tryz.f35 N (n + 1) x0 x1 v5 =
 bif decide (v5 < ((elemsD x0).length : Int)) then
  bif (decide (0 <= v5) && decide (v5 < ((elemsD x0).length : Int))) then
   bif ((intD ((elemsD x0).getD (v5).toNat .nil)) == x1) then
    some (dat 3 (.lit (.int .i64 v5)))
   else t35_lp2 Tryz.prog Tryz.f35 N n x0 x1 (IntKind.wrap .i64 (v5 + 1))
  else none
 else some (dat 3 (.lit (.int .i64 (-1)))) := by kernel_rfl
theorem t35 (N : Nat) (x0 : D) (x1 : Int) : evFn Tryz.prog (envR QA [] [] []) t35_h N Tryz.f35 [dat 25 x0, dat 3 (.lit (.int .i64 x1))] =
 t35_lp2 Tryz.prog Tryz.f35 N N x0 x1 0 := by kernel_rfl

/- roadbook/roadbookref04.May -/
def t32_h : Hints := fun i => if i = 2 then some ([0, 2, 4, 5, 6, 7, 8, 9, 10, 11, 12, 13, 14, 15, 16, 17, 18, 19, 20, 21, 22, 23, 24, 25, 26, 27, 28, 29, 30, 31, 32, 33, 34, 35, 36, 37, 38, 39, 40, 41, 42, 43, 44, 45, 46, 47, 48, 49, 50, 51, 52, 53, 54], [1], []) else none
def t32_lp2 (P : Program) (fn : Func) (N n : Nat) (x0 : D) (v3 : Int) : Option AV := evLoop (preL t32_h (sub [1, 0, 1, 0, 0] (bodyOf fn))) (evCode P (envR QA [] [] []) t32_h N (sub [1, 0, 1, 0, 0] (bodyOf fn))) n ⟨[dead, bxp 1 24, dead, dat 3 (.lit (.int .i64 v3)), dead, dead, dead, dead, dead, dead, dead, dead, dead, dead, dead, dead, dead, dead, dead, dead, dead, dead, dead, dead, dead, dead, dead, dead, dead, dead, dead, dead, dead, dead, dead, dead, dead, dead, dead, dead, dead, dead, dead, dead, dead, dead, dead, dead, dead, dead, dead, dead, dead, dead, dead], lookB [(1, some ⟨24, x0, 0, none⟩)]⟩ (blockK 0 (seqC P (envR QA [] [] []) t32_h N (sub [1, 1] (bodyOf fn)) (finK P fn) ))
theorem t32_lp2_step (N n : Nat) (x0 : D) (v3 : Int) : t32_lp2 Tryz.prog Tryz.f32 N (n + 1) x0 v3 =
 bif decide (v3 < ((elemsD (fieldD x0 0)).length : Int)) then
  bif (decide (0 <= v3) && decide (v3 < ((elemsD (fieldD x0 0)).length : Int))) then
   bif ((decide ((intD (fieldD ((elemsD (fieldD x0 0)).getD (v3).toNat .nil) 0)) < 1)) == false) then
    bif (decide (0 <= v3) && decide (v3 < ((elemsD (fieldD x0 0)).length : Int))) then
     bif ((decide ((intD (fieldD ((elemsD (fieldD x0 0)).getD (v3).toNat .nil) 0)) > 4)) == false) then
      bif (decide (0 <= v3) && decide (v3 < ((elemsD (fieldD x0 0)).length : Int))) then
       bif ((decide ((intD (fieldD ((elemsD (fieldD x0 0)).getD (v3).toNat .nil) 1)) < 1)) == false) then
        bif (decide (0 <= v3) && decide (v3 < ((elemsD (fieldD x0 0)).length : Int))) then
         bif decide ((intD (fieldD ((elemsD (fieldD x0 0)).getD (v3).toNat .nil) 1)) > 1000000) then
          some (dat 4 (.lit (.bool false)))
         else t32_lp2 Tryz.prog Tryz.f32 N n x0 (IntKind.wrap .i64 (v3 + 1))
        else none
       else some (dat 4 (.lit (.bool false)))
      else none
     else some (dat 4 (.lit (.bool false)))
    else none
   else some (dat 4 (.lit (.bool false)))
  else none
 else bif ((decide (((elemsD (fieldD x0 0)).length : Int) >= 1)) == true) then
   some (dat 4 (.lit (.bool (decide (((elemsD (fieldD x0 0)).length : Int) <= 4)))))
  else some (dat 4 (.lit (.bool false))) := by kernel_rfl
theorem t32 (N : Nat) (x0 : D) : evFn Tryz.prog (envR QA [] [] []) t32_h N Tryz.f32 [dat 24 x0] =
 t32_lp2 Tryz.prog Tryz.f32 N N x0 0 := by kernel_rfl

/- roadbook/roadbookref05.column -/
def t34_h : Hints := fun _ =>  none
theorem t34 (N : Nat) (x0 : D) (x1 : D) (x2 : Int) : evFn Tryz.prog (envR QA [] [] []) t34_h N Tryz.f34 [dat 24 x0, dat 28 x1, dat 3 (.lit (.int .i64 x2))] =
 bif ((decide (x2 < 0)) == false) then
  bif ((decide (x2 > 15)) == false) then
   bif decide ((IntKind.wrap .i64 (Int.tdiv x2 4)) >= ((elemsD (fieldD x1 0)).length : Int)) then
    some (dat 4 (.lit (.bool false)))
   else bif (decide (0 <= (IntKind.wrap .i64 (Int.tdiv x2 4))) && decide ((IntKind.wrap .i64 (Int.tdiv x2 4)) < ((elemsD (fieldD x1 0)).length : Int))) then
     bif ((decide ((intD ((elemsD (fieldD x1 0)).getD (IntKind.wrap .i64 (Int.tdiv x2 4)).toNat .nil)) >= 0)) == true) then
      bif ((decide ((intD ((elemsD (fieldD x1 0)).getD (IntKind.wrap .i64 (Int.tdiv x2 4)).toNat .nil)) < ((elemsD (fieldD x0 0)).length : Int))) == true) then
       bif (decide (0 <= (intD ((elemsD (fieldD x1 0)).getD (IntKind.wrap .i64 (Int.tdiv x2 4)).toNat .nil))) && decide ((intD ((elemsD (fieldD x1 0)).getD (IntKind.wrap .i64 (Int.tdiv x2 4)).toNat .nil)) < ((elemsD (fieldD x0 0)).length : Int))) then
        some (dat 4 (.lit (.bool (decide ((Int.tmod x2 4) < (intD (fieldD ((elemsD (fieldD x0 0)).getD (intD ((elemsD (fieldD x1 0)).getD (IntKind.wrap .i64 (Int.tdiv x2 4)).toNat .nil)).toNat .nil) 0)))))))
       else none
      else some (dat 4 (.lit (.bool false)))
     else some (dat 4 (.lit (.bool false)))
    else none
  else some (dat 4 (.lit (.bool false)))
 else some (dat 4 (.lit (.bool false))) := by kernel_rfl

/- roadbook/roadbookref05.part -/
def t36_h : Hints := fun i => if i = 2 then some ([2, 3, 4, 6, 7, 8, 9, 10, 11, 12, 13, 14, 15, 16, 17, 18, 19, 20, 21, 22], [], []) else none
def t36_lp2 (P : Program) (fn : Func) (N n : Nat) (x0 : Int) (x1 : Int) (v5 : Int) : Option AV := evLoop (preL t36_h (sub [1, 0, 1, 0, 0] (bodyOf fn))) (evCode P (envR QA [] [] []) t36_h N (sub [1, 0, 1, 0, 0] (bodyOf fn))) n ⟨[dat 3 (.lit (.int .i64 x0)), dat 3 (.lit (.int .i64 x1)), dead, dead, dead, dat 3 (.lit (.int .i64 v5)), dead, dead, dead, dead, dead, dead, dead, dead, dead, dead, dead, dead, dead, dead, dead, dead, dead], lookB []⟩ (blockK 0 (seqC P (envR QA [] [] []) t36_h N (sub [1, 1] (bodyOf fn)) (finK P fn) ))
theorem t36_lp2_step (N n : Nat) (x0 : Int) (x1 : Int) (v5 : Int) : t36_lp2 Tryz.prog Tryz.f36 N (n + 1) x0 x1 v5 =
 bif decide (v5 < 4) then
  bif ((bitB x0 v5) == true) then
   bif (!(bitB x1 v5)) then
    some (dat 4 (.lit (.bool false)))
   else t36_lp2 Tryz.prog Tryz.f36 N n x0 x1 (IntKind.wrap .i64 (v5 + 1))
  else t36_lp2 Tryz.prog Tryz.f36 N n x0 x1 (IntKind.wrap .i64 (v5 + 1))
 else some (dat 4 (.lit (.bool true))) := by kernel_rfl
theorem t36 (N : Nat) (x0 : Int) (x1 : Int) : evFn Tryz.prog (envR QA [] [] []) t36_h N Tryz.f36 [dat 3 (.lit (.int .i64 x0)), dat 3 (.lit (.int .i64 x1))] =
 t36_lp2 Tryz.prog Tryz.f36 N N x0 x1 0 := by kernel_rfl

end X
end
section
namespace X
open Go.Ev
set_option linter.unusedVariables false
set_option maxRecDepth 10000
set_option linter.unusedSimpArgs false

def e60 : FuncId × TypeId × (List AV -> Bool) × (List AV -> Option D) := (60, 4, yes, ent [3, 3] (f2 fun x y => some (.lit (.bool (takesN (intD x) (intD y))))))
theorem k60 : FnOK Tryz.prog 60 Tryz.f60 := ⟨Tryz.func60, rfl, by kernel_rfl⟩
theorem c60 : ∀ args d, e60.2.2.2 args = some d -> CallOK Tryz.prog 60 args (mkRes Tryz.prog 4 d) :=
 ent2 k60 fun x y d h _ _ => by
  cases h
  rw [n3, n3]
  refine fn_ok hm envQA k60 ((t60 1 (intD x) (intD y)).trans ?_)
  rw [m4]
  show _ = some (dat 4 (.lit (.bool (takesN (intD x) (intD y)))))
  generalize intD x = a
  generalize intD y = b
  by_cases h0 : a = 0
  ·subst h0; rfl
  by_cases h1 : a = 1
  ·subst h1; rfl
  by_cases h2 : a = 10
  ·subst h2; rfl
  by_cases h3 : a = 8
  ·subst h3; rfl
  by_cases h4 : a = 9
  ·subst h4; rfl
  unfold takesN
  rw [beq_eq_false_iff_ne.2 h0, beq_eq_false_iff_ne.2 h1, beq_eq_false_iff_ne.2 h2, beq_eq_false_iff_ne.2 h3, beq_eq_false_iff_ne.2 h4]
  rfl
theorem place_loop {N : Nat} {x0 : D} {x1 : Int} (hl : (elemsD x0).length <= maxLen) : ∀ (n i : Nat), i <= (elemsD x0).length -> (elemsD x0).length - i < n ->
  t35_lp2 Tryz.prog Tryz.f35 N n x0 x1 (i : Int) = some (dat 3 (.lit (.int .i64 (Lib.idxFrom (((elemsD x0).drop i).map intD) x1 i))))
 | 0, i, _, h => by omega
 | n + 1, i, hi, h => by
  rw [t35_lp2_step]
  by_cases hlt : i < (elemsD x0).length
  ·rw [l_idx hlt, l_lt hlt, cond_true, cond_true, List.drop_eq_getElem_cons hlt, List.map_cons, Int.toNat_natCast, l_get hlt, Lib.idxFrom, l_wrap hl hlt, place_loop hl n (i + 1) (by omega) (by omega)]
   by_cases he : intD (elemsD x0)[i] = x1
   ·have : (intD (elemsD x0)[i] == x1) = true := by simp [he]
    rw [this, cond_true, if_pos he]
   ·have : (intD (elemsD x0)[i] == x1) = false := by rw [beq_eq_false_iff_ne]; exact he
    rw [this, cond_false, if_neg he]
  ·rw [l_ge hlt, cond_false, List.drop_of_length_le (by omega)]
   rfl
def e35 : FuncId × TypeId × (List AV -> Bool) × (List AV -> Option D) := (35, 3, yes, ent [25, 3] (f2 fun x y => some (.lit (.int .i64 (Lib.idxOf ((elemsD x).map intD) (intD y))))))
theorem k35 : FnOK Tryz.prog 35 Tryz.f35 := ⟨Tryz.func35, rfl, by kernel_rfl⟩
theorem c35 : ∀ args d, e35.2.2.2 args = some d -> CallOK Tryz.prog 35 args (mkRes Tryz.prog 3 d) :=
 ent2 k35 fun x y d h ⟨_, hx⟩ _ => by
  cases h
  rw [n27, n3]
  refine fn_ok hm envQA k35 ((t35 ((elemsD x).length + 1) x (intD y)).trans ?_)
  rw [m3]
  exact place_loop (N := (elemsD x).length + 1) (x1 := intD y) (len27 hx) ((elemsD x).length + 1) 0 (Nat.zero_le _) (by omega)

def e32 : FuncId × TypeId × (List AV -> Bool) × (List AV -> Option D) := (32, 4, yes, ent [24] (f1 fun x => some (.lit (.bool (mayCat x)))))
theorem k32 : FnOK Tryz.prog 32 Tryz.f32 := ⟨Tryz.func32, rfl, by kernel_rfl⟩
theorem c32 : ∀ args d, e32.2.2.2 args = some d -> CallOK Tryz.prog 32 args (mkRes Tryz.prog 4 d) :=
 ent1 k32 fun x d h ⟨_, hx⟩ => by
  cases h
  rw [nCat]
  obtain ⟨ts, rfl, hl, _⟩ := tyCat hx
  refine fn_ok hm envQA k32 ((t32 (ts.length + 1) (catD ts)).trans ?_)
  rw [m4]
  have := l_loop (fun n v => t32_lp2 Tryz.prog Tryz.f32 (ts.length + 1) n (catD ts) v) ts.length (fun i => !mayDef (ts.getD i .nil)) (some (dat 4 (.lit (.bool false))))
   (some (dat 4 (.lit (.bool (decide (1 <= ts.length) && decide (ts.length <= 4))))))
   (fun n i hi => by
    rw [t32_lp2_step, tabs_cat, l_idx hi, l_lt hi, Int.toNat_natCast]
    simp only [cond_true]
    rw [mayDef_tree, l_wrap hl hi])
   (fun n => by
    rw [t32_lp2_step, tabs_cat, l_ge (by omega), cond_false]
    by_cases h1 : 1 <= ts.length
    ·rw [dT (show ((ts.length : Int)) >= 1 by omega), dT h1]
     by_cases h4 : ts.length <= 4
     ·rw [dT (show ((ts.length : Int)) <= 4 by omega), dT h4]; rfl
     ·rw [dF (show ¬ ((ts.length : Int)) <= 4 by omega), dF h4]; rfl
    ·rw [dF (show ¬ ((ts.length : Int)) >= 1 by omega), dF h1]; rfl) (ts.length + 1) 0 (Nat.zero_le _) (by omega)
  refine this.trans ?_
  rw [Nat.sub_zero, l_any0 ts (fun t => !mayDef t), any_may]
  show _ = some (dat 4 (.lit (.bool ((decide (1 <= ts.length) && decide (ts.length <= 4)) && ts.all mayDef))))
  cases (decide (1 <= ts.length) && decide (ts.length <= 4)) <;> cases ts.all mayDef <;> rfl

def e34 : FuncId × TypeId × (List AV -> Bool) × (List AV -> Option D) := (34, 4, yes, ent [24, 28, 3] (f3 fun x y z => some (.lit (.bool (colRB x y (intD z))))))
theorem k34 : FnOK Tryz.prog 34 Tryz.f34 := ⟨Tryz.func34, rfl, by kernel_rfl⟩
theorem c34 : ∀ args d, e34.2.2.2 args = some d -> CallOK Tryz.prog 34 args (mkRes Tryz.prog 4 d) :=
 ent3 k34 fun x y z d h _ _ _ => by
  cases h
  rw [nCat, nQry, n3]
  refine fn_ok hm envQA k34 ((t34 1 x y (intD z)).trans ?_)
  rw [m4]
  show _ = some (dat 4 (.lit (.bool (colRB x y (intD z)))))
  generalize intD z = v
  unfold colRB
  by_cases h0 : v < 0
  ·rw [dT h0, below_not.2 (by omega)]; rfl
  by_cases h1 : v > 15
  ·rw [dF h0, dT h1, below_not.2 (by omega)]; rfl
  have h16 : 0 <= v /\ v < 16 := by omega
  rw [dF h0, dF h1, below_iff.2 h16, wrap_div h16, ge_not]
  by_cases h2 : v / 4 < ((qOcc y).length : Int)
  ·have h2' : ¬ (((elemsD (fieldD y 0)).length : Int) <= v / 4) := fun hh => absurd h2 (by unfold qOcc; omega)
   have h3 : v / 4 < ((elemsD (fieldD y 0)).length : Int) := h2
   rw [dF h2', dT h2, dT (show 0 <= v / 4 by omega), dT h3, Int.tmod_eq_emod_of_nonneg h16.1]
   unfold belowB tabC defC qOcc tabs
   rw [ge_not]
   cases decide (0 <= intD ((elemsD (fieldD y 0)).getD (v / 4).toNat .nil)) <;> cases decide (intD ((elemsD (fieldD y 0)).getD (v / 4).toNat .nil) < ((elemsD (fieldD x 0)).length : Int)) <;> rfl
  ·have h2' : ((elemsD (fieldD y 0)).length : Int) <= v / 4 := by unfold qOcc at h2; omega
   rw [dT h2', dF h2]
   rfl
def e36 : FuncId × TypeId × (List AV -> Bool) × (List AV -> Option D) := (36, 4, preD (q2 fun x _ => decide (0 <= intD x) && decide (intD x <= 15)), ent [3, 3] (f2 fun x y => some (.lit (.bool (hasS (intD y) (intD x))))))
theorem k36 : FnOK Tryz.prog 36 Tryz.f36 := ⟨Tryz.func36, rfl, by kernel_rfl⟩
theorem part_step {N n : Nat} {a b : Int} {o : Nat} (ho : o < 4) : t36_lp2 Tryz.prog Tryz.f36 N (n + 1) a b (o : Int) = bif inS a o && !inS b o then some (dat 4 (.lit (.bool false))) else t36_lp2 Tryz.prog Tryz.f36 N n a b ((o + 1 : Nat) : Int) := by
 rw [t36_lp2_step, dT (show (o : Int) < 4 by omega), cond_true, bit_any (show 0 <= (o : Int) /\ (o : Int) < 64 by omega), bit_any (show 0 <= (o : Int) /\ (o : Int) < 64 by omega), Int.toNat_natCast, l_wrapI (l_in (by omega) (by omega)), show ((o : Int) + 1) = ((o + 1 : Nat) : Int) from rfl]
 generalize t36_lp2 Tryz.prog Tryz.f36 N n a b ((o + 1 : Nat) : Int) = W
 cases inS a o <;> cases inS b o <;> rfl
theorem small_bits {a : Int} (h : 0 <= a /\ a <= 15) {i : Nat} (hi : 4 <= i) : inS a i = false := by
 by_cases h64 : i < 64
 ·rw [inS_div _ _ h64, decide_eq_false_iff_not]
  have hp : (16 : Int) <= 2 ^ i := by
   have h2 : 2 ^ 4 <= 2 ^ i := Nat.pow_le_pow_right (by decide) hi
   have h3 : ((2 ^ 4 : Nat) : Int) <= ((2 ^ i : Nat) : Int) := Int.ofNat_le.2 h2
   rw [Int.natCast_pow, Int.natCast_pow] at h3
   exact h3
  rw [Int.ediv_eq_zero_of_lt h.1 (by omega)]
  decide
 ·exact BitVec.getLsbD_of_ge _ _ (by omega)
theorem part_has {a b : Int} (h : 0 <= a /\ a <= 15) : hasS b a = !((List.range' 0 4).any fun o => inS a o && !inS b o) := by
 rw [Bool.eq_iff_iff, hasS_iff, Bool.not_eq_true', <- Bool.not_eq_true, List.any_eq_true]
 constructor
 ·rintro hh ⟨o, _, ho⟩
  rw [Bool.and_eq_true, Bool.not_eq_true'] at ho
  rw [hh o ho.1] at ho
  cases ho.2
 ·intro hh i hi
  by_cases h4 : i < 4
  ·cases hb : inS b i with
   | true => rfl
   | false => exact absurd ⟨i, by simpa using h4, by rw [hi, hb]; rfl⟩ hh
  ·rw [small_bits h (by omega)] at hi
   cases hi
theorem c36 : ∀ args d, e36.2.2.1 args = true -> e36.2.2.2 args = some d -> CallOK Tryz.prog 36 args (mkRes Tryz.prog 4 d) :=
 ent2p k36 fun x y d hq h _ _ => by
  cases h
  rw [n3, n3]
  have hq : (decide (0 <= intD x) && decide (intD x <= 15)) = true := hq
  rw [Bool.and_eq_true, decide_eq_true_eq, decide_eq_true_eq] at hq
  refine fn_ok hm envQA k36 ((t36 5 (intD x) (intD y)).trans ?_)
  rw [m4]
  have := l_loop (fun n v => t36_lp2 Tryz.prog Tryz.f36 5 n (intD x) (intD y) v) 4 (fun o => inS (intD x) o && !inS (intD y) o) (some (dat 4 (.lit (.bool false)))) (some (dat 4 (.lit (.bool true))))
   (fun n i hi => part_step hi) (fun n => by rw [t36_lp2_step, dF (show ¬ (((4 : Nat) : Int) < 4) by omega), cond_false]) 5 0 (Nat.zero_le _) (by omega)
  refine this.trans ?_
  show _ = some (dat 4 (.lit (.bool (hasS (intD y) (intD x)))))
  rw [part_has hq]
  cases (List.range' 0 4).any fun o => inS (intD x) o && !inS (intD y) o <;> rfl
theorem pair_test (x y : D) : ((intD (fieldD x 0) == intD (fieldD y 0)) && ((intD (fieldD x 1) == intD (fieldD y 1)) && true)) = (pairI x == pairI y) := by
 unfold pairI kk nn
 rw [Bool.and_true]
 rfl
def R1 : Tab := e36 :: e34 :: e32 :: e35 :: e60 :: QA
theorem envR1 : EnvOK Tryz.prog (envH R1 []) := envOK_cons' (envOK_cons (envOK_cons (envOK_cons (envOK_cons envQA c60) c35) c32) c34) c36
def e50 (K : Nat) : FuncId × TypeId × (List AV -> Bool) × (List AV -> Option D) := (50, 3, preD (q2 fun _ y => partsP K (intD y)), ent [42, 3] (f2 fun x y => some (.lit (.int .i64 (partsK K x (intD y))))))
def e51 (K : Nat) : FuncId × TypeId × (List AV -> Bool) × (List AV -> Option D) := (51, 4, preD (q1 fun x => deepK K x), ent [42] (f1 fun x => some (.lit (.bool (fineK K x)))))
def R1K (K : Nat) : Tab := e50 K :: e51 K :: R1

end X
end
section
namespace X
open Go.Ev
set_option linter.unusedVariables false
/- roadbook/roadbookref02.parts -/
def t50_h : Hints := fun i => if i = 5 then some ([0, 3, 4, 7, 8, 9, 10, 11, 12, 13, 14, 15, 16, 17, 18, 19, 20, 21, 22, 23, 24, 25, 26, 27, 28, 29, 30], [2], []) else none
def t50_lp5 (P : Program) (fn : Func) (K : Nat) (N n : Nat) (x0 : D) (x1 : Int) (v5 : Int) (v6 : Int) : Option AV := evLoop (preL t50_h (sub [1, 1, 1, 0, 1, 0, 0] (bodyOf fn))) (evCode P (envR (R1K K) [] [] []) t50_h N (sub [1, 1, 1, 0, 1, 0, 0] (bodyOf fn))) n ⟨[dead, dat 3 (.lit (.int .i64 x1)), bxp 2 42, dead, dead, dat 3 (.lit (.int .i64 v5)), dat 3 (.lit (.int .i64 v6)), dead, dead, dead, dead, dead, dead, dead, dead, dead, dead, dead, dead, dead, dead, dead, dead, dead, dead, dead, dead, dead, dead, dead, dead], lookB [(2, some ⟨42, x0, 0, none⟩)]⟩ (blockK 0 (seqC P (envR (R1K K) [] [] []) t50_h N (sub [1, 1, 1, 1] (bodyOf fn)) (finK P fn) ))
theorem t50_lp5_step (K : Nat) (N n : Nat) (x0 : D) (x1 : Int) (v5 : Int) (v6 : Int) : t50_lp5 Tryz.prog Tryz.f50 K N (n + 1) x0 x1 v5 v6 =
 bif ((decide (v6 < ((elemsD (fieldD x0 3)).length : Int))) == true) then
  bif decide (v5 < 31) then
   bif (decide (0 <= v6) && decide (v6 < ((elemsD (fieldD x0 3)).length : Int))) then
    bif partsP K (IntKind.wrap .i64 (x1 + 1)) then
     t50_lp5 Tryz.prog Tryz.f50 K N n x0 x1 (IntKind.wrap .i64 (v5 + (partsK K ((elemsD (fieldD x0 3)).getD (v6).toNat .nil) (IntKind.wrap .i64 (x1 + 1))))) (IntKind.wrap .i64 (v6 + 1))
    else none
   else none
  else some (dat 3 (.lit (.int .i64 v5)))
 else some (dat 3 (.lit (.int .i64 v5))) := by kernel_rfl
theorem t50 (K : Nat) (N : Nat) (x0 : D) (x1 : Int) : evFn Tryz.prog (envR (R1K K) [] [] []) t50_h N Tryz.f50 [dat 42 x0, dat 3 (.lit (.int .i64 x1))] =
 bif decide (x1 > 6) then
  some (dat 3 (.lit (.int .i64 100)))
 else t50_lp5 Tryz.prog Tryz.f50 K N N x0 x1 1 0 := by kernel_rfl

/- roadbook/roadbookref02.fine -/
def t51_h : Hints := fun i => if i = 6 then some ([0, 2, 3, 4, 6, 7, 8, 9, 10, 11, 12, 13, 14, 15, 16, 17, 18, 19, 20, 21, 22, 23, 24, 25, 26, 27, 28, 29, 30, 31, 32, 33, 34, 35, 36, 37, 38, 39, 40, 41, 42, 43, 44, 45, 46, 47, 48, 49, 50, 51, 52, 53, 54, 55, 56, 57, 58, 59, 60, 61, 62, 63, 64, 65, 66, 67, 68, 69, 70, 71, 72, 73, 74, 75, 76, 77], [1], []) else none
def t51_lp6 (P : Program) (fn : Func) (K : Nat) (N n : Nat) (x0 : D) (v5 : Int) : Option AV := evLoop (preL t51_h (sub [1, 1, 1, 1, 0, 1, 0, 0] (bodyOf fn))) (evCode P (envR (R1K K) [] [] []) t51_h N (sub [1, 1, 1, 1, 0, 1, 0, 0] (bodyOf fn))) n ⟨[dead, bxp 1 42, dead, dead, dead, dat 3 (.lit (.int .i64 v5)), dead, dead, dead, dead, dead, dead, dead, dead, dead, dead, dead, dead, dead, dead, dead, dead, dead, dead, dead, dead, dead, dead, dead, dead, dead, dead, dead, dead, dead, dead, dead, dead, dead, dead, dead, dead, dead, dead, dead, dead, dead, dead, dead, dead, dead, dead, dead, dead, dead, dead, dead, dead, dead, dead, dead, dead, dead, dead, dead, dead, dead, dead, dead, dead, dead, dead, dead, dead, dead, dead, dead, dead], lookB [(1, some ⟨42, x0, 0, none⟩)]⟩ (blockK 0 (seqC P (envR (R1K K) [] [] []) t51_h N (sub [1, 1, 1, 1, 1] (bodyOf fn)) (finK P fn) ))
theorem t51_lp6_step (K : Nat) (N n : Nat) (x0 : D) (v5 : Int) : t51_lp6 Tryz.prog Tryz.f51 K N (n + 1) x0 v5 =
 bif decide (v5 < ((elemsD (fieldD x0 3)).length : Int)) then
  bif (decide (0 <= v5) && decide (v5 < ((elemsD (fieldD x0 3)).length : Int))) then
   bif deepK K ((elemsD (fieldD x0 3)).getD (v5).toNat .nil) then
    bif (!(fineK K ((elemsD (fieldD x0 3)).getD (v5).toNat .nil))) then
     some (dat 4 (.lit (.bool false)))
    else t51_lp6 Tryz.prog Tryz.f51 K N n x0 (IntKind.wrap .i64 (v5 + 1))
   else none
  else none
 else some (dat 4 (.lit (.bool true))) := by kernel_rfl
theorem t51 (K : Nat) (N : Nat) (x0 : D) : evFn Tryz.prog (envR (R1K K) [] [] []) t51_h N Tryz.f51 [dat 42 x0] =
 bif ((decide ((intD (fieldD x0 0)) < 0)) == false) then
  bif ((decide ((intD (fieldD x0 0)) > 10)) == false) then
   bif ((!(takesN (intD (fieldD x0 0)) ((elemsD (fieldD x0 3)).length : Int))) == false) then
    bif ((!(mayB (fieldD x0 2))) == false) then
     bif ((decide ((intD (fieldD x0 1)) < 0)) == false) then
      bif ((decide ((intD (fieldD x0 1)) > 15)) == false) then
       bif (((intD (fieldD x0 0)) != 1) == true) then
        bif (((intD (fieldD x0 1)) != 0) == false) then
         bif (((intD (fieldD x0 0)) != 0) == true) then
          bif (!(((intD (fieldD (fieldD x0 2) 0)) == 0) && (((intD (fieldD (fieldD x0 2) 1)) == 0) && true))) then
           some (dat 4 (.lit (.bool false)))
          else t51_lp6 Tryz.prog Tryz.f51 K N N x0 0
         else t51_lp6 Tryz.prog Tryz.f51 K N N x0 0
        else some (dat 4 (.lit (.bool false)))
       else bif (((intD (fieldD x0 0)) != 0) == true) then
         bif (!(((intD (fieldD (fieldD x0 2) 0)) == 0) && (((intD (fieldD (fieldD x0 2) 1)) == 0) && true))) then
          some (dat 4 (.lit (.bool false)))
         else t51_lp6 Tryz.prog Tryz.f51 K N N x0 0
        else t51_lp6 Tryz.prog Tryz.f51 K N N x0 0
      else some (dat 4 (.lit (.bool false)))
     else some (dat 4 (.lit (.bool false)))
    else some (dat 4 (.lit (.bool false)))
   else some (dat 4 (.lit (.bool false)))
  else some (dat 4 (.lit (.bool false)))
 else some (dat 4 (.lit (.bool false))) := by kernel_rfl

end X
end
section
namespace X
open Go.Ev
set_option linter.unusedVariables false
set_option maxRecDepth 10000
set_option linter.unusedSimpArgs false

theorem k50 : FnOK Tryz.prog 50 Tryz.f50 := ⟨Tryz.func50, rfl, by kernel_rfl⟩
theorem k51 : FnOK Tryz.prog 51 Tryz.f51 := ⟨Tryz.func51, rfl, by kernel_rfl⟩
theorem parts_loop {K N : Nat} {e : D} {deep : Int} (hK : K <= 100) (hd : 1 <= deep /\ deep <= 6) (hp : partsP K (deep + 1) = true) (hl : (elemsD (fieldD e 3)).length <= maxLen) : ∀ (n i : Nat) (v : Int), i <= (elemsD (fieldD e 3)).length -> (elemsD (fieldD e 3)).length - i < n -> 0 <= v -> v <= 10000 ->
  t50_lp5 Tryz.prog Tryz.f50 K N n e deep v (i : Int) = some (dat 3 (.lit (.int .i64 (partsL (fun p => partsK K p (deep + 1)) ((elemsD (fieldD e 3)).drop i) v))))
 | 0, i, v, _, h, _, _ => by omega
 | n + 1, i, v, hi, h, h0, hv => by
  rw [t50_lp5_step]
  by_cases hlt : i < (elemsD (fieldD e 3)).length
  ·rw [l_idx hlt, l_lt hlt, beq_self_eq_true, cond_true, cond_true, l_wrapI (z := deep + 1) (l_in (by omega) (by omega)), hp, cond_true, Int.toNat_natCast, l_get hlt, l_wrap hl hlt, List.drop_eq_getElem_cons hlt]
   unfold partsL
   by_cases h31 : v < 31
   ·have b1 := partsK_le K (elemsD (fieldD e 3))[i] (deep + 1)
    have b2 := partsK_pos K (elemsD (fieldD e 3))[i] (deep + 1)
    rw [dT h31, cond_true, cond_true, l_wrapI (l_in (by omega) (by omega)), parts_loop hK hd hp hl n (i + 1) _ (by omega) (by omega) (by omega) (by omega)]
   ·rw [dF h31, cond_false, cond_false]
  ·rw [l_ge hlt, show (false == true) = false from rfl, cond_false, List.drop_of_length_le (by omega)]
   rfl
theorem c50 (K : Nat) (hK : K <= 100) (henv : EnvOK Tryz.prog (envR (R1K K) [] [] [])) : ∀ args d, (e50 (K + 1)).2.2.1 args = true -> (e50 (K + 1)).2.2.2 args = some d -> CallOK Tryz.prog 50 args (mkRes Tryz.prog 3 d) :=
 ent2p k50 fun x y d hq h ⟨_, hx⟩ ⟨_, hy⟩ => by
  cases h
  rw [n26, n3]
  obtain ⟨z, rfl, _⟩ := ty3' hy
  obtain ⟨hl, _⟩ := ty_kids hx
  have hl : (elemsD (fieldD x 3)).length <= maxLen := hl
  have hq : partsP (K + 1) z = true := hq
  unfold partsP at hq
  simp only [Bool.and_eq_true, decide_eq_true_eq] at hq
  refine fn_ok hm henv k50 ((t50 K ((elemsD (fieldD x 3)).length + 1) x z).trans ?_)
  rw [m3]
  show _ = some (dat 3 (.lit (.int .i64 (partsK (K + 1) x z))))
  rw [partsK_succ]
  by_cases h6 : z > 6
  ·rw [dT h6]; rfl
  ·rw [dF h6, cond_false, cond_false]
   exact parts_loop hK (by omega) (by unfold partsP; simp only [Bool.and_eq_true, decide_eq_true_eq]; omega) hl _ 0 1 (Nat.zero_le _) (by omega) (by omega) (by omega)
theorem fine_loop {K N : Nat} {e : D} (hd : (elemsD (fieldD e 3)).all (deepK K) = true) (hl : (elemsD (fieldD e 3)).length <= maxLen) (n : Nat) (hn : (elemsD (fieldD e 3)).length < n) :
  t51_lp6 Tryz.prog Tryz.f51 K N n e 0 = some (dat 4 (.lit (.bool ((elemsD (fieldD e 3)).all (okK K))))) := by
 have := l_loop (fun n v => t51_lp6 Tryz.prog Tryz.f51 K N n e v) (elemsD (fieldD e 3)).length (fun i => !okK K ((elemsD (fieldD e 3)).getD i .nil)) (some (dat 4 (.lit (.bool false)))) (some (dat 4 (.lit (.bool true))))
  (fun n i hi => by
   have hdi : deepK K ((elemsD (fieldD e 3)).getD i .nil) = true := by
    rw [List.all_eq_true] at hd
    rw [l_get hi]
    exact hd _ (List.getElem_mem hi)
   rw [t51_lp6_step, l_idx hi, l_lt hi, cond_true, cond_true, Int.toNat_natCast, hdi, cond_true, l_wrap hl hi]
   rfl)
  (fun n => by rw [t51_lp6_step, l_ge (by omega), cond_false]) n 0 (Nat.zero_le _) (by omega)
 refine this.trans ?_
 rw [Nat.sub_zero, l_any0 (elemsD (fieldD e 3)) (fun o => !okK K o), any_not]
 cases (elemsD (fieldD e 3)).all (okK K) <;> rfl
theorem c51 (K : Nat) (henv : EnvOK Tryz.prog (envR (R1K K) [] [] [])) : ∀ args d, (e51 (K + 1)).2.2.1 args = true -> (e51 (K + 1)).2.2.2 args = some d -> CallOK Tryz.prog 51 args (mkRes Tryz.prog 4 d) :=
 ent1p k51 fun x d hq h ⟨_, hx⟩ => by
  cases h
  rw [n26]
  obtain ⟨hl, _⟩ := ty_kids hx
  have hl : (elemsD (fieldD x 3)).length <= maxLen := hl
  have hq : deepK (K + 1) x = true := hq
  rw [deepK_succ] at hq
  refine fn_ok hm henv k51 ((t51 K ((elemsD (fieldD x 3)).length + 1) x).trans ?_)
  rw [m4, fine_loop hq hl _ (by omega)]
  show _ = some (dat 4 (.lit (.bool (okK (K + 1) x))))
  rw [okK_succ]
  unfold fitsB opI colI kids kk nn
  rw [lt_not, gt_not, lt_not, gt_not]
  rw [show decide (intD (fieldD x 0) < 11) = decide (intD (fieldD x 0) <= 10) by rw [Bool.eq_iff_iff, decide_eq_true_eq, decide_eq_true_eq]; omega]
  rw [show (intD (fieldD x 0) != 1) = !(intD (fieldD x 0) == 1) from rfl, show (intD (fieldD x 1) != 0) = !(intD (fieldD x 1) == 0) from rfl, show (intD (fieldD x 0) != 0) = !(intD (fieldD x 0) == 0) from rfl]
  generalize (elemsD (fieldD x 3)).all (okK K) = w0
  generalize takesN (intD (fieldD x 0)) ((elemsD (fieldD x 3)).length : Int) = w1
  generalize mayB (fieldD x 2) = w2
  generalize decide (0 <= intD (fieldD x 0)) = w3
  generalize decide (intD (fieldD x 0) <= 10) = w4
  generalize decide (0 <= intD (fieldD x 1)) = w5
  generalize decide (intD (fieldD x 1) <= 15) = w6
  generalize (intD (fieldD x 0) == 1) = w7
  generalize (intD (fieldD x 1) == 0) = w8
  generalize (intD (fieldD x 0) == 0) = w9
  generalize (intD (fieldD (fieldD x 2) 0) == 0) = u1
  generalize (intD (fieldD (fieldD x 2) 1) == 0) = u2
  cases w3
  ·rfl
  cases w4
  ·rfl
  cases w5
  ·cases w1 <;> cases w2 <;> rfl
  cases w6
  ·cases w1 <;> cases w2 <;> rfl
  cases w1
  ·cases w2 <;> cases w7 <;> cases w8 <;> cases w9 <;> cases u1 <;> cases u2 <;> rfl
  cases w2
  ·rfl
  cases w7 <;> cases w8 <;> cases w9 <;> cases u1 <;> cases u2 <;> rfl
theorem envR1K : ∀ K : Nat, K <= 100 -> EnvOK Tryz.prog (envR (R1K K) [] [] [])
 | 0, _ => envOK_cons' (envOK_cons' envR1 (fun args d hp hd => by
    exfalso
    unfold preD q1 at hp
    simp only at hp
    split at hp
    ·cases hp
    ·cases hp)) (fun args d hp hd => by
    exfalso
    unfold preD q2 at hp
    simp only at hp
    split at hp
    ·unfold partsP at hp
     simp only [Bool.and_eq_true, decide_eq_true_eq] at hp
     omega
    ·cases hp)
 | K + 1, h => envOK_cons' (envOK_cons' envR1 (c51 K (envR1K K (by omega)))) (c50 K (by omega) (envR1K K (by omega)))
def R2 : Tab := R1K 7
theorem envR2 : EnvOK Tryz.prog (envR R2 [] [] []) := envR1K 7 (by omega)

/-! ### It comes to what may be -/
theorem dOK_deep : ∀ (K : Nat) (e : D) (deep : Int), dOK K e deep = true -> deepK K e = true
 | 0, e, deep, h => h
 | K + 1, e, deep, h => by
  rw [dOK_succ, Bool.and_eq_true, List.all_eq_true] at h
  rw [deepK_succ, List.all_eq_true]
  exact fun p hp => dOK_deep K p _ (h.2 p hp)
theorem parts_iff : ∀ (K : Nat) (e : D) (deep : Int), 8 - deep <= (K : Int) -> deep <= 7 -> ((partsK K e deep <= 30 ↔ (dOK K e deep = true /\ szK K e <= 30)) /\ (partsK K e deep <= 30 -> partsK K e deep = szK K e))
 | 0, e, deep, h, h7 => by omega
 | K + 1, e, deep, h, h7 => by
  rw [partsK_succ, dOK_succ, szK_succ, Bool.and_eq_true, decide_eq_true_eq]
  by_cases h6 : deep > 6
  ·rw [dT h6, cond_true]
   exact ⟨⟨fun hh => by omega, fun hh => by omega⟩, fun hh => by omega⟩
  ·rw [dF h6, cond_false]
   have ih := fun p => parts_iff K p (deep + 1) (by omega) (by omega)
   have := partsL_eq (g := fun p => partsK K p (deep + 1)) (s := szK K) (o := fun p => dOK K p (deep + 1)) (szK_pos K) (fun p => partsK_pos K p (deep + 1)) (fun p => (ih p).1) (fun p => (ih p).2) (kids e) 1 (by omega) (by omega)
   obtain ⟨t1, t2⟩ := this
   rw [t1]
   refine ⟨⟨fun hh => ⟨⟨by omega, hh.1⟩, hh.2⟩, fun hh => ⟨hh.1.2, hh.2⟩⟩, fun hh => ?_⟩
   exact t2 (t1.2 hh)
theorem okD_iff : ∀ (K : Nat) (e : D) (deep : Int), okD K e deep = true ↔ (dOK K e deep = true /\ okK K e = true)
 | 0, e, deep => by simp [okD, dOK]
 | K + 1, e, deep => by
  rw [okD_succ, dOK_succ, okK_succ]
  simp only [Bool.and_eq_true, List.all_eq_true]
  constructor
  ·rintro ⟨⟨a, b⟩, c⟩
   exact ⟨⟨b, fun p hp => ((okD_iff K p _).1 (c p hp)).1⟩, a, fun p hp => ((okD_iff K p _).1 (c p hp)).2⟩
  ·rintro ⟨⟨b, c⟩, a, d⟩
   exact ⟨⟨a, b⟩, fun p hp => (okD_iff K p _).2 ⟨c p hp, d p hp⟩⟩
theorem may_parts (e : D) : mayE e = (decide (partsK 7 e 1 <= 30) && okK 7 e) /\ (partsK 7 e 1 <= 30 -> deepK 7 e = true) := by
 obtain ⟨p1, p2⟩ := parts_iff 7 e 1 (by omega) (by omega)
 constructor
 ·rw [Bool.eq_iff_iff, mayE_iff, okD_iff, Bool.and_eq_true, decide_eq_true_eq, p1]
  constructor
  ·rintro ⟨⟨a, b⟩, c⟩; exact ⟨⟨a, c⟩, b⟩
  ·rintro ⟨⟨a, c⟩, b⟩; exact ⟨⟨a, b⟩, c⟩
 ·exact fun hh => dOK_deep 7 e 1 (p1.1 hh).1

end X
end
section
namespace X
open Go.Ev
set_option linter.unusedVariables false
/- roadbook/roadbookref02.May -/
def t38_h : Hints := fun _ =>  none
theorem t38 (N : Nat) (x0 : D) : evFn Tryz.prog (envR R2 [] [] []) t38_h N Tryz.f38 [dat 42 x0] =
 bif partsP 7 1 then
  bif decide ((partsK 7 x0 1) > 30) then
   some (dat 4 (.lit (.bool false)))
  else bif deepK 7 x0 then
    some (dat 4 (.lit (.bool (fineK 7 x0))))
   else none
 else none := by kernel_rfl

end X
end
section
namespace X
open Go.Ev
set_option linter.unusedVariables false
set_option maxRecDepth 10000
set_option linter.unusedSimpArgs false

def e38 : FuncId × TypeId × (List AV -> Bool) × (List AV -> Option D) := (38, 4, yes, ent [42] (f1 fun x => some (.lit (.bool (mayE x)))))
theorem k38 : FnOK Tryz.prog 38 Tryz.f38 := ⟨Tryz.func38, rfl, by kernel_rfl⟩
theorem c38 : ∀ args d, e38.2.2.2 args = some d -> CallOK Tryz.prog 38 args (mkRes Tryz.prog 4 d) :=
 ent1 k38 fun x d h _ => by
  cases h
  rw [n26]
  refine fn_ok hm envR2 k38 ((t38 1 x).trans ?_)
  rw [m4]
  show _ = some (dat 4 (.lit (.bool (mayE x))))
  obtain ⟨p1, p2⟩ := may_parts x
  rw [p1, show partsP 7 1 = true from rfl, cond_true]
  by_cases h30 : partsK 7 x 1 <= 30
  ·rw [dF (show ¬ partsK 7 x 1 > 30 by omega), dT h30, p2 h30]
   rfl
  ·rw [dT (show partsK 7 x 1 > 30 by omega), dF h30]
   rfl
def R3 : Tab := e38 :: R2
theorem envR3 : EnvOK Tryz.prog (envH R3 []) := envOK_cons envR2 c38

end X
end
section
namespace X
open Go.Ev
set_option linter.unusedVariables false
/- roadbook/roadbookref02.Cols -/
def t33_h : Hints := fun i => if i = 4 then some ([0, 2, 6, 7, 8, 9, 10, 11, 12, 13, 14, 15, 16, 17, 18, 19, 20, 21, 22, 23, 24], [1, 3], []) else none
def t33_lp4 (P : Program) (fn : Func) (N n : Nat) (x0 : D) (v5 : Int) (b3 : List D) : Option AV := evLoop (preL t33_h (sub [1, 1, 1, 0, 1, 0, 0] (bodyOf fn))) (evCode P (envR R3 [] [] []) t33_h N (sub [1, 1, 1, 0, 1, 0, 0] (bodyOf fn))) n ⟨[dead, bxp 1 42, dead, bxp 3 25, dat 4 (.lit (.bool (mayE x0))), dat 3 (.lit (.int .i64 v5)), dead, dead, dead, dead, dead, dead, dead, dead, dead, dead, dead, dead, dead, dead, dead, dead, dead, dead, dead], lookB [(1, some ⟨42, x0, 0, none⟩), (3, some ⟨25, .slice b3 [], 1, none⟩)]⟩ (blockK 0 (seqC P (envR R3 [] [] []) t33_h N (sub [1, 1, 1, 1] (bodyOf fn)) (finK P fn) ))
theorem t33_lp4_step (N n : Nat) (x0 : D) (v5 : Int) (b3 : List D) : t33_lp4 Tryz.prog Tryz.f33 N (n + 1) x0 v5 b3 =
 bif ((decide (v5 <= 15)) == true) then
  bif mayE x0 then
   bif okK 7 x0 then
    bif hasK 7 x0 v5 then
     bif decide ((b3).length + 1 <= 2147483648) then
      t33_lp4 Tryz.prog Tryz.f33 N n x0 (IntKind.wrap .i64 (v5 + 1)) (b3 ++ [.lit (.int .i64 v5)])
     else none
    else t33_lp4 Tryz.prog Tryz.f33 N n x0 (IntKind.wrap .i64 (v5 + 1)) b3
   else none
  else some (dat 25 (.slice b3 []))
 else some (dat 25 (.slice b3 [])) := by kernel_rfl
theorem t33 (N : Nat) (x0 : D) : evFn Tryz.prog (envR R3 [] [] []) t33_h N Tryz.f33 [dat 42 x0] =
 t33_lp4 Tryz.prog Tryz.f33 N N x0 0 [] := by kernel_rfl

/- roadbook/roadbookref02.Pair -/
def t23_h : Hints := fun _ =>  none
theorem t23 (N : Nat) (x0 : D) : evFn Tryz.prog (envR R3 [] [] []) t23_h N Tryz.f23 [dat 42 x0] =
 bif ((mayE x0) == true) then
  bif (((intD (fieldD x0 0)) == 6) == true) then
   bif (decide (0 <= (0 : Int)) && decide ((0 : Int) < ((elemsD (fieldD x0 3)).length : Int))) then
    bif (((intD (fieldD ((elemsD (fieldD x0 3)).getD 0 .nil) 0)) == 1) == true) then
     bif (decide (0 <= (1 : Int)) && decide ((1 : Int) < ((elemsD (fieldD x0 3)).length : Int))) then
      bif (((intD (fieldD ((elemsD (fieldD x0 3)).getD 1 .nil) 0)) == 1) == true) then
       bif (decide (0 <= (0 : Int)) && decide ((0 : Int) < ((elemsD (fieldD x0 3)).length : Int))) then
        bif (decide (0 <= (1 : Int)) && decide ((1 : Int) < ((elemsD (fieldD x0 3)).length : Int))) then
         bif ((intD (fieldD ((elemsD (fieldD x0 3)).getD 0 .nil) 1)) != (intD (fieldD ((elemsD (fieldD x0 3)).getD 1 .nil) 1))) then
          bif (decide (0 <= (0 : Int)) && decide ((0 : Int) < ((elemsD (fieldD x0 3)).length : Int))) then
           bif (decide (0 <= (1 : Int)) && decide ((1 : Int) < ((elemsD (fieldD x0 3)).length : Int))) then
            some (tupA [3, 3, 4] (.agg [.lit (.int .i64 (intD (fieldD ((elemsD (fieldD x0 3)).getD 0 .nil) 1))), .lit (.int .i64 (intD (fieldD ((elemsD (fieldD x0 3)).getD 1 .nil) 1))), .lit (.bool true)]))
           else none
          else none
         else some (tupA [3, 3, 4] (.agg [.lit (.int .i64 0), .lit (.int .i64 0), .lit (.bool false)]))
        else none
       else none
      else some (tupA [3, 3, 4] (.agg [.lit (.int .i64 0), .lit (.int .i64 0), .lit (.bool false)]))
     else none
    else some (tupA [3, 3, 4] (.agg [.lit (.int .i64 0), .lit (.int .i64 0), .lit (.bool false)]))
   else none
  else some (tupA [3, 3, 4] (.agg [.lit (.int .i64 0), .lit (.int .i64 0), .lit (.bool false)]))
 else some (tupA [3, 3, 4] (.agg [.lit (.int .i64 0), .lit (.int .i64 0), .lit (.bool false)])) := by kernel_rfl

end X
end
section
namespace X
open Go.Ev
set_option linter.unusedVariables false
set_option maxRecDepth 10000
set_option linter.unusedSimpArgs false

theorem lt_uniq : ∀ {a b : List Int}, a.Pairwise (· < ·) -> b.Pairwise (· < ·) -> (∀ z, z ∈ a ↔ z ∈ b) -> a = b
 | [], [], _, _, _ => rfl
 | [], y :: b, _, _, h => absurd ((h y).2 (List.mem_cons_self ..)) (by simp)
 | x :: a, [], _, _, h => absurd ((h x).1 (List.mem_cons_self ..)) (by simp)
 | x :: a, y :: b, ha, hb, h => by
  rw [List.pairwise_cons] at ha hb
  have h1 := (h x).1 (List.mem_cons_self ..)
  have h2 := (h y).2 (List.mem_cons_self ..)
  have hxy : x = y := by
   rcases List.mem_cons.1 h1 with h1 | h1
   ·exact h1
   ·rcases List.mem_cons.1 h2 with h2 | h2
    ·exact h2.symm
    ·have := ha.1 y h2
     have := hb.1 x h1
     omega
  subst hxy
  congr 1
  refine lt_uniq ha.2 hb.2 fun z => ⟨fun hz => ?_, fun hz => ?_⟩
  ·have := (h z).1 (List.mem_cons_of_mem _ hz)
   rcases List.mem_cons.1 this with rfl | h3
   ·have := ha.1 z hz
    omega
   ·exact h3
  ·have := (h z).2 (List.mem_cons_of_mem _ hz)
   rcases List.mem_cons.1 this with rfl | h3
   ·have := hb.1 z hz
    omega
   ·exact h3
/-- Numbers from k on, n of them, that are asked for. -/
def pickN (f : Int -> Bool) : Nat -> Int -> List Int
 | 0, _ => []
 | n + 1, k => (bif f k then [k] else []) ++ pickN f n (k + 1)
theorem pickN_mem {f : Int -> Bool} {z : Int} : ∀ {n : Nat} {k : Int}, z ∈ pickN f n k ↔ (k <= z /\ z < k + n /\ f z = true)
 | 0, k => by simp [pickN]; omega
 | n + 1, k => by
  unfold pickN
  rw [List.mem_append, pickN_mem (n := n) (k := k + 1)]
  by_cases hz : z = k
  ·subst hz
   cases hf : f z with
   | true => simp; omega
   | false => simp
  ·have : z ∉ (bif f k then [k] else []) := by cases f k <;> simp [hz]
   constructor
   ·rintro (h | ⟨a, b, c⟩)
    ·exact absurd h this
    ·exact ⟨by omega, by omega, c⟩
   ·rintro ⟨a, b, c⟩
    exact .inr ⟨by omega, by omega, c⟩
theorem pickN_lt {f : Int -> Bool} : ∀ (n : Nat) (k : Int), (pickN f n k).Pairwise (· < ·)
 | 0, k => List.Pairwise.nil
 | n + 1, k => by
  unfold pickN
  rw [List.pairwise_append]
  refine ⟨by cases f k <;> simp, pickN_lt n (k + 1), fun a ha b hb => ?_⟩
  have h1 : a = k := by
   cases hf : f k with
   | true => rw [hf, cond_true, List.mem_singleton] at ha; exact ha
   | false => rw [hf, cond_false] at ha; cases ha
  have := (pickN_mem.1 hb).1
  omega
theorem pickN_len {f : Int -> Bool} : ∀ (n : Nat) (k : Int), (pickN f n k).length <= n
 | 0, k => Nat.le_refl _
 | n + 1, k => by
  unfold pickN
  have := pickN_len (f := f) n (k + 1)
  rw [List.length_append]
  cases f k <;> simp <;> omega
theorem cols_pick {e : D} (h : mayE e = true) : colsE e = (pickN (hasK 7 e) 16 0).map litI := by
 rw [colsE_eq h]
 congr 1
 refine lt_uniq (cset_lt _) (pickN_lt _ _) fun z => ?_
 rw [mem_cset, pickN_mem, has_cols]
 constructor
 ·intro hz
  have := colsI_range 7 e (mayE_ok h) z hz
  exact ⟨by omega, by omega, hz⟩
 ·exact fun hz => hz.2.2
theorem rcols_loop {N : Nat} {e : D} (h : mayE e = true) : ∀ (m n : Nat) (k : Int) (l : List D), k + m = 16 -> 0 <= k -> m < n -> l.length <= 100 - m ->
  t33_lp4 Tryz.prog Tryz.f33 N n e k l = some (dat 25 (.slice (l ++ (pickN (hasK 7 e) m k).map litI) []))
 | m, 0, k, l, _, _, hn, _ => by omega
 | 0, n + 1, k, l, hk, h0, _, _ => by
  rw [t33_lp4_step, dF (show ¬ k <= 15 by omega), show (false == true) = false from rfl, cond_false]
  simp [pickN]
 | m + 1, n + 1, k, l, hk, h0, hn, hl => by
  rw [t33_lp4_step, dT (show k <= 15 by omega), beq_self_eq_true, cond_true, h, cond_true, mayE_ok h, cond_true, l_wrapI (l_in (by omega) (by omega)), dT (show l.length + 1 <= 2147483648 by omega)]
  unfold pickN
  cases hf : hasK 7 e k with
  | true =>
   rw [cond_true, cond_true, rcols_loop h m n (k + 1) _ (by omega) (by omega) (by omega) (by simp; omega), List.append_assoc]
   rfl
  | false =>
   rw [cond_false, rcols_loop h m n (k + 1) _ (by omega) (by omega) (by omega) (by omega)]
   rfl
def e33 : FuncId × TypeId × (List AV -> Bool) × (List AV -> Option D) := (33, 25, yes, ent [42] (f1 fun x => some (.slice (colsE x) [])))
theorem k33 : FnOK Tryz.prog 33 Tryz.f33 := ⟨Tryz.func33, rfl, by kernel_rfl⟩
theorem c33 : ∀ args d, e33.2.2.2 args = some d -> CallOK Tryz.prog 33 args (mkRes Tryz.prog 25 d) :=
 ent1 k33 fun x d h _ => by
  cases h
  rw [n26]
  refine fn_ok hm envR3 k33 ((t33 20 x).trans ?_)
  rw [m27]
  cases hmx : mayE x with
  | false =>
   rw [t33_lp4_step, hmx, colsE_not hmx]
   rfl
  | true =>
   rw [cols_pick hmx]
   exact rcols_loop hmx 16 20 0 [] (by omega) (by omega) (by omega) (by simp)
def e23 : FuncId × TypeId × (List AV -> Bool) × (List AV -> Option D) := (23, 49, yes, ent [42] (f1 fun x => some (.agg [.lit (.int .i64 (pairA x)), .lit (.int .i64 (pairB x)), .lit (.bool (pairE x))])))
theorem k23 : FnOK Tryz.prog 23 Tryz.f23 := ⟨Tryz.func23, rfl, by kernel_rfl⟩
theorem c23 : ∀ args d, e23.2.2.2 args = some d -> CallOK Tryz.prog 23 args (mkRes Tryz.prog 49 d) :=
 ent1 k23 fun x d h _ => by
  cases h
  rw [n26]
  refine fn_ok hm envR3 k23 ((t23 1 x).trans ?_)
  rw [m31, show intD (fieldD x 0) = opI x from rfl, show elemsD (fieldD x 3) = kids x from rfl, show intD (fieldD ((kids x).getD 0 .nil) 0) = opI ((kids x).getD 0 .nil) from rfl, show intD (fieldD ((kids x).getD 1 .nil) 0) = opI ((kids x).getD 1 .nil) from rfl,
   show intD (fieldD ((kids x).getD 0 .nil) 1) = colI ((kids x).getD 0 .nil) from rfl, show intD (fieldD ((kids x).getD 1 .nil) 1) = colI ((kids x).getD 1 .nil) from rfl]
  unfold pairA pairB pairE
  cases hmay : mayE x with
  | false => rfl
  | true =>
   cases h6 : (opI x == 6) with
   | false => rfl
   | true =>
    have hl := pair_len hmay (by simpa using h6)
    rw [hl]
    generalize colI ((kids x).getD 0 .nil) = a
    generalize colI ((kids x).getD 1 .nil) = b
    rw [show (a != b) = !(a == b) from rfl]
    generalize (opI ((kids x).getD 0 .nil) == 1) = u
    generalize (opI ((kids x).getD 1 .nil) == 1) = v
    generalize (a == b) = q
    cases u <;> cases v <;> cases q <;> rfl
def R4 : Tab := e23 :: e33 :: R3
theorem envR4 : EnvOK Tryz.prog (envH R4 []) := envOK_cons (envOK_cons envR3 c33) c23

end X
end
end Go.Proofs.YtanjicjomcocmaaGreatDoor
