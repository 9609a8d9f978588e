/- What the evaluator comes to, function by function: by the kernel. Nothing here is trusted. -/
import Derived.Test.YtmopepjahjmdeaaGreatV1
import Derived.Test.YtmopepjahjmdeaaGreatRows
namespace Go.Proofs.YtmopepjahjmdeaaGreat
open Go.Ev
set_option linter.unusedVariables false
def T0 : Tab := []
def e59 : FuncId × TypeId × (List AV → Bool) × (List AV → Option D) := (59, 4, yes, ent [34] (f1 (fun x => some (.lit (.bool (mayB x))))))
def e60 : FuncId × TypeId × (List AV → Bool) × (List AV → Option D) := (60, 34, yes, ent [3] (f1 (fun x => some (.agg [.lit (.int .i64 0), .lit (.int .i64 (intD x))]))))
def e84 : FuncId × TypeId × (List AV → Bool) × (List AV → Option D) := (84, 34, yes, ent [] (f0 (some (.agg [.lit (.int .i64 2), .lit (.int .i64 0)]))))
def e114 : FuncId × TypeId × (List AV → Bool) × (List AV → Option D) := (114, 3, yes, ent [4] (f1 (fun x => some (.lit (.int .i64 (truthI (boolD x)))))))
def e66 : FuncId × TypeId × (List AV → Bool) × (List AV → Option D) := (66, 4, yes, ent [34] (f1 (fun x => some (.lit (.bool (isTru x))))))
def e86 : FuncId × TypeId × (List AV → Bool) × (List AV → Option D) := (86, 107, yes, ent [3, 3] (f2 (fun x y => some (.agg [.lit (.int .i64 (IntKind.wrap .i64 ((intD x) + (intD y)))), .lit (.bool (addOK (intD x) (intD y)))]))))
def e110 : FuncId × TypeId × (List AV → Bool) × (List AV → Option D) := (110, 107, yes, ent [3, 3] (f2 (fun x y => some (.agg [.lit (.int .i64 (IntKind.wrap .i64 ((intD x) - (intD y)))), .lit (.bool (subOK (intD x) (intD y)))]))))
def e111 : FuncId × TypeId × (List AV → Bool) × (List AV → Option D) := (111, 107, yes, ent [3, 3] (f2 (fun x y => some (.agg [.lit (.int .i64 (IntKind.wrap .i64 ((intD x) * (intD y)))), .lit (.bool (mulOK (intD x) (intD y)))]))))
def e112 : FuncId × TypeId × (List AV → Bool) × (List AV → Option D) := (112, 107, yes, ent [3, 3] (f2 (fun x y => some (.agg [.lit (.int .i64 (divV (intD x) (intD y))), .lit (.bool (divOK (intD x) (intD y)))]))))
def e85 : FuncId × TypeId × (List AV → Bool) × (List AV → Option D) := (85, 4, yes, ent [34] (f1 (fun x => some (.lit (.bool (isNum x))))))
def T1 : Tab := e59 :: e60 :: e84 :: e114 :: e66 :: e86 :: e110 :: e111 :: e112 :: e85 :: T0
def e87 : FuncId × TypeId × (List AV → Bool) × (List AV → Option D) := (87, 34, yes, ent [34] (f1 (fun x => some (readD x))))
def e115 : FuncId × TypeId × (List AV → Bool) × (List AV → Option D) := (115, 4, yes, ent [34] (f1 (fun x => some (.lit (.bool (isFal x))))))
def T2 : Tab := e87 :: e115 :: T1
def e83 : FuncId × TypeId × (List AV → Bool) × (List AV → Option D) := (83, 4, yes, ent [34] (f1 (fun x => some (.lit (.bool (isErr x))))))
def e118 : FuncId × TypeId × (List AV → Bool) × (List AV → Option D) := (118, 4, yes, ent [34] (f1 (fun x => some (.lit (.bool (isNul x))))))
def e63 : FuncId × TypeId × (List AV → Bool) × (List AV → Option D) := (63, 4, yes, ent [34, 34] (f2 (fun x y => some (.lit (.bool (lessB x y))))))
def T3 : Tab := e83 :: e118 :: e63 :: T2
def e82 : FuncId × TypeId × (List AV → Bool) × (List AV → Option D) := (82, 4, yes, ent [46, 87] (f2 fun x y => match fnD y with | some 115 => some (.lit (.bool ((elemsD x).any isFal))) | some 66 => some (.lit (.bool ((elemsD x).any isTru))) | some 83 => some (.lit (.bool ((elemsD x).any isErr))) | some 85 => some (.lit (.bool ((elemsD x).any isNum))) | some 118 => some (.lit (.bool ((elemsD x).any isNul))) | _ => none))
def T4 : Tab := e82 :: T3
def e113 : FuncId × TypeId × (List AV → Bool) × (List AV → Option D) := (113, 34, yes, ent [3, 46] (f2 (fun x y => some (ifNum (intD x) (elemsD y)))))
def e61 : FuncId × TypeId × (List AV → Bool) × (List AV → Option D) := (61, 34, yes, ent [46] (f1 (fun x => some (sumD (elemsD x)))))
def T5 : Tab := e113 :: e61 :: T4
def e109 : FuncId × TypeId × (List AV → Bool) × (List AV → Option D) := (109, 34, yes, ent [115, 34, 34] (f3 fun x y z => match fnD x with | some 86 => some (addD y z) | some 110 => some (subD y z) | some 111 => some (mulD y z) | some 112 => some (divD y z) | _ => none))
def e97 : FuncId × TypeId × (List AV → Bool) × (List AV → Option D) := (97, 34, yes, ent [34, 34] (f2 (fun x y => some (eqV x y))))
def e98 : FuncId × TypeId × (List AV → Bool) × (List AV → Option D) := (98, 34, yes, ent [34, 34] (f2 (fun x y => some (ltV x y))))
def e99 : FuncId × TypeId × (List AV → Bool) × (List AV → Option D) := (99, 34, yes, ent [46] (f1 (fun x => some (andD (elemsD x)))))
def e100 : FuncId × TypeId × (List AV → Bool) × (List AV → Option D) := (100, 34, yes, ent [46] (f1 (fun x => some (orD (elemsD x)))))
def e101 : FuncId × TypeId × (List AV → Bool) × (List AV → Option D) := (101, 34, yes, ent [34] (f1 (fun x => some (notD x))))
def T6 : Tab := e109 :: e97 :: e98 :: e99 :: e100 :: e101 :: T5
def e93 : FuncId × TypeId × (List AV → Bool) × (List AV → Option D) := (93, 34, yes, ent [34, 34] (f2 (fun x y => some (addD x y))))
def e94 : FuncId × TypeId × (List AV → Bool) × (List AV → Option D) := (94, 34, yes, ent [34, 34] (f2 (fun x y => some (subD x y))))
def e95 : FuncId × TypeId × (List AV → Bool) × (List AV → Option D) := (95, 34, yes, ent [34, 34] (f2 (fun x y => some (mulD x y))))
def e96 : FuncId × TypeId × (List AV → Bool) × (List AV → Option D) := (96, 34, yes, ent [34, 34] (f2 (fun x y => some (divD x y))))
def T7 : Tab := e93 :: e94 :: e95 :: e96 :: T6
def T8 : Tab := T7
/- roadbook/val.May -/
def t59_h : Hints := fun _ =>  none
theorem t59 (N : Nat) (x0 : D) : evFn Tryz.prog (envOf T0) t59_h N Tryz.f59 [dat 34 x0] =
  bif (((intD (fieldD x0 0)) == 0) == false) then
    bif (((intD (fieldD x0 0)) == 1) == false) then
      bif (((intD (fieldD x0 0)) == 2) == true) then
        some (dat 4 (.lit (.bool ((intD (fieldD x0 1)) == 0))))
      else some (dat 4 (.lit (.bool false)))
    else some (dat 4 (.lit (.bool ((intD (fieldD x0 1)) == 0))))
  else some (dat 4 (.lit (.bool true))) := by kernel_rfl

/- roadbook/val.Of -/
def t60_h : Hints := fun _ =>  none
theorem t60 (N : Nat) (x0 : Int) : evFn Tryz.prog (envOf T0) t60_h N Tryz.f60 [dat 3 (.lit (.int .i64 x0))] =
  some (dat 34 (.agg [.lit (.int .i64 0), .lit (.int .i64 x0)])) := by kernel_rfl

/- roadbook/val.fault -/
def t84_h : Hints := fun _ =>  none
theorem t84 (N : Nat)  : evFn Tryz.prog (envOf T0) t84_h N Tryz.f84 [] =
  some (dat 34 (.agg [.lit (.int .i64 2), .lit (.int .i64 0)])) := by kernel_rfl

/- roadbook/val.truth -/
def t114_h : Hints := fun _ =>  none
theorem t114 (N : Nat) (x0 : Bool) : evFn Tryz.prog (envOf T0) t114_h N Tryz.f114 [dat 4 (.lit (.bool x0))] =
  bif x0 then
    some (dat 3 (.lit (.int .i64 1)))
  else some (dat 3 (.lit (.int .i64 0))) := by kernel_rfl

/- roadbook/val.True -/
def t66_h : Hints := fun _ =>  none
theorem t66 (N : Nat) (x0 : D) : evFn Tryz.prog (envOf T0) t66_h N Tryz.f66 [dat 34 x0] =
  bif (((intD (fieldD x0 0)) == 0) == true) then
    some (dat 4 (.lit (.bool ((intD (fieldD x0 1)) != 0))))
  else some (dat 4 (.lit (.bool false))) := by kernel_rfl

/- roadbook/val.plus -/
def t86_h : Hints := fun _ =>  none
theorem t86 (N : Nat) (x0 : Int) (x1 : Int) : evFn Tryz.prog (envOf T0) t86_h N Tryz.f86 [dat 3 (.lit (.int .i64 x0)), dat 3 (.lit (.int .i64 x1))] =
  some (tupA [3, 4] (.agg [.lit (.int .i64 (IntKind.wrap .i64 (x0 + x1))), .lit (.bool ((decide ((IntKind.wrap .i64 (x0 + x1)) < x0)) == (decide (x1 < 0))))])) := by kernel_rfl

/- roadbook/val.minus -/
def t110_h : Hints := fun _ =>  none
theorem t110 (N : Nat) (x0 : Int) (x1 : Int) : evFn Tryz.prog (envOf T0) t110_h N Tryz.f110 [dat 3 (.lit (.int .i64 x0)), dat 3 (.lit (.int .i64 x1))] =
  some (tupA [3, 4] (.agg [.lit (.int .i64 (IntKind.wrap .i64 (x0 - x1))), .lit (.bool ((decide ((IntKind.wrap .i64 (x0 - x1)) > x0)) == (decide (x1 < 0))))])) := by kernel_rfl

/- roadbook/val.times -/
def t111_h : Hints := fun _ =>  none
theorem t111 (N : Nat) (x0 : Int) (x1 : Int) : evFn Tryz.prog (envOf T0) t111_h N Tryz.f111 [dat 3 (.lit (.int .i64 x0)), dat 3 (.lit (.int .i64 x1))] =
  bif (x0 == 0) then
    some (tupA [3, 4] (.agg [.lit (.int .i64 (IntKind.wrap .i64 (x0 * x1))), .lit (.bool true)]))
  else bif (x0 == (-1)) then
      some (tupA [3, 4] (.agg [.lit (.int .i64 (IntKind.wrap .i64 (x0 * x1))), .lit (.bool (x1 != (-9223372036854775808)))]))
    else bif (!(x0 == 0)) then
        some (tupA [3, 4] (.agg [.lit (.int .i64 (IntKind.wrap .i64 (x0 * x1))), .lit (.bool ((IntKind.wrap .i64 (Int.tdiv (IntKind.wrap .i64 (x0 * x1)) x0)) == x1))]))
      else none := by kernel_rfl

/- roadbook/val.over -/
def t112_h : Hints := fun _ =>  none
theorem t112 (N : Nat) (x0 : Int) (x1 : Int) : evFn Tryz.prog (envOf T0) t112_h N Tryz.f112 [dat 3 (.lit (.int .i64 x0)), dat 3 (.lit (.int .i64 x1))] =
  bif ((x1 == 0) == false) then
    bif ((x0 == (-9223372036854775808)) == true) then
      bif (x1 == (-1)) then
        some (tupA [3, 4] (.agg [.lit (.int .i64 0), .lit (.bool false)]))
      else bif (!(x1 == 0)) then
          some (tupA [3, 4] (.agg [.lit (.int .i64 (IntKind.wrap .i64 (Int.tdiv x0 x1))), .lit (.bool true)]))
        else none
    else bif (!(x1 == 0)) then
        some (tupA [3, 4] (.agg [.lit (.int .i64 (IntKind.wrap .i64 (Int.tdiv x0 x1))), .lit (.bool true)]))
      else none
  else some (tupA [3, 4] (.agg [.lit (.int .i64 0), .lit (.bool false)])) := by kernel_rfl

/- roadbook/val.isNumber -/
def t85_h : Hints := fun _ =>  none
theorem t85 (N : Nat) (x0 : D) : evFn Tryz.prog (envOf T0) t85_h N Tryz.f85 [dat 34 x0] =
  some (dat 4 (.lit (.bool ((intD (fieldD x0 0)) == 0)))) := by kernel_rfl

/- roadbook/val.read -/
def t87_h : Hints := fun _ =>  none
theorem t87 (N : Nat) (x0 : D) : evFn Tryz.prog (envOf T1) t87_h N Tryz.f87 [dat 34 x0] =
  bif mayB x0 then
    some (dat 34 x0)
  else some (dat 34 (.agg [.lit (.int .i64 2), .lit (.int .i64 0)])) := by kernel_rfl

/- roadbook/val.isFalse -/
def t115_h : Hints := fun _ =>  none
theorem t115 (N : Nat) (x0 : D) : evFn Tryz.prog (envOf T1) t115_h N Tryz.f115 [dat 34 x0] =
  some (dat 4 (.lit (.bool (((intD (fieldD x0 0)) == 0) && (((intD (fieldD x0 1)) == 0) && true))))) := by kernel_rfl

/- roadbook/val.isError -/
def t83_h : Hints := fun _ =>  none
theorem t83 (N : Nat) (x0 : D) : evFn Tryz.prog (envOf T2) t83_h N Tryz.f83 [dat 34 x0] =
  some (dat 4 (.lit (.bool ((intD (fieldD (readD x0) 0)) == 2)))) := by kernel_rfl

/- roadbook/val.isNothing -/
def t118_h : Hints := fun _ =>  none
theorem t118 (N : Nat) (x0 : D) : evFn Tryz.prog (envOf T2) t118_h N Tryz.f118 [dat 34 x0] =
  some (dat 4 (.lit (.bool ((intD (fieldD (readD x0) 0)) == 1)))) := by kernel_rfl

/- roadbook/val.Less -/
def t63_h : Hints := fun _ =>  none
theorem t63 (N : Nat) (x0 : D) (x1 : D) : evFn Tryz.prog (envOf T2) t63_h N Tryz.f63 [dat 34 x0, dat 34 x1] =
  bif ((decide ((intD (fieldD (readD x0) 0)) < (intD (fieldD (readD x1) 0)))) == false) then
    bif (((intD (fieldD (readD x0) 0)) == (intD (fieldD (readD x1) 0))) == true) then
      some (dat 4 (.lit (.bool (decide ((intD (fieldD (readD x0) 1)) < (intD (fieldD (readD x1) 1)))))))
    else some (dat 4 (.lit (.bool false)))
  else some (dat 4 (.lit (.bool true))) := by kernel_rfl

/- roadbook/val.some[roadbook/api.Val] -/
def t82_115_h : Hints := fun i => if i = 2 then some ([0, 2, 3, 4, 5, 6, 10, 11, 12, 13, 14, 15, 16], [], []) else none
def t82_115_lp2 (P : Program) (fn : Func) (N n : Nat) (x0 : D) (v9 : Int) : Option AV := evLoop (preL t82_115_h (sub [1, 0, 1, 0, 0] (bodyOf fn))) (evCode P (envOf T3) t82_115_h N (sub [1, 0, 1, 0, 0] (bodyOf fn))) n ⟨[dead, dat 87 (.held (.func (.func 115) #[] #[])), dead, dead, dead, dead, dead, dat 46 x0, dat 3 (.lit (.int .i64 ((elemsD x0).length : Int))), dat 3 (.lit (.int .i64 v9)), dead, dead, dead, dead, dead, dead, dead], lookB []⟩ (blockK 0 (seqC P (envOf T3) t82_115_h N (sub [1, 1] (bodyOf fn)) (finK P fn) ))
theorem t82_115_lp2_step (N n : Nat) (x0 : D) (v9 : Int) : t82_115_lp2 Tryz.prog Tryz.f82 N (n + 1) x0 v9 =
  bif decide (v9 < ((elemsD x0).length : Int)) then
    bif (decide (0 ≤ v9) && decide (v9 < ((elemsD x0).length : Int))) then
      bif isFal ((elemsD x0).getD (v9).toNat .nil) then
        some (dat 4 (.lit (.bool true)))
      else t82_115_lp2 Tryz.prog Tryz.f82 N n x0 (IntKind.wrap .i64 (v9 + 1))
    else none
  else some (dat 4 (.lit (.bool false))) := by kernel_rfl
theorem t82_115 (N : Nat) (x0 : D) : evFn Tryz.prog (envOf T3) t82_115_h N Tryz.f82 [dat 46 x0, dat 87 (.held (.func (.func 115) #[] #[]))] =
  t82_115_lp2 Tryz.prog Tryz.f82 N N x0 0 := by kernel_rfl

/- roadbook/val.some[roadbook/api.Val] -/
def t82_66_h : Hints := fun i => if i = 2 then some ([0, 2, 3, 4, 5, 6, 10, 11, 12, 13, 14, 15, 16], [], []) else none
def t82_66_lp2 (P : Program) (fn : Func) (N n : Nat) (x0 : D) (v9 : Int) : Option AV := evLoop (preL t82_66_h (sub [1, 0, 1, 0, 0] (bodyOf fn))) (evCode P (envOf T3) t82_66_h N (sub [1, 0, 1, 0, 0] (bodyOf fn))) n ⟨[dead, dat 87 (.held (.func (.func 66) #[] #[])), dead, dead, dead, dead, dead, dat 46 x0, dat 3 (.lit (.int .i64 ((elemsD x0).length : Int))), dat 3 (.lit (.int .i64 v9)), dead, dead, dead, dead, dead, dead, dead], lookB []⟩ (blockK 0 (seqC P (envOf T3) t82_66_h N (sub [1, 1] (bodyOf fn)) (finK P fn) ))
theorem t82_66_lp2_step (N n : Nat) (x0 : D) (v9 : Int) : t82_66_lp2 Tryz.prog Tryz.f82 N (n + 1) x0 v9 =
  bif decide (v9 < ((elemsD x0).length : Int)) then
    bif (decide (0 ≤ v9) && decide (v9 < ((elemsD x0).length : Int))) then
      bif isTru ((elemsD x0).getD (v9).toNat .nil) then
        some (dat 4 (.lit (.bool true)))
      else t82_66_lp2 Tryz.prog Tryz.f82 N n x0 (IntKind.wrap .i64 (v9 + 1))
    else none
  else some (dat 4 (.lit (.bool false))) := by kernel_rfl
theorem t82_66 (N : Nat) (x0 : D) : evFn Tryz.prog (envOf T3) t82_66_h N Tryz.f82 [dat 46 x0, dat 87 (.held (.func (.func 66) #[] #[]))] =
  t82_66_lp2 Tryz.prog Tryz.f82 N N x0 0 := by kernel_rfl

/- roadbook/val.some[roadbook/api.Val] -/
def t82_83_h : Hints := fun i => if i = 2 then some ([0, 2, 3, 4, 5, 6, 10, 11, 12, 13, 14, 15, 16], [], []) else none
def t82_83_lp2 (P : Program) (fn : Func) (N n : Nat) (x0 : D) (v9 : Int) : Option AV := evLoop (preL t82_83_h (sub [1, 0, 1, 0, 0] (bodyOf fn))) (evCode P (envOf T3) t82_83_h N (sub [1, 0, 1, 0, 0] (bodyOf fn))) n ⟨[dead, dat 87 (.held (.func (.func 83) #[] #[])), dead, dead, dead, dead, dead, dat 46 x0, dat 3 (.lit (.int .i64 ((elemsD x0).length : Int))), dat 3 (.lit (.int .i64 v9)), dead, dead, dead, dead, dead, dead, dead], lookB []⟩ (blockK 0 (seqC P (envOf T3) t82_83_h N (sub [1, 1] (bodyOf fn)) (finK P fn) ))
theorem t82_83_lp2_step (N n : Nat) (x0 : D) (v9 : Int) : t82_83_lp2 Tryz.prog Tryz.f82 N (n + 1) x0 v9 =
  bif decide (v9 < ((elemsD x0).length : Int)) then
    bif (decide (0 ≤ v9) && decide (v9 < ((elemsD x0).length : Int))) then
      bif isErr ((elemsD x0).getD (v9).toNat .nil) then
        some (dat 4 (.lit (.bool true)))
      else t82_83_lp2 Tryz.prog Tryz.f82 N n x0 (IntKind.wrap .i64 (v9 + 1))
    else none
  else some (dat 4 (.lit (.bool false))) := by kernel_rfl
theorem t82_83 (N : Nat) (x0 : D) : evFn Tryz.prog (envOf T3) t82_83_h N Tryz.f82 [dat 46 x0, dat 87 (.held (.func (.func 83) #[] #[]))] =
  t82_83_lp2 Tryz.prog Tryz.f82 N N x0 0 := by kernel_rfl

/- roadbook/val.some[roadbook/api.Val] -/
def t82_85_h : Hints := fun i => if i = 2 then some ([0, 2, 3, 4, 5, 6, 10, 11, 12, 13, 14, 15, 16], [], []) else none
def t82_85_lp2 (P : Program) (fn : Func) (N n : Nat) (x0 : D) (v9 : Int) : Option AV := evLoop (preL t82_85_h (sub [1, 0, 1, 0, 0] (bodyOf fn))) (evCode P (envOf T3) t82_85_h N (sub [1, 0, 1, 0, 0] (bodyOf fn))) n ⟨[dead, dat 87 (.held (.func (.func 85) #[] #[])), dead, dead, dead, dead, dead, dat 46 x0, dat 3 (.lit (.int .i64 ((elemsD x0).length : Int))), dat 3 (.lit (.int .i64 v9)), dead, dead, dead, dead, dead, dead, dead], lookB []⟩ (blockK 0 (seqC P (envOf T3) t82_85_h N (sub [1, 1] (bodyOf fn)) (finK P fn) ))
theorem t82_85_lp2_step (N n : Nat) (x0 : D) (v9 : Int) : t82_85_lp2 Tryz.prog Tryz.f82 N (n + 1) x0 v9 =
  bif decide (v9 < ((elemsD x0).length : Int)) then
    bif (decide (0 ≤ v9) && decide (v9 < ((elemsD x0).length : Int))) then
      bif isNum ((elemsD x0).getD (v9).toNat .nil) then
        some (dat 4 (.lit (.bool true)))
      else t82_85_lp2 Tryz.prog Tryz.f82 N n x0 (IntKind.wrap .i64 (v9 + 1))
    else none
  else some (dat 4 (.lit (.bool false))) := by kernel_rfl
theorem t82_85 (N : Nat) (x0 : D) : evFn Tryz.prog (envOf T3) t82_85_h N Tryz.f82 [dat 46 x0, dat 87 (.held (.func (.func 85) #[] #[]))] =
  t82_85_lp2 Tryz.prog Tryz.f82 N N x0 0 := by kernel_rfl

/- roadbook/val.some[roadbook/api.Val] -/
def t82_118_h : Hints := fun i => if i = 2 then some ([0, 2, 3, 4, 5, 6, 10, 11, 12, 13, 14, 15, 16], [], []) else none
def t82_118_lp2 (P : Program) (fn : Func) (N n : Nat) (x0 : D) (v9 : Int) : Option AV := evLoop (preL t82_118_h (sub [1, 0, 1, 0, 0] (bodyOf fn))) (evCode P (envOf T3) t82_118_h N (sub [1, 0, 1, 0, 0] (bodyOf fn))) n ⟨[dead, dat 87 (.held (.func (.func 118) #[] #[])), dead, dead, dead, dead, dead, dat 46 x0, dat 3 (.lit (.int .i64 ((elemsD x0).length : Int))), dat 3 (.lit (.int .i64 v9)), dead, dead, dead, dead, dead, dead, dead], lookB []⟩ (blockK 0 (seqC P (envOf T3) t82_118_h N (sub [1, 1] (bodyOf fn)) (finK P fn) ))
theorem t82_118_lp2_step (N n : Nat) (x0 : D) (v9 : Int) : t82_118_lp2 Tryz.prog Tryz.f82 N (n + 1) x0 v9 =
  bif decide (v9 < ((elemsD x0).length : Int)) then
    bif (decide (0 ≤ v9) && decide (v9 < ((elemsD x0).length : Int))) then
      bif isNul ((elemsD x0).getD (v9).toNat .nil) then
        some (dat 4 (.lit (.bool true)))
      else t82_118_lp2 Tryz.prog Tryz.f82 N n x0 (IntKind.wrap .i64 (v9 + 1))
    else none
  else some (dat 4 (.lit (.bool false))) := by kernel_rfl
theorem t82_118 (N : Nat) (x0 : D) : evFn Tryz.prog (envOf T3) t82_118_h N Tryz.f82 [dat 46 x0, dat 87 (.held (.func (.func 118) #[] #[]))] =
  t82_118_lp2 Tryz.prog Tryz.f82 N N x0 0 := by kernel_rfl

/- roadbook/val.ifNumbers -/
def t113_h : Hints := fun _ =>  none
theorem t113 (N : Nat) (x0 : Int) (x1 : D) : evFn Tryz.prog (envOf T4) t113_h N Tryz.f113 [dat 3 (.lit (.int .i64 x0)), dat 46 x1] =
  bif (elemsD x1).any isErr then
    some (dat 34 (.agg [.lit (.int .i64 2), .lit (.int .i64 0)]))
  else bif (elemsD x1).any isNul then
      some (dat 34 (.agg [.lit (.int .i64 1), .lit (.int .i64 0)]))
    else some (dat 34 (.agg [.lit (.int .i64 0), .lit (.int .i64 x0)])) := by kernel_rfl

/- roadbook/val.Sum -/
def t61_h : Hints := fun i => if i = 7 then some ([0, 1, 5, 6, 7, 8, 9, 10, 11, 12, 13, 14, 15, 19, 20, 21, 22, 23, 24, 25, 26, 27, 28, 29, 30, 31, 32, 33, 34, 35, 36, 37, 38, 39, 40, 41, 42, 43, 44, 45, 46, 47, 48], [2], []) else none
def t61_lp7 (P : Program) (fn : Func) (N n : Nat) (x0 : D) (v3 : Int) (v4 : Int) (v18 : Int) : Option AV := evLoop (preL t61_h (sub [1, 1, 1, 1, 0, 1, 0, 0] (bodyOf fn))) (evCode P (envOf T4) t61_h N (sub [1, 1, 1, 1, 0, 1, 0, 0] (bodyOf fn))) n ⟨[dead, dead, bxp 2 34, dat 3 (.lit (.int .i64 v3)), dat 3 (.lit (.int .i64 v4)), dead, dead, dead, dead, dead, dead, dead, dead, dead, dead, dead, dat 46 x0, dat 3 (.lit (.int .i64 ((elemsD x0).length : Int))), dat 3 (.lit (.int .i64 v18)), dead, dead, dead, dead, dead, dead, dead, dead, dead, dead, dead, dead, dead, dead, dead, dead, dead, dead, dead, dead, dead, dead, dead, dead, dead, dead, dead, dead, dead, dead], lookB [(2, some ⟨34, .agg [.lit (.int .i64 0), .lit (.int .i64 0)], 0, none⟩)]⟩ (blockK 0 (seqC P (envOf T4) t61_h N (sub [1, 1, 1, 1, 1] (bodyOf fn)) (finK P fn) ))
theorem t61_lp7_step (N n : Nat) (x0 : D) (v3 : Int) (v4 : Int) (v18 : Int) : t61_lp7 Tryz.prog Tryz.f61 N (n + 1) x0 v3 v4 v18 =
  bif decide (v18 < ((elemsD x0).length : Int)) then
    bif (decide (0 ≤ v18) && decide (v18 < ((elemsD x0).length : Int))) then
      bif ((!(addOK v3 (intD (fieldD ((elemsD x0).getD (v18).toNat .nil) 1)))) == true) then
        bif decide ((intD (fieldD ((elemsD x0).getD (v18).toNat .nil) 1)) > 0) then
          t61_lp7 Tryz.prog Tryz.f61 N n x0 (IntKind.wrap .i64 (v3 + (intD (fieldD ((elemsD x0).getD (v18).toNat .nil) 1)))) (IntKind.wrap .i64 (v4 + 1)) (IntKind.wrap .i64 (v18 + 1))
        else bif (!(addOK v3 (intD (fieldD ((elemsD x0).getD (v18).toNat .nil) 1)))) then
            t61_lp7 Tryz.prog Tryz.f61 N n x0 (IntKind.wrap .i64 (v3 + (intD (fieldD ((elemsD x0).getD (v18).toNat .nil) 1)))) (IntKind.wrap .i64 (v4 - 1)) (IntKind.wrap .i64 (v18 + 1))
          else t61_lp7 Tryz.prog Tryz.f61 N n x0 (IntKind.wrap .i64 (v3 + (intD (fieldD ((elemsD x0).getD (v18).toNat .nil) 1)))) v4 (IntKind.wrap .i64 (v18 + 1))
      else bif (!(addOK v3 (intD (fieldD ((elemsD x0).getD (v18).toNat .nil) 1)))) then
          t61_lp7 Tryz.prog Tryz.f61 N n x0 (IntKind.wrap .i64 (v3 + (intD (fieldD ((elemsD x0).getD (v18).toNat .nil) 1)))) (IntKind.wrap .i64 (v4 - 1)) (IntKind.wrap .i64 (v18 + 1))
        else t61_lp7 Tryz.prog Tryz.f61 N n x0 (IntKind.wrap .i64 (v3 + (intD (fieldD ((elemsD x0).getD (v18).toNat .nil) 1)))) v4 (IntKind.wrap .i64 (v18 + 1))
    else none
  else bif (v4 != 0) then
      some (dat 34 (.agg [.lit (.int .i64 2), .lit (.int .i64 0)]))
    else some (dat 34 (.agg [.lit (.int .i64 0), .lit (.int .i64 v3)])) := by kernel_rfl
theorem t61 (N : Nat) (x0 : D) : evFn Tryz.prog (envOf T4) t61_h N Tryz.f61 [dat 46 x0] =
  bif (elemsD x0).any isErr then
    some (dat 34 (.agg [.lit (.int .i64 2), .lit (.int .i64 0)]))
  else bif (!((elemsD x0).any isNum)) then
      some (dat 34 (.agg [.lit (.int .i64 1), .lit (.int .i64 0)]))
    else t61_lp7 Tryz.prog Tryz.f61 N N x0 0 0 0 := by kernel_rfl

/- roadbook/val.reckon -/
def t109_86_h : Hints := fun _ =>  none
theorem t109_86 (N : Nat) (x1 : D) (x2 : D) : evFn Tryz.prog (envOf T5) t109_86_h N Tryz.f109 [dat 115 (.held (.func (.func 86) #[] #[])), dat 34 x1, dat 34 x2] =
  bif (!(isNum (ifNum 0 [x1, x2]))) then
    some (dat 34 (ifNum 0 [x1, x2]))
  else bif (!(addOK (intD (fieldD x1 1)) (intD (fieldD x2 1)))) then
      some (dat 34 (.agg [.lit (.int .i64 2), .lit (.int .i64 0)]))
    else some (dat 34 (.agg [.lit (.int .i64 0), .lit (.int .i64 (IntKind.wrap .i64 ((intD (fieldD x1 1)) + (intD (fieldD x2 1)))))])) := by kernel_rfl

/- roadbook/val.reckon -/
def t109_110_h : Hints := fun _ =>  none
theorem t109_110 (N : Nat) (x1 : D) (x2 : D) : evFn Tryz.prog (envOf T5) t109_110_h N Tryz.f109 [dat 115 (.held (.func (.func 110) #[] #[])), dat 34 x1, dat 34 x2] =
  bif (!(isNum (ifNum 0 [x1, x2]))) then
    some (dat 34 (ifNum 0 [x1, x2]))
  else bif (!(subOK (intD (fieldD x1 1)) (intD (fieldD x2 1)))) then
      some (dat 34 (.agg [.lit (.int .i64 2), .lit (.int .i64 0)]))
    else some (dat 34 (.agg [.lit (.int .i64 0), .lit (.int .i64 (IntKind.wrap .i64 ((intD (fieldD x1 1)) - (intD (fieldD x2 1)))))])) := by kernel_rfl

/- roadbook/val.reckon -/
def t109_111_h : Hints := fun _ =>  none
theorem t109_111 (N : Nat) (x1 : D) (x2 : D) : evFn Tryz.prog (envOf T5) t109_111_h N Tryz.f109 [dat 115 (.held (.func (.func 111) #[] #[])), dat 34 x1, dat 34 x2] =
  bif (!(isNum (ifNum 0 [x1, x2]))) then
    some (dat 34 (ifNum 0 [x1, x2]))
  else bif (!(mulOK (intD (fieldD x1 1)) (intD (fieldD x2 1)))) then
      some (dat 34 (.agg [.lit (.int .i64 2), .lit (.int .i64 0)]))
    else some (dat 34 (.agg [.lit (.int .i64 0), .lit (.int .i64 (IntKind.wrap .i64 ((intD (fieldD x1 1)) * (intD (fieldD x2 1)))))])) := by kernel_rfl

/- roadbook/val.reckon -/
def t109_112_h : Hints := fun _ =>  none
theorem t109_112 (N : Nat) (x1 : D) (x2 : D) : evFn Tryz.prog (envOf T5) t109_112_h N Tryz.f109 [dat 115 (.held (.func (.func 112) #[] #[])), dat 34 x1, dat 34 x2] =
  bif (!(isNum (ifNum 0 [x1, x2]))) then
    some (dat 34 (ifNum 0 [x1, x2]))
  else bif (!(divOK (intD (fieldD x1 1)) (intD (fieldD x2 1)))) then
      some (dat 34 (.agg [.lit (.int .i64 2), .lit (.int .i64 0)]))
    else some (dat 34 (.agg [.lit (.int .i64 0), .lit (.int .i64 (divV (intD (fieldD x1 1)) (intD (fieldD x2 1))))])) := by kernel_rfl

/- roadbook/val.Eq -/
def t97_h : Hints := fun _ =>  none
theorem t97 (N : Nat) (x0 : D) (x1 : D) : evFn Tryz.prog (envOf T5) t97_h N Tryz.f97 [dat 34 x0, dat 34 x1] =
  some (dat 34 (ifNum (truthI ((intD (fieldD x0 1)) == (intD (fieldD x1 1)))) [x0, x1])) := by kernel_rfl

/- roadbook/val.Lt -/
def t98_h : Hints := fun _ =>  none
theorem t98 (N : Nat) (x0 : D) (x1 : D) : evFn Tryz.prog (envOf T5) t98_h N Tryz.f98 [dat 34 x0, dat 34 x1] =
  some (dat 34 (ifNum (truthI (decide ((intD (fieldD x0 1)) < (intD (fieldD x1 1))))) [x0, x1])) := by kernel_rfl

/- roadbook/val.And -/
def t99_h : Hints := fun _ =>  none
theorem t99 (N : Nat) (x0 : D) : evFn Tryz.prog (envOf T5) t99_h N Tryz.f99 [dat 46 x0] =
  bif (elemsD x0).any isFal then
    some (dat 34 (.agg [.lit (.int .i64 0), .lit (.int .i64 0)]))
  else some (dat 34 (ifNum 1 (elemsD x0))) := by kernel_rfl

/- roadbook/val.Or -/
def t100_h : Hints := fun _ =>  none
theorem t100 (N : Nat) (x0 : D) : evFn Tryz.prog (envOf T5) t100_h N Tryz.f100 [dat 46 x0] =
  bif (elemsD x0).any isTru then
    some (dat 34 (.agg [.lit (.int .i64 0), .lit (.int .i64 1)]))
  else some (dat 34 (ifNum 0 (elemsD x0))) := by kernel_rfl

/- roadbook/val.Not -/
def t101_h : Hints := fun _ =>  none
theorem t101 (N : Nat) (x0 : D) : evFn Tryz.prog (envOf T5) t101_h N Tryz.f101 [dat 34 x0] =
  some (dat 34 (ifNum (truthI (isFal x0)) [x0])) := by kernel_rfl

/- roadbook/val.Add -/
def t93_h : Hints := fun _ =>  none
theorem t93 (N : Nat) (x0 : D) (x1 : D) : evFn Tryz.prog (envOf T6) t93_h N Tryz.f93 [dat 34 x0, dat 34 x1] =
  some (dat 34 (addD x0 x1)) := by kernel_rfl

/- roadbook/val.Sub -/
def t94_h : Hints := fun _ =>  none
theorem t94 (N : Nat) (x0 : D) (x1 : D) : evFn Tryz.prog (envOf T6) t94_h N Tryz.f94 [dat 34 x0, dat 34 x1] =
  some (dat 34 (subD x0 x1)) := by kernel_rfl

/- roadbook/val.Mul -/
def t95_h : Hints := fun _ =>  none
theorem t95 (N : Nat) (x0 : D) (x1 : D) : evFn Tryz.prog (envOf T6) t95_h N Tryz.f95 [dat 34 x0, dat 34 x1] =
  some (dat 34 (mulD x0 x1)) := by kernel_rfl

/- roadbook/val.Div -/
def t96_h : Hints := fun _ =>  none
theorem t96 (N : Nat) (x0 : D) (x1 : D) : evFn Tryz.prog (envOf T6) t96_h N Tryz.f96 [dat 34 x0, dat 34 x1] =
  some (dat 34 (divD x0 x1)) := by kernel_rfl

end Go.Proofs.YtmopepjahjmdeaaGreat
