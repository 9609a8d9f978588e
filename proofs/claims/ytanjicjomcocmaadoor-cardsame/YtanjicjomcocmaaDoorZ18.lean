/- Trees of functions, and lemmas. Nothing here is trusted. -/
import Derived.Test.YtanjicjomcocmaaDoorZ17
import Derived.Test.YtanjicjomcocmaaDoorRows
namespace Go.Proofs.YtanjicjomcocmaaDoor
open Go.Ev
set_option linter.unusedVariables false
def T0 : Tab := []
def e55 : FuncId × TypeId × (List AV -> Bool) × (List AV -> Option D) := (55, 4, yes, ent [38] (f1 (fun x => some (.lit (.bool (mayB x))))))
def e56 : FuncId × TypeId × (List AV -> Bool) × (List AV -> Option D) := (56, 38, yes, ent [3] (f1 (fun x => some (.agg [.lit (.int .i64 0), .lit (.int .i64 (intD x))]))))
def e98 : FuncId × TypeId × (List AV -> Bool) × (List AV -> Option D) := (98, 38, yes, ent [] (f0 (some (.agg [.lit (.int .i64 2), .lit (.int .i64 0)]))))
def e92 : FuncId × TypeId × (List AV -> Bool) × (List AV -> Option D) := (92, 3, yes, ent [4] (f1 (fun x => some (.lit (.int .i64 (truthI (boolD x)))))))
def e95 : FuncId × TypeId × (List AV -> Bool) × (List AV -> Option D) := (95, 4, yes, ent [38] (f1 (fun x => some (.lit (.bool (isTru x))))))
def e87 : FuncId × TypeId × (List AV -> Bool) × (List AV -> Option D) := (87, 96, yes, ent [3, 3] (f2 (fun x y => some (.agg [.lit (.int .i64 (IntKind.wrap .i64 ((intD x) + (intD y)))), .lit (.bool (addOK (intD x) (intD y)))]))))
def e88 : FuncId × TypeId × (List AV -> Bool) × (List AV -> Option D) := (88, 96, yes, ent [3, 3] (f2 (fun x y => some (.agg [.lit (.int .i64 (IntKind.wrap .i64 ((intD x) - (intD y)))), .lit (.bool (subOK (intD x) (intD y)))]))))
def e89 : FuncId × TypeId × (List AV -> Bool) × (List AV -> Option D) := (89, 96, yes, ent [3, 3] (f2 (fun x y => some (.agg [.lit (.int .i64 (IntKind.wrap .i64 ((intD x) * (intD y)))), .lit (.bool (mulOK (intD x) (intD y)))]))))
def e90 : FuncId × TypeId × (List AV -> Bool) × (List AV -> Option D) := (90, 96, yes, ent [3, 3] (f2 (fun x y => some (.agg [.lit (.int .i64 (divV (intD x) (intD y))), .lit (.bool (divOK (intD x) (intD y)))]))))
def e97 : FuncId × TypeId × (List AV -> Bool) × (List AV -> Option D) := (97, 4, yes, ent [38] (f1 (fun x => some (.lit (.bool (isNum x))))))
def T1 : Tab := e55 :: e56 :: e98 :: e92 :: e95 :: e87 :: e88 :: e89 :: e90 :: e97 :: T0
def e101 : FuncId × TypeId × (List AV -> Bool) × (List AV -> Option D) := (101, 38, yes, ent [38] (f1 (fun x => some (readD x))))
def e94 : FuncId × TypeId × (List AV -> Bool) × (List AV -> Option D) := (94, 4, yes, ent [38] (f1 (fun x => some (.lit (.bool (isFal x))))))
def T2 : Tab := e101 :: e94 :: T1
def e99 : FuncId × TypeId × (List AV -> Bool) × (List AV -> Option D) := (99, 4, yes, ent [38] (f1 (fun x => some (.lit (.bool (isErr x))))))
def e100 : FuncId × TypeId × (List AV -> Bool) × (List AV -> Option D) := (100, 4, yes, ent [38] (f1 (fun x => some (.lit (.bool (isNul x))))))
def T3 : Tab := e99 :: e100 :: T2
def e93 : FuncId × TypeId × (List AV -> Bool) × (List AV -> Option D) := (93, 4, yes, ent [58, 81] (f2 fun x y => match fnD y with | some 94 => some (.lit (.bool ((elemsD x).any isFal))) | some 95 => some (.lit (.bool ((elemsD x).any isTru))) | some 99 => some (.lit (.bool ((elemsD x).any isErr))) | some 97 => some (.lit (.bool ((elemsD x).any isNum))) | some 100 => some (.lit (.bool ((elemsD x).any isNul))) | _ => none))
def T4 : Tab := e93 :: T3
def e91 : FuncId × TypeId × (List AV -> Bool) × (List AV -> Option D) := (91, 38, yes, ent [3, 58] (f2 (fun x y => some (ifNum (intD x) (elemsD y)))))
def T5 : Tab := e91 :: T4
def e86 : FuncId × TypeId × (List AV -> Bool) × (List AV -> Option D) := (86, 38, yes, ent [110, 38, 38] (f3 fun x y z => match fnD x with | some 87 => some (addD y z) | some 88 => some (subD y z) | some 89 => some (mulD y z) | some 90 => some (divD y z) | _ => none))
def e75 : FuncId × TypeId × (List AV -> Bool) × (List AV -> Option D) := (75, 38, yes, ent [38, 38] (f2 (fun x y => some (eqV x y))))
def e76 : FuncId × TypeId × (List AV -> Bool) × (List AV -> Option D) := (76, 38, yes, ent [38, 38] (f2 (fun x y => some (ltV x y))))
def e77 : FuncId × TypeId × (List AV -> Bool) × (List AV -> Option D) := (77, 38, yes, ent [58] (f1 (fun x => some (andD (elemsD x)))))
def e78 : FuncId × TypeId × (List AV -> Bool) × (List AV -> Option D) := (78, 38, yes, ent [58] (f1 (fun x => some (orD (elemsD x)))))
def e79 : FuncId × TypeId × (List AV -> Bool) × (List AV -> Option D) := (79, 38, yes, ent [38] (f1 (fun x => some (notD x))))
def T6 : Tab := e86 :: e75 :: e76 :: e77 :: e78 :: e79 :: T5
def e71 : FuncId × TypeId × (List AV -> Bool) × (List AV -> Option D) := (71, 38, yes, ent [38, 38] (f2 (fun x y => some (addD x y))))
def e72 : FuncId × TypeId × (List AV -> Bool) × (List AV -> Option D) := (72, 38, yes, ent [38, 38] (f2 (fun x y => some (subD x y))))
def e73 : FuncId × TypeId × (List AV -> Bool) × (List AV -> Option D) := (73, 38, yes, ent [38, 38] (f2 (fun x y => some (mulD x y))))
def e74 : FuncId × TypeId × (List AV -> Bool) × (List AV -> Option D) := (74, 38, yes, ent [38, 38] (f2 (fun x y => some (divD x y))))
def T7 : Tab := e71 :: e72 :: e73 :: e74 :: T6
def T8 : Tab := T7
/- roadbook/val.May -/
def t55_h : Hints := fun _ =>  none
theorem t55 (N : Nat) (x0 : D) : evFn Tryd.prog (envOf T0) t55_h N Tryd.f55 [dat 38 x0] =
 bif (((intD (fieldD x0 0)) == 0) == false) then
  bif (((intD (fieldD x0 0)) == 1) == false) then
   bif (((intD (fieldD x0 0)) == 2) == true) then
    some (dat 4 (.lit (.bool ((intD (fieldD x0 1)) == 0))))
   else some (dat 4 (.lit (.bool false)))
  else some (dat 4 (.lit (.bool ((intD (fieldD x0 1)) == 0))))
 else some (dat 4 (.lit (.bool true))) := by kernel_rfl

/- roadbook/val.Of -/
def t56_h : Hints := fun _ =>  none
theorem t56 (N : Nat) (x0 : Int) : evFn Tryd.prog (envOf T0) t56_h N Tryd.f56 [dat 3 (.lit (.int .i64 x0))] =
 some (dat 38 (.agg [.lit (.int .i64 0), .lit (.int .i64 x0)])) := by kernel_rfl

/- roadbook/val.fault -/
def t98_h : Hints := fun _ =>  none
theorem t98 (N : Nat)  : evFn Tryd.prog (envOf T0) t98_h N Tryd.f98 [] =
 some (dat 38 (.agg [.lit (.int .i64 2), .lit (.int .i64 0)])) := by kernel_rfl

/- roadbook/val.truth -/
def t92_h : Hints := fun _ =>  none
theorem t92 (N : Nat) (x0 : Bool) : evFn Tryd.prog (envOf T0) t92_h N Tryd.f92 [dat 4 (.lit (.bool x0))] =
 bif x0 then
  some (dat 3 (.lit (.int .i64 1)))
 else some (dat 3 (.lit (.int .i64 0))) := by kernel_rfl

/- roadbook/val.True -/
def t95_h : Hints := fun _ =>  none
theorem t95 (N : Nat) (x0 : D) : evFn Tryd.prog (envOf T0) t95_h N Tryd.f95 [dat 38 x0] =
 bif (((intD (fieldD x0 0)) == 0) == true) then
  some (dat 4 (.lit (.bool ((intD (fieldD x0 1)) != 0))))
 else some (dat 4 (.lit (.bool false))) := by kernel_rfl

/- roadbook/val.plus -/
def t87_h : Hints := fun _ =>  none
theorem t87 (N : Nat) (x0 : Int) (x1 : Int) : evFn Tryd.prog (envOf T0) t87_h N Tryd.f87 [dat 3 (.lit (.int .i64 x0)), dat 3 (.lit (.int .i64 x1))] =
 some (tupA [3, 4] (.agg [.lit (.int .i64 (IntKind.wrap .i64 (x0 + x1))), .lit (.bool ((decide ((IntKind.wrap .i64 (x0 + x1)) < x0)) == (decide (x1 < 0))))])) := by kernel_rfl

/- roadbook/val.minus -/
def t88_h : Hints := fun _ =>  none
theorem t88 (N : Nat) (x0 : Int) (x1 : Int) : evFn Tryd.prog (envOf T0) t88_h N Tryd.f88 [dat 3 (.lit (.int .i64 x0)), dat 3 (.lit (.int .i64 x1))] =
 some (tupA [3, 4] (.agg [.lit (.int .i64 (IntKind.wrap .i64 (x0 - x1))), .lit (.bool ((decide ((IntKind.wrap .i64 (x0 - x1)) > x0)) == (decide (x1 < 0))))])) := by kernel_rfl

/- roadbook/val.times -/
def t89_h : Hints := fun _ =>  none
theorem t89 (N : Nat) (x0 : Int) (x1 : Int) : evFn Tryd.prog (envOf T0) t89_h N Tryd.f89 [dat 3 (.lit (.int .i64 x0)), dat 3 (.lit (.int .i64 x1))] =
 bif (x0 == 0) then
  some (tupA [3, 4] (.agg [.lit (.int .i64 (IntKind.wrap .i64 (x0 * x1))), .lit (.bool true)]))
 else bif (x0 == (-1)) then
   some (tupA [3, 4] (.agg [.lit (.int .i64 (IntKind.wrap .i64 (x0 * x1))), .lit (.bool (x1 != (-9223372036854775808)))]))
  else bif (!(x0 == 0)) then
    some (tupA [3, 4] (.agg [.lit (.int .i64 (IntKind.wrap .i64 (x0 * x1))), .lit (.bool ((IntKind.wrap .i64 (Int.tdiv (IntKind.wrap .i64 (x0 * x1)) x0)) == x1))]))
   else none := by kernel_rfl

/- roadbook/val.over -/
def t90_h : Hints := fun _ =>  none
theorem t90 (N : Nat) (x0 : Int) (x1 : Int) : evFn Tryd.prog (envOf T0) t90_h N Tryd.f90 [dat 3 (.lit (.int .i64 x0)), dat 3 (.lit (.int .i64 x1))] =
 bif ((x1 == 0) == false) then
  bif ((x0 == (-9223372036854775808)) == true) then
   bif (x1 == (-1)) then
    some (tupA [3, 4] (.agg [.lit (.int .i64 0), .lit (.bool false)]))
   else bif (!(x1 == 0)) then
     some (tupA [3, 4] (.agg [.lit (.int .i64 (IntKind.wrap .i64 (Int.tdiv x0 x1))), .lit (.bool true)]))
    else none
  else bif (!(x1 == 0)) then
    some (tupA [3, 4] (.agg [.lit (.int .i64 (IntKind.wrap .i64 (Int.tdiv x0 x1))), .lit (.bool true)]))
   else none
 else some (tupA [3, 4] (.agg [.lit (.int .i64 0), .lit (.bool false)])) := by kernel_rfl

/- roadbook/val.isNumber -/
def t97_h : Hints := fun _ =>  none
theorem t97 (N : Nat) (x0 : D) : evFn Tryd.prog (envOf T0) t97_h N Tryd.f97 [dat 38 x0] =
 some (dat 4 (.lit (.bool ((intD (fieldD x0 0)) == 0)))) := by kernel_rfl

/- roadbook/val.read -/
def t101_h : Hints := fun _ =>  none
theorem t101 (N : Nat) (x0 : D) : evFn Tryd.prog (envOf T1) t101_h N Tryd.f101 [dat 38 x0] =
 bif mayB x0 then
  some (dat 38 x0)
 else some (dat 38 (.agg [.lit (.int .i64 2), .lit (.int .i64 0)])) := by kernel_rfl

/- roadbook/val.isFalse -/
def t94_h : Hints := fun _ =>  none
theorem t94 (N : Nat) (x0 : D) : evFn Tryd.prog (envOf T1) t94_h N Tryd.f94 [dat 38 x0] =
 some (dat 4 (.lit (.bool (((intD (fieldD x0 0)) == 0) && (((intD (fieldD x0 1)) == 0) && true))))) := by kernel_rfl

/- roadbook/val.isError -/
def t99_h : Hints := fun _ =>  none
theorem t99 (N : Nat) (x0 : D) : evFn Tryd.prog (envOf T2) t99_h N Tryd.f99 [dat 38 x0] =
 some (dat 4 (.lit (.bool ((intD (fieldD (readD x0) 0)) == 2)))) := by kernel_rfl

/- roadbook/val.isNothing -/
def t100_h : Hints := fun _ =>  none
theorem t100 (N : Nat) (x0 : D) : evFn Tryd.prog (envOf T2) t100_h N Tryd.f100 [dat 38 x0] =
 some (dat 4 (.lit (.bool ((intD (fieldD (readD x0) 0)) == 1)))) := by kernel_rfl

/- roadbook/val.some[roadbook/api.Val] -/
def t93_94_h : Hints := fun i => if i = 2 then some ([0, 2, 3, 4, 5, 6, 10, 11, 12, 13, 14, 15, 16], [], []) else none
def t93_94_lp2 (P : Program) (fn : Func) (N n : Nat) (x0 : D) (v9 : Int) : Option AV := evLoop (preL t93_94_h (sub [1, 0, 1, 0, 0] (bodyOf fn))) (evCode P (envOf T3) t93_94_h N (sub [1, 0, 1, 0, 0] (bodyOf fn))) n ⟨[dead, dat 81 (.held (.func (.func 94) #[] #[])), dead, dead, dead, dead, dead, dat 58 x0, dat 3 (.lit (.int .i64 ((elemsD x0).length : Int))), dat 3 (.lit (.int .i64 v9)), dead, dead, dead, dead, dead, dead, dead], lookB []⟩ (blockK 0 (seqC P (envOf T3) t93_94_h N (sub [1, 1] (bodyOf fn)) (finK P fn) ))
theorem t93_94_lp2_step (N n : Nat) (x0 : D) (v9 : Int) : t93_94_lp2 Tryd.prog Tryd.f93 N (n + 1) x0 v9 =
 bif decide (v9 < ((elemsD x0).length : Int)) then
  bif (decide (0 <= v9) && decide (v9 < ((elemsD x0).length : Int))) then
   bif isFal ((elemsD x0).getD (v9).toNat .nil) then
    some (dat 4 (.lit (.bool true)))
   else t93_94_lp2 Tryd.prog Tryd.f93 N n x0 (IntKind.wrap .i64 (v9 + 1))
  else none
 else some (dat 4 (.lit (.bool false))) := by kernel_rfl
theorem t93_94 (N : Nat) (x0 : D) : evFn Tryd.prog (envOf T3) t93_94_h N Tryd.f93 [dat 58 x0, dat 81 (.held (.func (.func 94) #[] #[]))] =
 t93_94_lp2 Tryd.prog Tryd.f93 N N x0 0 := by kernel_rfl

/- roadbook/val.some[roadbook/api.Val] -/
def t93_95_h : Hints := fun i => if i = 2 then some ([0, 2, 3, 4, 5, 6, 10, 11, 12, 13, 14, 15, 16], [], []) else none
def t93_95_lp2 (P : Program) (fn : Func) (N n : Nat) (x0 : D) (v9 : Int) : Option AV := evLoop (preL t93_95_h (sub [1, 0, 1, 0, 0] (bodyOf fn))) (evCode P (envOf T3) t93_95_h N (sub [1, 0, 1, 0, 0] (bodyOf fn))) n ⟨[dead, dat 81 (.held (.func (.func 95) #[] #[])), dead, dead, dead, dead, dead, dat 58 x0, dat 3 (.lit (.int .i64 ((elemsD x0).length : Int))), dat 3 (.lit (.int .i64 v9)), dead, dead, dead, dead, dead, dead, dead], lookB []⟩ (blockK 0 (seqC P (envOf T3) t93_95_h N (sub [1, 1] (bodyOf fn)) (finK P fn) ))
theorem t93_95_lp2_step (N n : Nat) (x0 : D) (v9 : Int) : t93_95_lp2 Tryd.prog Tryd.f93 N (n + 1) x0 v9 =
 bif decide (v9 < ((elemsD x0).length : Int)) then
  bif (decide (0 <= v9) && decide (v9 < ((elemsD x0).length : Int))) then
   bif isTru ((elemsD x0).getD (v9).toNat .nil) then
    some (dat 4 (.lit (.bool true)))
   else t93_95_lp2 Tryd.prog Tryd.f93 N n x0 (IntKind.wrap .i64 (v9 + 1))
  else none
 else some (dat 4 (.lit (.bool false))) := by kernel_rfl
theorem t93_95 (N : Nat) (x0 : D) : evFn Tryd.prog (envOf T3) t93_95_h N Tryd.f93 [dat 58 x0, dat 81 (.held (.func (.func 95) #[] #[]))] =
 t93_95_lp2 Tryd.prog Tryd.f93 N N x0 0 := by kernel_rfl

/- roadbook/val.some[roadbook/api.Val] -/
def t93_99_h : Hints := fun i => if i = 2 then some ([0, 2, 3, 4, 5, 6, 10, 11, 12, 13, 14, 15, 16], [], []) else none
def t93_99_lp2 (P : Program) (fn : Func) (N n : Nat) (x0 : D) (v9 : Int) : Option AV := evLoop (preL t93_99_h (sub [1, 0, 1, 0, 0] (bodyOf fn))) (evCode P (envOf T3) t93_99_h N (sub [1, 0, 1, 0, 0] (bodyOf fn))) n ⟨[dead, dat 81 (.held (.func (.func 99) #[] #[])), dead, dead, dead, dead, dead, dat 58 x0, dat 3 (.lit (.int .i64 ((elemsD x0).length : Int))), dat 3 (.lit (.int .i64 v9)), dead, dead, dead, dead, dead, dead, dead], lookB []⟩ (blockK 0 (seqC P (envOf T3) t93_99_h N (sub [1, 1] (bodyOf fn)) (finK P fn) ))
theorem t93_99_lp2_step (N n : Nat) (x0 : D) (v9 : Int) : t93_99_lp2 Tryd.prog Tryd.f93 N (n + 1) x0 v9 =
 bif decide (v9 < ((elemsD x0).length : Int)) then
  bif (decide (0 <= v9) && decide (v9 < ((elemsD x0).length : Int))) then
   bif isErr ((elemsD x0).getD (v9).toNat .nil) then
    some (dat 4 (.lit (.bool true)))
   else t93_99_lp2 Tryd.prog Tryd.f93 N n x0 (IntKind.wrap .i64 (v9 + 1))
  else none
 else some (dat 4 (.lit (.bool false))) := by kernel_rfl
theorem t93_99 (N : Nat) (x0 : D) : evFn Tryd.prog (envOf T3) t93_99_h N Tryd.f93 [dat 58 x0, dat 81 (.held (.func (.func 99) #[] #[]))] =
 t93_99_lp2 Tryd.prog Tryd.f93 N N x0 0 := by kernel_rfl

/- roadbook/val.some[roadbook/api.Val] -/
def t93_97_h : Hints := fun i => if i = 2 then some ([0, 2, 3, 4, 5, 6, 10, 11, 12, 13, 14, 15, 16], [], []) else none
def t93_97_lp2 (P : Program) (fn : Func) (N n : Nat) (x0 : D) (v9 : Int) : Option AV := evLoop (preL t93_97_h (sub [1, 0, 1, 0, 0] (bodyOf fn))) (evCode P (envOf T3) t93_97_h N (sub [1, 0, 1, 0, 0] (bodyOf fn))) n ⟨[dead, dat 81 (.held (.func (.func 97) #[] #[])), dead, dead, dead, dead, dead, dat 58 x0, dat 3 (.lit (.int .i64 ((elemsD x0).length : Int))), dat 3 (.lit (.int .i64 v9)), dead, dead, dead, dead, dead, dead, dead], lookB []⟩ (blockK 0 (seqC P (envOf T3) t93_97_h N (sub [1, 1] (bodyOf fn)) (finK P fn) ))
theorem t93_97_lp2_step (N n : Nat) (x0 : D) (v9 : Int) : t93_97_lp2 Tryd.prog Tryd.f93 N (n + 1) x0 v9 =
 bif decide (v9 < ((elemsD x0).length : Int)) then
  bif (decide (0 <= v9) && decide (v9 < ((elemsD x0).length : Int))) then
   bif isNum ((elemsD x0).getD (v9).toNat .nil) then
    some (dat 4 (.lit (.bool true)))
   else t93_97_lp2 Tryd.prog Tryd.f93 N n x0 (IntKind.wrap .i64 (v9 + 1))
  else none
 else some (dat 4 (.lit (.bool false))) := by kernel_rfl
theorem t93_97 (N : Nat) (x0 : D) : evFn Tryd.prog (envOf T3) t93_97_h N Tryd.f93 [dat 58 x0, dat 81 (.held (.func (.func 97) #[] #[]))] =
 t93_97_lp2 Tryd.prog Tryd.f93 N N x0 0 := by kernel_rfl

/- roadbook/val.some[roadbook/api.Val] -/
def t93_100_h : Hints := fun i => if i = 2 then some ([0, 2, 3, 4, 5, 6, 10, 11, 12, 13, 14, 15, 16], [], []) else none
def t93_100_lp2 (P : Program) (fn : Func) (N n : Nat) (x0 : D) (v9 : Int) : Option AV := evLoop (preL t93_100_h (sub [1, 0, 1, 0, 0] (bodyOf fn))) (evCode P (envOf T3) t93_100_h N (sub [1, 0, 1, 0, 0] (bodyOf fn))) n ⟨[dead, dat 81 (.held (.func (.func 100) #[] #[])), dead, dead, dead, dead, dead, dat 58 x0, dat 3 (.lit (.int .i64 ((elemsD x0).length : Int))), dat 3 (.lit (.int .i64 v9)), dead, dead, dead, dead, dead, dead, dead], lookB []⟩ (blockK 0 (seqC P (envOf T3) t93_100_h N (sub [1, 1] (bodyOf fn)) (finK P fn) ))
theorem t93_100_lp2_step (N n : Nat) (x0 : D) (v9 : Int) : t93_100_lp2 Tryd.prog Tryd.f93 N (n + 1) x0 v9 =
 bif decide (v9 < ((elemsD x0).length : Int)) then
  bif (decide (0 <= v9) && decide (v9 < ((elemsD x0).length : Int))) then
   bif isNul ((elemsD x0).getD (v9).toNat .nil) then
    some (dat 4 (.lit (.bool true)))
   else t93_100_lp2 Tryd.prog Tryd.f93 N n x0 (IntKind.wrap .i64 (v9 + 1))
  else none
 else some (dat 4 (.lit (.bool false))) := by kernel_rfl
theorem t93_100 (N : Nat) (x0 : D) : evFn Tryd.prog (envOf T3) t93_100_h N Tryd.f93 [dat 58 x0, dat 81 (.held (.func (.func 100) #[] #[]))] =
 t93_100_lp2 Tryd.prog Tryd.f93 N N x0 0 := by kernel_rfl

/- roadbook/val.ifNumbers -/
def t91_h : Hints := fun _ =>  none
theorem t91 (N : Nat) (x0 : Int) (x1 : D) : evFn Tryd.prog (envOf T4) t91_h N Tryd.f91 [dat 3 (.lit (.int .i64 x0)), dat 58 x1] =
 bif (elemsD x1).any isErr then
  some (dat 38 (.agg [.lit (.int .i64 2), .lit (.int .i64 0)]))
 else bif (elemsD x1).any isNul then
   some (dat 38 (.agg [.lit (.int .i64 1), .lit (.int .i64 0)]))
  else some (dat 38 (.agg [.lit (.int .i64 0), .lit (.int .i64 x0)])) := by kernel_rfl

/- roadbook/val.reckon -/
def t86_87_h : Hints := fun _ =>  none
theorem t86_87 (N : Nat) (x1 : D) (x2 : D) : evFn Tryd.prog (envOf T5) t86_87_h N Tryd.f86 [dat 110 (.held (.func (.func 87) #[] #[])), dat 38 x1, dat 38 x2] =
 bif (!(isNum (ifNum 0 [x1, x2]))) then
  some (dat 38 (ifNum 0 [x1, x2]))
 else bif (!(addOK (intD (fieldD x1 1)) (intD (fieldD x2 1)))) then
   some (dat 38 (.agg [.lit (.int .i64 2), .lit (.int .i64 0)]))
  else some (dat 38 (.agg [.lit (.int .i64 0), .lit (.int .i64 (IntKind.wrap .i64 ((intD (fieldD x1 1)) + (intD (fieldD x2 1)))))])) := by kernel_rfl

/- roadbook/val.reckon -/
def t86_88_h : Hints := fun _ =>  none
theorem t86_88 (N : Nat) (x1 : D) (x2 : D) : evFn Tryd.prog (envOf T5) t86_88_h N Tryd.f86 [dat 110 (.held (.func (.func 88) #[] #[])), dat 38 x1, dat 38 x2] =
 bif (!(isNum (ifNum 0 [x1, x2]))) then
  some (dat 38 (ifNum 0 [x1, x2]))
 else bif (!(subOK (intD (fieldD x1 1)) (intD (fieldD x2 1)))) then
   some (dat 38 (.agg [.lit (.int .i64 2), .lit (.int .i64 0)]))
  else some (dat 38 (.agg [.lit (.int .i64 0), .lit (.int .i64 (IntKind.wrap .i64 ((intD (fieldD x1 1)) - (intD (fieldD x2 1)))))])) := by kernel_rfl

/- roadbook/val.reckon -/
def t86_89_h : Hints := fun _ =>  none
theorem t86_89 (N : Nat) (x1 : D) (x2 : D) : evFn Tryd.prog (envOf T5) t86_89_h N Tryd.f86 [dat 110 (.held (.func (.func 89) #[] #[])), dat 38 x1, dat 38 x2] =
 bif (!(isNum (ifNum 0 [x1, x2]))) then
  some (dat 38 (ifNum 0 [x1, x2]))
 else bif (!(mulOK (intD (fieldD x1 1)) (intD (fieldD x2 1)))) then
   some (dat 38 (.agg [.lit (.int .i64 2), .lit (.int .i64 0)]))
  else some (dat 38 (.agg [.lit (.int .i64 0), .lit (.int .i64 (IntKind.wrap .i64 ((intD (fieldD x1 1)) * (intD (fieldD x2 1)))))])) := by kernel_rfl

/- roadbook/val.reckon -/
def t86_90_h : Hints := fun _ =>  none
theorem t86_90 (N : Nat) (x1 : D) (x2 : D) : evFn Tryd.prog (envOf T5) t86_90_h N Tryd.f86 [dat 110 (.held (.func (.func 90) #[] #[])), dat 38 x1, dat 38 x2] =
 bif (!(isNum (ifNum 0 [x1, x2]))) then
  some (dat 38 (ifNum 0 [x1, x2]))
 else bif (!(divOK (intD (fieldD x1 1)) (intD (fieldD x2 1)))) then
   some (dat 38 (.agg [.lit (.int .i64 2), .lit (.int .i64 0)]))
  else some (dat 38 (.agg [.lit (.int .i64 0), .lit (.int .i64 (divV (intD (fieldD x1 1)) (intD (fieldD x2 1))))])) := by kernel_rfl

/- roadbook/val.Eq -/
def t75_h : Hints := fun _ =>  none
theorem t75 (N : Nat) (x0 : D) (x1 : D) : evFn Tryd.prog (envOf T5) t75_h N Tryd.f75 [dat 38 x0, dat 38 x1] =
 some (dat 38 (ifNum (truthI ((intD (fieldD x0 1)) == (intD (fieldD x1 1)))) [x0, x1])) := by kernel_rfl

/- roadbook/val.Lt -/
def t76_h : Hints := fun _ =>  none
theorem t76 (N : Nat) (x0 : D) (x1 : D) : evFn Tryd.prog (envOf T5) t76_h N Tryd.f76 [dat 38 x0, dat 38 x1] =
 some (dat 38 (ifNum (truthI (decide ((intD (fieldD x0 1)) < (intD (fieldD x1 1))))) [x0, x1])) := by kernel_rfl

/- roadbook/val.And -/
def t77_h : Hints := fun _ =>  none
theorem t77 (N : Nat) (x0 : D) : evFn Tryd.prog (envOf T5) t77_h N Tryd.f77 [dat 58 x0] =
 bif (elemsD x0).any isFal then
  some (dat 38 (.agg [.lit (.int .i64 0), .lit (.int .i64 0)]))
 else some (dat 38 (ifNum 1 (elemsD x0))) := by kernel_rfl

/- roadbook/val.Or -/
def t78_h : Hints := fun _ =>  none
theorem t78 (N : Nat) (x0 : D) : evFn Tryd.prog (envOf T5) t78_h N Tryd.f78 [dat 58 x0] =
 bif (elemsD x0).any isTru then
  some (dat 38 (.agg [.lit (.int .i64 0), .lit (.int .i64 1)]))
 else some (dat 38 (ifNum 0 (elemsD x0))) := by kernel_rfl

/- roadbook/val.Not -/
def t79_h : Hints := fun _ =>  none
theorem t79 (N : Nat) (x0 : D) : evFn Tryd.prog (envOf T5) t79_h N Tryd.f79 [dat 38 x0] =
 some (dat 38 (ifNum (truthI (isFal x0)) [x0])) := by kernel_rfl

/- roadbook/val.Add -/
def t71_h : Hints := fun _ =>  none
theorem t71 (N : Nat) (x0 : D) (x1 : D) : evFn Tryd.prog (envOf T6) t71_h N Tryd.f71 [dat 38 x0, dat 38 x1] =
 some (dat 38 (addD x0 x1)) := by kernel_rfl

/- roadbook/val.Sub -/
def t72_h : Hints := fun _ =>  none
theorem t72 (N : Nat) (x0 : D) (x1 : D) : evFn Tryd.prog (envOf T6) t72_h N Tryd.f72 [dat 38 x0, dat 38 x1] =
 some (dat 38 (subD x0 x1)) := by kernel_rfl

/- roadbook/val.Mul -/
def t73_h : Hints := fun _ =>  none
theorem t73 (N : Nat) (x0 : D) (x1 : D) : evFn Tryd.prog (envOf T6) t73_h N Tryd.f73 [dat 38 x0, dat 38 x1] =
 some (dat 38 (mulD x0 x1)) := by kernel_rfl

/- roadbook/val.Div -/
def t74_h : Hints := fun _ =>  none
theorem t74 (N : Nat) (x0 : D) (x1 : D) : evFn Tryd.prog (envOf T6) t74_h N Tryd.f74 [dat 38 x0, dat 38 x1] =
 some (dat 38 (divD x0 x1)) := by kernel_rfl
section
set_option linter.unusedSimpArgs false
theorem hm : Tryd.prog.follows .mixedOrders = true := by kernel_rfl
theorem n23 (x : D) : normD Tryd.prog 38 x = x := by kernel_rfl
theorem n28 (x : D) : normD Tryd.prog 58 x = x := by kernel_rfl
theorem n25 (x : D) : normD Tryd.prog 81 x = x := by kernel_rfl
theorem n40 (x : D) : normD Tryd.prog 110 x = x := by kernel_rfl
theorem n3 (x : D) : normD Tryd.prog 3 x = .lit (.int .i64 (intD x)) := by kernel_rfl
theorem n4 (x : D) : normD Tryd.prog 4 x = .lit (.bool (boolD x)) := by kernel_rfl
theorem m23 (x : D) : mkRes Tryd.prog 38 x = dat 38 x := by kernel_rfl
theorem m28 (x : D) : mkRes Tryd.prog 58 x = dat 58 x := by kernel_rfl
theorem m3 (x : D) : mkRes Tryd.prog 3 x = dat 3 (.lit (.int .i64 (intD x))) := by kernel_rfl
theorem m4 (x : D) : mkRes Tryd.prog 4 x = dat 4 (.lit (.bool (boolD x))) := by kernel_rfl
theorem m49 (x : D) : mkRes Tryd.prog 96 x = tupA [3, 4] x := by kernel_rfl
theorem u23 : ∃ f g : Field, Tryd.prog.underlying 38 = some (.struct #[f, g]) /\ f.type = 3 /\ g.type = 3 := ⟨_, _, Tryd.underlying38, rfl, rfl⟩
theorem u3 : Tryd.prog.underlying 3 = some (.int .i64) := by kernel_rfl
theorem u28 : Tryd.prog.underlying 58 = some (.slice 38) := by kernel_rfl
theorem u25 : Tryd.prog.underlying 81 = some (.func #[38] #[4] false) := by kernel_rfl

theorem ty3 {n : Nat} {x : D} (h : Ty Tryd.prog n 3 x) : inR (intD x) = true := by
 cases n with
 | zero => exact h.elim
 | succ n =>
  unfold Ty at h
  rw [u3] at h
  split at h <;> try (exact h.elim)
  all_goals try (simp_all; done)
  rename_i k k' z heq
  cases heq
  obtain ⟨rfl, hw⟩ := h
  exact wf_inR hw

theorem ty3' {n : Nat} {x : D} (h : Ty Tryd.prog n 3 x) : ∃ z, x = .lit (.int .i64 z) /\ inR z = true := by
 cases n with
 | zero => exact h.elim
 | succ n =>
  unfold Ty at h
  rw [u3] at h
  split at h <;> try (exact h.elim)
  all_goals try (simp_all; done)
  rename_i k k' z heq
  cases heq
  obtain ⟨rfl, hw⟩ := h
  exact ⟨z, rfl, wf_inR hw⟩

theorem ty23 {n : Nat} {x : D} (h : Ty Tryd.prog n 38 x) : ∃ k m, x = vv k m /\ inR k = true /\ inR m = true := by
 obtain ⟨f, g, hu, hf, hg⟩ := u23
 cases n with
 | zero => exact h.elim
 | succ n =>
  unfold Ty at h
  rw [hu] at h
  split at h <;> try (exact h.elim)
  all_goals try (simp_all; done)
  rename_i fs ps heq
  cases heq
  obtain ⟨hl, hp⟩ := h
  match ps, hl with
  | [a, b], _ =>
   have h0 := hp 0 f rfl
   have h1 := hp 1 g rfl
   rw [hf] at h0
   rw [hg] at h1
   obtain ⟨k, ek, hk⟩ := ty3' h0
   obtain ⟨m, em, hm⟩ := ty3' h1
   simp at ek em
   subst ek em
   exact ⟨k, m, rfl, hk, hm⟩

theorem ty28 {n : Nat} {x : D} (h : Ty Tryd.prog n 58 x) : ∃ es, x = .slice es [] /\ es.length <= maxLen /\ ∀ y ∈ es, ∃ k m, y = vv k m /\ inR k = true /\ inR m = true := by
 cases n with
 | zero => exact h.elim
 | succ n =>
  unfold Ty at h
  rw [u28] at h
  split at h <;> try (exact h.elim)
  all_goals try (simp_all; done)
  rename_i e es sp heq
  cases heq
  obtain ⟨rfl, hl, hp⟩ := h
  exact ⟨es, rfl, hl, fun y hy => ty23 (hp y hy)⟩

theorem kk_vv (k m : Int) : kk (vv k m) = k := rfl
theorem nn_vv (k m : Int) : nn (vv k m) = m := rfl

theorem env0 : EnvOK Tryd.prog (envOf T0) := envOK_nil

/-! ### Leaves -/
theorem k55 : FnOK Tryd.prog 55 Tryd.f55 := ⟨Tryd.func55, rfl, by kernel_rfl⟩
theorem c55 : ∀ args d, ent [38] (f1 fun x => some (.lit (.bool (mayB x)))) args = some d -> CallOK Tryd.prog 55 args (mkRes Tryd.prog 4 d) :=
 ent1 k55 fun x d h _ => by
  cases h
  rw [n23]
  refine fn_ok hm env0 k55 ((t55 1 x).trans ?_)
  rw [m4]
  simp only [boolD, mayB, kk, nn]
  cases (intD (fieldD x 0) == 0) <;> cases (intD (fieldD x 0) == 1) <;> cases (intD (fieldD x 0) == 2) <;> rfl
theorem k56 : FnOK Tryd.prog 56 Tryd.f56 := ⟨Tryd.func56, rfl, by kernel_rfl⟩
theorem c56 : ∀ args d, ent [3] (f1 fun x => some (.agg [.lit (.int .i64 0), .lit (.int .i64 (intD x))])) args = some d -> CallOK Tryd.prog 56 args (mkRes Tryd.prog 38 d) :=
 ent1 k56 fun x d h _ => by
  cases h
  rw [n3]
  refine fn_ok hm env0 k56 ((t56 1 (intD x)).trans ?_)
  rw [m23]
theorem k98 : FnOK Tryd.prog 98 Tryd.f98 := ⟨Tryd.func98, rfl, by kernel_rfl⟩
theorem c98 : ∀ args d, ent [] (f0 (some (.agg [.lit (.int .i64 2), .lit (.int .i64 0)]))) args = some d -> CallOK Tryd.prog 98 args (mkRes Tryd.prog 38 d) :=
 ent0 fun d h => by
  cases h
  refine fn_ok hm env0 k98 ((t98 1).trans ?_)
  rw [m23]
theorem k92 : FnOK Tryd.prog 92 Tryd.f92 := ⟨Tryd.func92, rfl, by kernel_rfl⟩
theorem c92 : ∀ args d, ent [4] (f1 fun x => some (.lit (.int .i64 (truthI (boolD x))))) args = some d -> CallOK Tryd.prog 92 args (mkRes Tryd.prog 3 d) :=
 ent1 k92 fun x d h _ => by
  cases h
  rw [n4]
  refine fn_ok hm env0 k92 ((t92 1 (boolD x)).trans ?_)
  rw [m3]
  simp only [intD, truthI]
  cases boolD x <;> rfl
theorem k95 : FnOK Tryd.prog 95 Tryd.f95 := ⟨Tryd.func95, rfl, by kernel_rfl⟩
theorem c95 : ∀ args d, ent [38] (f1 fun x => some (.lit (.bool (isTru x)))) args = some d -> CallOK Tryd.prog 95 args (mkRes Tryd.prog 4 d) :=
 ent1 k95 fun x d h _ => by
  cases h
  rw [n23]
  refine fn_ok hm env0 k95 ((t95 1 x).trans ?_)
  rw [m4]
  simp only [boolD, isTru, kk, nn]
  cases (intD (fieldD x 0) == 0) <;> rfl
theorem k87 : FnOK Tryd.prog 87 Tryd.f87 := ⟨Tryd.func87, rfl, by kernel_rfl⟩
theorem c87 : ∀ args d, ent [3, 3] (f2 fun x y => some (.agg [.lit (.int .i64 (IntKind.wrap .i64 ((intD x) + (intD y)))), .lit (.bool (addOK (intD x) (intD y)))])) args = some d -> CallOK Tryd.prog 87 args (mkRes Tryd.prog 96 d) :=
 ent2 k87 fun x y d h ⟨_, hx⟩ ⟨_, hy⟩ => by
  cases h
  rw [n3, n3]
  refine fn_ok hm env0 k87 ((t87 1 (intD x) (intD y)).trans ?_)
  rw [m49, plus_fits (ty3 hx) (ty3 hy)]
  rfl
theorem k88 : FnOK Tryd.prog 88 Tryd.f88 := ⟨Tryd.func88, rfl, by kernel_rfl⟩
theorem c88 : ∀ args d, ent [3, 3] (f2 fun x y => some (.agg [.lit (.int .i64 (IntKind.wrap .i64 ((intD x) - (intD y)))), .lit (.bool (subOK (intD x) (intD y)))])) args = some d -> CallOK Tryd.prog 88 args (mkRes Tryd.prog 96 d) :=
 ent2 k88 fun x y d h ⟨_, hx⟩ ⟨_, hy⟩ => by
  cases h
  rw [n3, n3]
  refine fn_ok hm env0 k88 ((t88 1 (intD x) (intD y)).trans ?_)
  rw [m49, minus_fits (ty3 hx) (ty3 hy)]
  rfl
theorem k89 : FnOK Tryd.prog 89 Tryd.f89 := ⟨Tryd.func89, rfl, by kernel_rfl⟩
theorem c89 : ∀ args d, ent [3, 3] (f2 fun x y => some (.agg [.lit (.int .i64 (IntKind.wrap .i64 ((intD x) * (intD y)))), .lit (.bool (mulOK (intD x) (intD y)))])) args = some d -> CallOK Tryd.prog 89 args (mkRes Tryd.prog 96 d) :=
 ent2 k89 fun x y d h ⟨_, hx⟩ ⟨_, hy⟩ => by
  cases h
  rw [n3, n3]
  refine fn_ok hm env0 k89 ((t89 1 (intD x) (intD y)).trans ?_)
  have hx' := ty3 hx
  have hy' := ty3 hy
  generalize intD x = a at *
  generalize intD y = b at *
  rw [m49]
  by_cases h0 : a = 0
  ·subst h0
   simp [mulOK, inR]
  ·have h0' : (a == 0) = false := by simpa using h0
   by_cases h1 : a = -1
   ·subst h1
    have : (b != (-9223372036854775808)) = mulOK (-1) b := by
     rw [inR_iff] at hy'
     unfold mulOK
     cases hm' : inR (-1 * b)
     ·rw [inR_not] at hm'
      have : b = -9223372036854775808 := by omega
      simp [this]
     ·rw [inR_iff] at hm'
      have : b ≠ -9223372036854775808 := by omega
      simpa using this
    rw [this]
    rfl
   ·have h1' : (a == (-1)) = false := by simpa using h1
    rw [h0', h1', quot_fits hx' hy' h0 h1]
    rfl
theorem k90 : FnOK Tryd.prog 90 Tryd.f90 := ⟨Tryd.func90, rfl, by kernel_rfl⟩
theorem c90 : ∀ args d, ent [3, 3] (f2 fun x y => some (.agg [.lit (.int .i64 (divV (intD x) (intD y))), .lit (.bool (divOK (intD x) (intD y)))])) args = some d -> CallOK Tryd.prog 90 args (mkRes Tryd.prog 96 d) :=
 ent2 k90 fun x y d h ⟨_, hx⟩ ⟨_, hy⟩ => by
  cases h
  rw [n3, n3]
  refine fn_ok hm env0 k90 ((t90 1 (intD x) (intD y)).trans ?_)
  have hx' := ty3 hx
  have hy' := ty3 hy
  generalize intD x = a at *
  generalize intD y = b at *
  rw [m49]
  unfold divV divOK
  by_cases h0 : b = 0
  ·subst h0; rfl
  ·have h0' : (b == 0) = false := by simpa using h0
   have ht := tdiv_fits hx' h0
   rw [h0', ht]
   cases ha : (a == -9223372036854775808) <;> cases hb : (b == -1) <;> simp [ha, hb] at ht ⊢
   all_goals rw [wrap_in ht]
theorem k97 : FnOK Tryd.prog 97 Tryd.f97 := ⟨Tryd.func97, rfl, by kernel_rfl⟩
theorem c97 : ∀ args d, ent [38] (f1 fun x => some (.lit (.bool (isNum x)))) args = some d -> CallOK Tryd.prog 97 args (mkRes Tryd.prog 4 d) :=
 ent1 k97 fun x d h _ => by
  cases h
  rw [n23]
  refine fn_ok hm env0 k97 ((t97 1 x).trans ?_)
  rw [m4]
  rfl

theorem env1 : EnvOK Tryd.prog (envOf T1) := (envOK_cons (envOK_cons (envOK_cons (envOK_cons (envOK_cons (envOK_cons (envOK_cons (envOK_cons (envOK_cons (envOK_cons env0 c97) c90) c89) c88) c87) c95) c92) c98) c56) c55)
end
section
set_option linter.unusedSimpArgs false
/-- A value that counts as it stands, by cases. -/
theorem read_cases (k m : Int) : (k = 0 /\ readD (vv k m) = vv 0 m) \/ (k = 1 /\ m = 0 /\ readD (vv k m) = vv 1 0) \/ (k ≠ 0 /\ ¬ (k = 1 /\ m = 0) /\ readD (vv k m) = vv 2 0) := by
 by_cases h0 : k = 0
 ·subst h0; exact .inl ⟨rfl, rfl⟩
 ·by_cases h1 : k = 1 /\ m = 0
  ·obtain ⟨rfl, rfl⟩ := h1; exact .inr (.inl ⟨rfl, rfl, rfl⟩)
  ·refine .inr (.inr ⟨h0, h1, ?_⟩)
   unfold readD mayB
   rw [kk_vv, nn_vv]
   have e0 : (k == 0) = false := by simpa using h0
   rw [e0]
   by_cases h2 : k = 2 /\ m = 0
   ·obtain ⟨rfl, rfl⟩ := h2; rfl
   ·have : (false || (k == 1 || k == 2) && m == 0) = false := by
     simp
     omega
    rw [this]
    rfl

theorem kk_read (x : D) : (kk (readD x) == 2) = isErr x := rfl

theorem idx_ok {i n : Nat} (h : i < n) : (decide (0 <= (i : Int)) && decide ((i : Int) < (n : Int))) = true := by simp [h]

/-- A loop that looks for one of a list. -/
theorem any_loop (LP : Nat -> Int -> Option AV) (l : List D) (p : D -> Bool) (T F : Option AV) (hl : l.length <= maxLen)
  (hstep : ∀ (n : Nat) (v : Int), LP (n + 1) v = bif decide (v < (l.length : Int)) then
   bif (decide (0 <= v) && decide (v < (l.length : Int))) then bif p (l.getD (v).toNat .nil) then T else LP n (IntKind.wrap .i64 (v + 1)) else none else F) :
  ∀ (n i : Nat), i <= l.length -> l.length - i < n -> LP n (i : Int) = bif (l.drop i).any p then T else F
 | 0, i, _, h => by omega
 | n + 1, i, hi, h => by
  rw [hstep]
  by_cases hlt : i < l.length
  ·have h1 : decide ((i : Int) < (l.length : Int)) = true := by simpa using hlt
   rw [idx_ok hlt, h1, cond_true, cond_true, List.drop_eq_getElem_cons hlt, List.any_cons, Int.toNat_natCast]
   have h2 : l.getD i .nil = l[i] := by simp [List.getD, hlt]
   rw [h2]
   have hw : IntKind.wrap .i64 ((i : Int) + 1) = ((i + 1 : Nat) : Int) := by
    rw [wrap_in]
    ·omega
    ·rw [inR_iff]; unfold maxLen at hl; omega
   rw [hw, any_loop LP l p T F hl hstep n (i + 1) (by omega) (by omega)]
   cases p l[i] <;> rfl
  ·have h1 : decide ((i : Int) < (l.length : Int)) = false := by simpa using hlt
   have h2 : l.drop i = [] := List.drop_of_length_le (by omega)
   rw [h1, h2, cond_false]
   rfl

theorem elems_len {n : Nat} {x : D} (hx : Ty Tryd.prog n 58 x) : (elemsD x).length <= maxLen := by
 obtain ⟨es, rfl, hl, _⟩ := ty28 hx
 exact hl

/-! ### T2 -/
theorem k101 : FnOK Tryd.prog 101 Tryd.f101 := ⟨Tryd.func101, rfl, by kernel_rfl⟩
theorem c101 : ∀ args d, ent [38] (f1 fun x => some (readD x)) args = some d -> CallOK Tryd.prog 101 args (mkRes Tryd.prog 38 d) :=
 ent1 k101 fun x d h _ => by
  cases h
  rw [n23]
  refine fn_ok hm env1 k101 ((t101 1 x).trans ?_)
  rw [m23]
  unfold readD
  cases mayB x <;> rfl
theorem k94 : FnOK Tryd.prog 94 Tryd.f94 := ⟨Tryd.func94, rfl, by kernel_rfl⟩
theorem c94 : ∀ args d, ent [38] (f1 fun x => some (.lit (.bool (isFal x)))) args = some d -> CallOK Tryd.prog 94 args (mkRes Tryd.prog 4 d) :=
 ent1 k94 fun x d h _ => by
  cases h
  rw [n23]
  refine fn_ok hm env1 k94 ((t94 1 x).trans ?_)
  rw [m4, Bool.and_true]
  rfl
theorem env2 : EnvOK Tryd.prog (envOf T2) := (envOK_cons (envOK_cons env1 c94) c101)

/-! ### T3 -/
theorem k99 : FnOK Tryd.prog 99 Tryd.f99 := ⟨Tryd.func99, rfl, by kernel_rfl⟩
theorem c99 : ∀ args d, ent [38] (f1 fun x => some (.lit (.bool (isErr x)))) args = some d -> CallOK Tryd.prog 99 args (mkRes Tryd.prog 4 d) :=
 ent1 k99 fun x d h _ => by
  cases h
  rw [n23]
  refine fn_ok hm env2 k99 ((t99 1 x).trans ?_)
  rw [m4]
  rfl
theorem k100 : FnOK Tryd.prog 100 Tryd.f100 := ⟨Tryd.func100, rfl, by kernel_rfl⟩
theorem c100 : ∀ args d, ent [38] (f1 fun x => some (.lit (.bool (isNul x)))) args = some d -> CallOK Tryd.prog 100 args (mkRes Tryd.prog 4 d) :=
 ent1 k100 fun x d h _ => by
  cases h
  rw [n23]
  refine fn_ok hm env2 k100 ((t100 1 x).trans ?_)
  rw [m4]
  rfl
theorem env3 : EnvOK Tryd.prog (envOf T3) := (envOK_cons (envOK_cons env2 c100) c99)

/-! ### T4 -/
theorem some_52 {n : Nat} {x : D} (hx : Ty Tryd.prog n 58 x) : evFn Tryd.prog (envOf T3) t93_94_h ((elemsD x).length + 1) Tryd.f93 [dat 58 x, dat 81 (.held (.func (.func 94) #[] #[]))] = some (dat 4 (.lit (.bool ((elemsD x).any isFal)))) := by
 rw [t93_94]
 have h := any_loop (fun n v => t93_94_lp2 Tryd.prog Tryd.f93 ((elemsD x).length + 1) n x v) (elemsD x) isFal (some (dat 4 (.lit (.bool true)))) (some (dat 4 (.lit (.bool false)))) (elems_len hx)
  (fun n v => t93_94_lp2_step ((elemsD x).length + 1) n x v) ((elemsD x).length + 1) 0 (Nat.zero_le _) (by omega)
 rw [List.drop_zero] at h
 refine Eq.trans h ?_
 cases (elemsD x).any isFal <;> rfl
theorem some_36 {n : Nat} {x : D} (hx : Ty Tryd.prog n 58 x) : evFn Tryd.prog (envOf T3) t93_95_h ((elemsD x).length + 1) Tryd.f93 [dat 58 x, dat 81 (.held (.func (.func 95) #[] #[]))] = some (dat 4 (.lit (.bool ((elemsD x).any isTru)))) := by
 rw [t93_95]
 have h := any_loop (fun n v => t93_95_lp2 Tryd.prog Tryd.f93 ((elemsD x).length + 1) n x v) (elemsD x) isTru (some (dat 4 (.lit (.bool true)))) (some (dat 4 (.lit (.bool false)))) (elems_len hx)
  (fun n v => t93_95_lp2_step ((elemsD x).length + 1) n x v) ((elemsD x).length + 1) 0 (Nat.zero_le _) (by omega)
 rw [List.drop_zero] at h
 refine Eq.trans h ?_
 cases (elemsD x).any isTru <;> rfl
theorem some_53 {n : Nat} {x : D} (hx : Ty Tryd.prog n 58 x) : evFn Tryd.prog (envOf T3) t93_99_h ((elemsD x).length + 1) Tryd.f93 [dat 58 x, dat 81 (.held (.func (.func 99) #[] #[]))] = some (dat 4 (.lit (.bool ((elemsD x).any isErr)))) := by
 rw [t93_99]
 have h := any_loop (fun n v => t93_99_lp2 Tryd.prog Tryd.f93 ((elemsD x).length + 1) n x v) (elemsD x) isErr (some (dat 4 (.lit (.bool true)))) (some (dat 4 (.lit (.bool false)))) (elems_len hx)
  (fun n v => t93_99_lp2_step ((elemsD x).length + 1) n x v) ((elemsD x).length + 1) 0 (Nat.zero_le _) (by omega)
 rw [List.drop_zero] at h
 refine Eq.trans h ?_
 cases (elemsD x).any isErr <;> rfl
theorem some_55 {n : Nat} {x : D} (hx : Ty Tryd.prog n 58 x) : evFn Tryd.prog (envOf T3) t93_97_h ((elemsD x).length + 1) Tryd.f93 [dat 58 x, dat 81 (.held (.func (.func 97) #[] #[]))] = some (dat 4 (.lit (.bool ((elemsD x).any isNum)))) := by
 rw [t93_97]
 have h := any_loop (fun n v => t93_97_lp2 Tryd.prog Tryd.f93 ((elemsD x).length + 1) n x v) (elemsD x) isNum (some (dat 4 (.lit (.bool true)))) (some (dat 4 (.lit (.bool false)))) (elems_len hx)
  (fun n v => t93_97_lp2_step ((elemsD x).length + 1) n x v) ((elemsD x).length + 1) 0 (Nat.zero_le _) (by omega)
 rw [List.drop_zero] at h
 refine Eq.trans h ?_
 cases (elemsD x).any isNum <;> rfl
theorem some_56 {n : Nat} {x : D} (hx : Ty Tryd.prog n 58 x) : evFn Tryd.prog (envOf T3) t93_100_h ((elemsD x).length + 1) Tryd.f93 [dat 58 x, dat 81 (.held (.func (.func 100) #[] #[]))] = some (dat 4 (.lit (.bool ((elemsD x).any isNul)))) := by
 rw [t93_100]
 have h := any_loop (fun n v => t93_100_lp2 Tryd.prog Tryd.f93 ((elemsD x).length + 1) n x v) (elemsD x) isNul (some (dat 4 (.lit (.bool true)))) (some (dat 4 (.lit (.bool false)))) (elems_len hx)
  (fun n v => t93_100_lp2_step ((elemsD x).length + 1) n x v) ((elemsD x).length + 1) 0 (Nat.zero_le _) (by omega)
 rw [List.drop_zero] at h
 refine Eq.trans h ?_
 cases (elemsD x).any isNul <;> rfl
theorem k93 : FnOK Tryd.prog 93 Tryd.f93 := ⟨Tryd.func93, rfl, by kernel_rfl⟩
theorem ty25 {n : Nat} {x : D} {t : TypeId} {p q : Array TypeId} {r : Bool} {f : FuncId} (hu : Tryd.prog.underlying t = some (.func p q r)) (h : Ty Tryd.prog n t x) (hf : fnD x = some f) : x = .held (.func (.func f) #[] #[]) := by
 cases n with
 | zero => exact h.elim
 | succ n =>
  unfold Ty at h
  rw [hu] at h
  split at h <;> try (exact h.elim)
  all_goals try (simp_all; done)
  ·rename_i v heq
   rcases h with rfl | ⟨g, rfl⟩ | ⟨l, rfl⟩
   ·simp [fnD] at hf
   ·simp only [fnD, Option.some.injEq] at hf
    rw [hf]
   ·simp [fnD] at hf
  ·simp [fnD] at hf

theorem c93 : ∀ args d, e93.2.2.2 args = some d -> CallOK Tryd.prog 93 args (mkRes Tryd.prog 4 d) :=
 ent2 k93 fun x y d h ⟨_, hx⟩ ⟨_, hy⟩ => by
  rw [n28, n25]
  split at h
  ·rename_i hf
   cases h
   rw [ty25 u25 hy hf]
   refine fn_ok hm env3 k93 ((some_52 hx).trans ?_)
   rw [m4]
   rfl
  ·rename_i hf
   cases h
   rw [ty25 u25 hy hf]
   refine fn_ok hm env3 k93 ((some_36 hx).trans ?_)
   rw [m4]
   rfl
  ·rename_i hf
   cases h
   rw [ty25 u25 hy hf]
   refine fn_ok hm env3 k93 ((some_53 hx).trans ?_)
   rw [m4]
   rfl
  ·rename_i hf
   cases h
   rw [ty25 u25 hy hf]
   refine fn_ok hm env3 k93 ((some_55 hx).trans ?_)
   rw [m4]
   rfl
  ·rename_i hf
   cases h
   rw [ty25 u25 hy hf]
   refine fn_ok hm env3 k93 ((some_56 hx).trans ?_)
   rw [m4]
   rfl
  ·cases h

/-- Of values that may be, an error is the one that is read as such. -/
theorem err_read {y : D} (hy : ∃ k m, y = vv k m /\ inR k = true /\ inR m = true) (h : (kk (readD y) == 2) = true) : readD y = vv 2 0 := by
 obtain ⟨k, m, rfl, _, _⟩ := hy
 rcases read_cases k m with ⟨_, e⟩ | ⟨_, _, e⟩ | ⟨_, _, e⟩
 ·rw [e] at h; simp [kk_vv] at h
 ·rw [e] at h; simp [kk_vv] at h
 ·exact e

theorem env4 : EnvOK Tryd.prog (envOf T4) := (envOK_cons env3 c93)
end
section
set_option linter.unusedSimpArgs false
theorem vdef (k m : Int) : (.agg [.lit (.int .i64 k), .lit (.int .i64 m)] : D) = vv k m := rfl

/-! ### T5 -/
theorem k91 : FnOK Tryd.prog 91 Tryd.f91 := ⟨Tryd.func91, rfl, by kernel_rfl⟩
theorem c91 : ∀ args d, e91.2.2.2 args = some d -> CallOK Tryd.prog 91 args (mkRes Tryd.prog 38 d) :=
 ent2 k91 fun x y d h _ _ => by
  cases h
  rw [n3, n28]
  refine fn_ok hm env4 k91 ((t91 1 (intD x) y).trans ?_)
  rw [m23]
  unfold ifNum
  cases (elemsD y).any isErr <;> cases (elemsD y).any isNul <;> rfl

/-- The document's own shape: odd values first. -/
theorem reck_of {fits : Bool} {v : Int} {x y : D} {t : Option AV} (ht : t = bif fits then some (dat 38 (vv 0 v)) else some (dat 38 (vv 2 0))) :
  (bif oddB [x, y] then some (dat 38 (oddD [x, y])) else t) = some (dat 38 (reck fits v x y)) := by
 subst ht
 unfold oddB oddD reck
 cases [x, y].any isErr <;> cases [x, y].any isNul <;> cases fits <;> rfl

theorem ty_nn {n : Nat} {x : D} (h : Ty Tryd.prog n 38 x) : inR (nn x) = true := by
 obtain ⟨k, m, rfl, _, h2⟩ := ty23 h
 exact h2

theorem ref_add {a b : Int} (ha : inR a = true) (hb : inR b = true) : (bif ((decide (b > 0)) == true) then
   bif ((decide (a > (IntKind.wrap .i64 (9223372036854775807 - b)))) == false) then
    bif ((decide (b < 0)) == true) then bif decide (a < (IntKind.wrap .i64 ((-9223372036854775808) - b))) then some (dat 38 (.agg [.lit (.int .i64 2), .lit (.int .i64 0)])) else some (dat 38 (.agg [.lit (.int .i64 0), .lit (.int .i64 (IntKind.wrap .i64 (a + b)))])) else some (dat 38 (.agg [.lit (.int .i64 0), .lit (.int .i64 (IntKind.wrap .i64 (a + b)))]))
   else some (dat 38 (.agg [.lit (.int .i64 2), .lit (.int .i64 0)]))
  else bif ((decide (b < 0)) == true) then bif decide (a < (IntKind.wrap .i64 ((-9223372036854775808) - b))) then some (dat 38 (.agg [.lit (.int .i64 2), .lit (.int .i64 0)])) else some (dat 38 (.agg [.lit (.int .i64 0), .lit (.int .i64 (IntKind.wrap .i64 (a + b)))])) else some (dat 38 (.agg [.lit (.int .i64 0), .lit (.int .i64 (IntKind.wrap .i64 (a + b)))]))) = bif inR (a + b) then some (dat 38 (vv 0 (a + b))) else some (dat 38 (vv 2 0)) := by
 rw [inR_iff] at ha hb
 by_cases hb0 : b > 0
 ·have e1 : IntKind.wrap .i64 (9223372036854775807 - b) = 9223372036854775807 - b := wrap_in (by rw [inR_iff]; omega)
  have d1 : decide (b > 0) = true := by simpa using hb0
  have d2 : decide (b < 0) = false := by simp; omega
  cases hin : inR (a + b) with
  | true =>
   have hw := wrap_in hin
   rw [inR_iff] at hin
   have d3 : decide (a > 9223372036854775807 - b) = false := by simp; omega
   rw [e1, d1, d2, d3, hw]; rfl
  | false =>
   rw [inR_not] at hin
   have d3 : decide (a > 9223372036854775807 - b) = true := by simp; omega
   rw [e1, d1, d2, d3]; rfl
 ·have d1 : decide (b > 0) = false := by simpa using hb0
  by_cases hb1 : b < 0
  ·have e1 : IntKind.wrap .i64 ((-9223372036854775808) - b) = (-9223372036854775808) - b := wrap_in (by rw [inR_iff]; omega)
   have d2 : decide (b < 0) = true := by simpa using hb1
   cases hin : inR (a + b) with
   | true =>
    have hw := wrap_in hin
    rw [inR_iff] at hin
    have d3 : decide (a < (-9223372036854775808) - b) = false := by simp; omega
    rw [e1, d1, d2, d3, hw]; rfl
   | false =>
    rw [inR_not] at hin
    have d3 : decide (a < (-9223372036854775808) - b) = true := by simp; omega
    rw [e1, d1, d2, d3]; rfl
  ·have d2 : decide (b < 0) = false := by simpa using hb1
   have hin : inR (a + b) = true := by rw [inR_iff]; omega
   rw [d1, d2, wrap_in hin, hin]; rfl

theorem ref_sub {a b : Int} (ha : inR a = true) (hb : inR b = true) : (bif ((decide (b < 0)) == true) then
   bif ((decide (a > (IntKind.wrap .i64 (9223372036854775807 + b)))) == false) then
    bif ((decide (b > 0)) == true) then bif decide (a < (IntKind.wrap .i64 ((-9223372036854775808) + b))) then some (dat 38 (.agg [.lit (.int .i64 2), .lit (.int .i64 0)])) else some (dat 38 (.agg [.lit (.int .i64 0), .lit (.int .i64 (IntKind.wrap .i64 (a - b)))])) else some (dat 38 (.agg [.lit (.int .i64 0), .lit (.int .i64 (IntKind.wrap .i64 (a - b)))]))
   else some (dat 38 (.agg [.lit (.int .i64 2), .lit (.int .i64 0)]))
  else bif ((decide (b > 0)) == true) then bif decide (a < (IntKind.wrap .i64 ((-9223372036854775808) + b))) then some (dat 38 (.agg [.lit (.int .i64 2), .lit (.int .i64 0)])) else some (dat 38 (.agg [.lit (.int .i64 0), .lit (.int .i64 (IntKind.wrap .i64 (a - b)))])) else some (dat 38 (.agg [.lit (.int .i64 0), .lit (.int .i64 (IntKind.wrap .i64 (a - b)))]))) = bif inR (a - b) then some (dat 38 (vv 0 (a - b))) else some (dat 38 (vv 2 0)) := by
 rw [inR_iff] at ha hb
 by_cases hb0 : b < 0
 ·have e1 : IntKind.wrap .i64 (9223372036854775807 + b) = 9223372036854775807 + b := wrap_in (by rw [inR_iff]; omega)
  have d1 : decide (b < 0) = true := by simpa using hb0
  have d2 : decide (b > 0) = false := by simp; omega
  cases hin : inR (a - b) with
  | true =>
   have hw := wrap_in hin
   rw [inR_iff] at hin
   have d3 : decide (a > 9223372036854775807 + b) = false := by simp; omega
   rw [e1, d1, d2, d3, hw]; rfl
  | false =>
   rw [inR_not] at hin
   have d3 : decide (a > 9223372036854775807 + b) = true := by simp; omega
   rw [e1, d1, d2, d3]; rfl
 ·have d1 : decide (b < 0) = false := by simpa using hb0
  by_cases hb1 : b > 0
  ·have e1 : IntKind.wrap .i64 ((-9223372036854775808) + b) = (-9223372036854775808) + b := wrap_in (by rw [inR_iff]; omega)
   have d2 : decide (b > 0) = true := by simpa using hb1
   cases hin : inR (a - b) with
   | true =>
    have hw := wrap_in hin
    rw [inR_iff] at hin
    have d3 : decide (a < (-9223372036854775808) + b) = false := by simp; omega
    rw [e1, d1, d2, d3, hw]; rfl
   | false =>
    rw [inR_not] at hin
    have d3 : decide (a < (-9223372036854775808) + b) = true := by simp; omega
    rw [e1, d1, d2, d3]; rfl
  ·have d2 : decide (b > 0) = false := by simpa using hb1
   have hin : inR (a - b) = true := by rw [inR_iff]; omega
   rw [d1, d2, wrap_in hin, hin]; rfl

theorem ref_quot {a b : Int} (ha : inR a = true) (hb : inR b = true) (h0 : b ≠ 0) (h1 : ¬ (b = -1 /\ a = -9223372036854775808)) :
  (bif (!(b == 0)) then bif ((IntKind.wrap .i64 (Int.tdiv (IntKind.wrap .i64 (a * b)) b) != a) == false) then bif (!(b == 0)) then bif (Int.tmod (IntKind.wrap .i64 (a * b)) b != 0) then some (dat 38 (.agg [.lit (.int .i64 2), .lit (.int .i64 0)])) else some (dat 38 (.agg [.lit (.int .i64 0), .lit (.int .i64 (IntKind.wrap .i64 (a * b)))])) else none else some (dat 38 (.agg [.lit (.int .i64 2), .lit (.int .i64 0)])) else none) = bif inR (a * b) then some (dat 38 (vv 0 (a * b))) else some (dat 38 (vv 2 0)) := by
 have b0 : (b == 0) = false := by simpa using h0
 have key : (IntKind.wrap .i64 (Int.tdiv (IntKind.wrap .i64 (a * b)) b) == a) = inR (a * b) := by
  by_cases hb1 : b = -1
  ·subst hb1
   have hin : inR (a * -1) = true := by rw [inR_iff] at ha ⊢; omega
   have hin2 : inR (Int.tdiv (a * -1) (-1)) = true := by rw [Int.mul_tdiv_cancel _ (by decide)]; exact ha
   rw [wrap_in hin, wrap_in hin2, hin, Int.mul_tdiv_cancel _ (by decide)]
   simp
  ·have := quot_fits hb ha h0 hb1
   rw [Int.mul_comm b a] at this
   exact this
 have key2 : (IntKind.wrap .i64 (Int.tdiv (IntKind.wrap .i64 (a * b)) b) != a) = !inR (a * b) := by rw [<- key]; rfl
 rw [key2, b0]
 cases hin : inR (a * b) with
 | true =>
  have hw := wrap_in hin
  rw [hw]
  have : (Int.tmod (a * b) b != 0) = false := by rw [Int.mul_tmod_left]; rfl
  rw [this]
  rfl
 | false => rfl

theorem ref_mul {a b : Int} (ha : inR a = true) (hb : inR b = true) : (bif ((a == 0) == false) then
   bif (b == 0) then some (dat 38 (.agg [.lit (.int .i64 0), .lit (.int .i64 0)]))
   else bif ((a == (-1)) == true) then
     bif ((b == (-9223372036854775808)) == false) then
      bif ((b == (-1)) == true) then bif (a == (-9223372036854775808)) then some (dat 38 (.agg [.lit (.int .i64 2), .lit (.int .i64 0)])) else bif (!(b == 0)) then bif ((IntKind.wrap .i64 (Int.tdiv (IntKind.wrap .i64 (a * b)) b) != a) == false) then bif (!(b == 0)) then bif (Int.tmod (IntKind.wrap .i64 (a * b)) b != 0) then some (dat 38 (.agg [.lit (.int .i64 2), .lit (.int .i64 0)])) else some (dat 38 (.agg [.lit (.int .i64 0), .lit (.int .i64 (IntKind.wrap .i64 (a * b)))])) else none else some (dat 38 (.agg [.lit (.int .i64 2), .lit (.int .i64 0)])) else none
      else bif (!(b == 0)) then bif ((IntKind.wrap .i64 (Int.tdiv (IntKind.wrap .i64 (a * b)) b) != a) == false) then bif (!(b == 0)) then bif (Int.tmod (IntKind.wrap .i64 (a * b)) b != 0) then some (dat 38 (.agg [.lit (.int .i64 2), .lit (.int .i64 0)])) else some (dat 38 (.agg [.lit (.int .i64 0), .lit (.int .i64 (IntKind.wrap .i64 (a * b)))])) else none else some (dat 38 (.agg [.lit (.int .i64 2), .lit (.int .i64 0)])) else none
     else some (dat 38 (.agg [.lit (.int .i64 2), .lit (.int .i64 0)]))
    else bif ((b == (-1)) == true) then bif (a == (-9223372036854775808)) then some (dat 38 (.agg [.lit (.int .i64 2), .lit (.int .i64 0)])) else bif (!(b == 0)) then bif ((IntKind.wrap .i64 (Int.tdiv (IntKind.wrap .i64 (a * b)) b) != a) == false) then bif (!(b == 0)) then bif (Int.tmod (IntKind.wrap .i64 (a * b)) b != 0) then some (dat 38 (.agg [.lit (.int .i64 2), .lit (.int .i64 0)])) else some (dat 38 (.agg [.lit (.int .i64 0), .lit (.int .i64 (IntKind.wrap .i64 (a * b)))])) else none else some (dat 38 (.agg [.lit (.int .i64 2), .lit (.int .i64 0)])) else none
     else bif (!(b == 0)) then bif ((IntKind.wrap .i64 (Int.tdiv (IntKind.wrap .i64 (a * b)) b) != a) == false) then bif (!(b == 0)) then bif (Int.tmod (IntKind.wrap .i64 (a * b)) b != 0) then some (dat 38 (.agg [.lit (.int .i64 2), .lit (.int .i64 0)])) else some (dat 38 (.agg [.lit (.int .i64 0), .lit (.int .i64 (IntKind.wrap .i64 (a * b)))])) else none else some (dat 38 (.agg [.lit (.int .i64 2), .lit (.int .i64 0)])) else none
  else some (dat 38 (.agg [.lit (.int .i64 0), .lit (.int .i64 0)]))) = bif inR (a * b) then some (dat 38 (vv 0 (a * b))) else some (dat 38 (vv 2 0)) := by
 by_cases a0 : a = 0
 ·subst a0
  have : inR (0 * b) = true := by rw [Int.zero_mul]; decide
  rw [this, Int.zero_mul]; rfl
 ·have A0 : (a == 0) = false := by simpa using a0
  by_cases b0 : b = 0
  ·subst b0
   have : inR (a * 0) = true := by rw [Int.mul_zero]; decide
   rw [this, A0, Int.mul_zero]; rfl
  ·have B0 : (b == 0) = false := by simpa using b0
   by_cases hbad : b = -1 /\ a = -9223372036854775808
   ·obtain ⟨rfl, rfl⟩ := hbad
    rfl
   ·by_cases hbad2 : a = -1 /\ b = -9223372036854775808
    ·obtain ⟨rfl, rfl⟩ := hbad2
     rfl
    ·have hq := ref_quot ha hb b0 hbad
     rw [hq, A0, B0]
     have M1 : (a == (-1) && b == (-9223372036854775808)) = false := by
      simp; omega
     have M2 : (b == (-1) && a == (-9223372036854775808)) = false := by
      simp; omega
     cases x1 : (a == (-1)) <;> cases x2 : (b == (-9223372036854775808)) <;> cases x3 : (b == (-1)) <;> cases x4 : (a == (-9223372036854775808)) <;> simp [x1, x2, x3, x4] at M1 M2 ⊢

theorem ref_div {a b : Int} (ha : inR a = true) : (bif ((b == 0) == false) then
   bif ((b == (-1)) == true) then
    bif (a == (-9223372036854775808)) then some (dat 38 (.agg [.lit (.int .i64 2), .lit (.int .i64 0)]))
    else bif (!(b == 0)) then some (dat 38 (.agg [.lit (.int .i64 0), .lit (.int .i64 (IntKind.wrap .i64 (Int.tdiv a b)))])) else none
   else bif (!(b == 0)) then some (dat 38 (.agg [.lit (.int .i64 0), .lit (.int .i64 (IntKind.wrap .i64 (Int.tdiv a b)))])) else none
  else some (dat 38 (.agg [.lit (.int .i64 2), .lit (.int .i64 0)]))) = bif divOK a b then some (dat 38 (vv 0 (divV a b))) else some (dat 38 (vv 2 0)) := by
 unfold divV divOK
 by_cases b0 : b = 0
 ·subst b0; rfl
 ·have B0 : (b == 0) = false := by simpa using b0
  have ht := tdiv_fits ha b0
  rw [B0, ht]
  cases x1 : (a == (-9223372036854775808)) <;> cases x2 : (b == (-1)) <;> simp [x1, x2] at ht ⊢
  all_goals first | rfl | (rw [wrap_in ht]; rfl)
end
section
set_option linter.unusedSimpArgs false
theorem total_cons (y : D) (l : List D) : total (y :: l) = nn y + total l := by simp [total]

theorem step_int {i : Nat} {l : List D} (hl : l.length <= maxLen) (h : i < l.length) : IntKind.wrap .i64 ((i : Int) + 1) = ((i + 1 : Nat) : Int) := by
 rw [wrap_in]
 ·omega
 ·rw [inR_iff]; unfold maxLen at hl; omega

theorem elems_nn {n : Nat} {x : D} (hx : Ty Tryd.prog n 58 x) : ∀ y ∈ elemsD x, inR (nn y) = true := by
 obtain ⟨es, rfl, _, hall⟩ := ty28 hx
 intro y hy
 obtain ⟨k, m, rfl, _, h⟩ := hall y hy
 exact h
/-! ### The document's own: by parts of 2^32 -/
def cnt (l : List D) : Nat := (l.filter isNum).length

theorem nul_nn {y : D} (hy : ∃ k m, y = vv k m /\ inR k = true /\ inR m = true) (h2 : (kk (readD y) == 2) = false) (h0 : (kk (readD y) == 0) = false) : isNum y = false /\ nn y = 0 := by
 obtain ⟨k, m, rfl, _, _⟩ := hy
 rcases read_cases k m with ⟨_, e⟩ | ⟨rfl, rfl, e⟩ | ⟨_, _, e⟩
 ·rw [e] at h0; simp [kk_vv] at h0
 ·exact ⟨rfl, rfl⟩
 ·rw [e] at h2; simp [kk_vv] at h2

theorem num_read {y : D} (hy : ∃ k m, y = vv k m /\ inR k = true /\ inR m = true) (h0 : (kk (readD y) == 0) = true) : isNum y = true /\ readD y = y := by
 obtain ⟨k, m, rfl, _, _⟩ := hy
 rcases read_cases k m with ⟨rfl, e⟩ | ⟨_, _, e⟩ | ⟨_, _, e⟩
 ·exact ⟨rfl, e⟩
 ·rw [e] at h0; simp [kk_vv] at h0
 ·rw [e] at h0; simp [kk_vv] at h0

theorem parts32 {b : Int} (hb : inR b = true) : ∃ q p : Int, 0 <= p /\ p < 4294967296 /\ b = q * 4294967296 + p /\ -2147483648 <= q /\ q <= 2147483647 /\
  ((Int.tmod b 4294967296 < 0 /\ IntKind.wrap .i64 (Int.tmod b 4294967296 + 4294967296) = p) \/ (¬ Int.tmod b 4294967296 < 0 /\ Int.tmod b 4294967296 = p)) /\
  IntKind.wrap .i64 (Int.tdiv (IntKind.wrap .i64 (b - p)) 4294967296) = q := by
 have hr := Int.mul_tdiv_add_tmod b 4294967296
 have hrm : (b.tmod 4294967296).natAbs < 4294967296 := by
  rw [Int.natAbs_tmod]
  exact Nat.mod_lt _ (by decide)
 rw [inR_iff] at hb
 refine ⟨b / 4294967296, b % 4294967296, by omega, by omega, by omega, by omega, by omega, ?_, ?_⟩
 ·by_cases hneg : b.tmod 4294967296 < 0
  ·left
   refine ⟨hneg, ?_⟩
   rw [wrap_in (by rw [inR_iff]; omega)]
   omega
  ·right
   exact ⟨hneg, by omega⟩
 ·have e1 : IntKind.wrap .i64 (b - b % 4294967296) = b / 4294967296 * 4294967296 := by rw [wrap_in (by rw [inR_iff]; omega)]; omega
  rw [e1, Int.mul_tdiv_cancel _ (by decide)]
  exact wrap_in (by rw [inR_iff]; omega)

theorem ref_sum_end {h l m : Int} {T : Int} (hl0 : 0 <= l) (hl1 : l <= 4294967296000) (hh : -2147483648000 <= h) (hh' : h <= 2147483648000) (hT : h * 4294967296 + l = T) :
  (bif ((decide ((IntKind.wrap .i64 (h + (IntKind.wrap .i64 (Int.tdiv l 4294967296)))) > 2147483647)) == false) then
    bif decide ((IntKind.wrap .i64 (h + (IntKind.wrap .i64 (Int.tdiv l 4294967296)))) < (-2147483648)) then
     some (dat 38 (.agg [.lit (.int .i64 2), .lit (.int .i64 0)]))
    else some (dat 38 (.agg [.lit (.int .i64 0), .lit (.int .i64 (IntKind.wrap .i64 ((IntKind.wrap .i64 ((IntKind.wrap .i64 (h + (IntKind.wrap .i64 (Int.tdiv l 4294967296)))) * 4294967296)) + (Int.tmod l 4294967296))))]))
   else some (dat 38 (.agg [.lit (.int .i64 2), .lit (.int .i64 0)]))) = bif inR T then some (dat 38 (vv 0 T)) else some (dat 38 (vv 2 0)) := by
 have e1 : Int.tdiv l 4294967296 = l / 4294967296 := Int.tdiv_eq_ediv_of_nonneg hl0
 have e2 : Int.tmod l 4294967296 = l % 4294967296 := Int.tmod_eq_emod_of_nonneg hl0
 have e3 : IntKind.wrap .i64 (l / 4294967296) = l / 4294967296 := wrap_in (by rw [inR_iff]; omega)
 have e4 : IntKind.wrap .i64 (h + l / 4294967296) = h + l / 4294967296 := wrap_in (by rw [inR_iff]; omega)
 rw [e1, e2, e3, e4]
 by_cases c1 : h + l / 4294967296 > 2147483647
 ·have d1 : decide (h + l / 4294967296 > 2147483647) = true := by simpa using c1
  have hin : inR T = false := by rw [inR_not]; omega
  rw [d1, hin]; rfl
 ·have d1 : decide (h + l / 4294967296 > 2147483647) = false := by simpa using c1
  by_cases c2 : h + l / 4294967296 < -2147483648
  ·have d2 : decide (h + l / 4294967296 < (-2147483648)) = true := by simpa using c2
   have hin : inR T = false := by rw [inR_not]; omega
   rw [d1, d2, hin]; rfl
  ·have d2 : decide (h + l / 4294967296 < (-2147483648)) = false := by simpa using c2
   have hin : inR T = true := by rw [inR_iff]; omega
   have e5 : IntKind.wrap .i64 ((h + l / 4294967296) * 4294967296) = (h + l / 4294967296) * 4294967296 := wrap_in (by rw [inR_iff]; omega)
   have e6 : (h + l / 4294967296) * 4294967296 + l % 4294967296 = T := by omega
   rw [d1, d2, hin, e5, e6, wrap_in hin]
   rfl

theorem cnt_any (l : List D) : ((0 : Int) + (cnt l : Int) == 0) = !(l.any isNum) := by
 unfold cnt
 induction l with
 | nil => rfl
 | cons y l ih =>
  rw [List.filter_cons, List.any_cons]
  cases isNum y with
  | true =>
   simp
   omega
  | false => simpa using ih

theorem env5 : EnvOK Tryd.prog (envOf T5) := (envOK_cons env4 c91)
end
end Go.Proofs.YtanjicjomcocmaaDoor
