/- Trees of functions, and lemmas. Nothing here is trusted. -/
import Derived.Test.YtanjicjomcocmaaGreatDoorZ16
import Derived.Test.YtanjicjomcocmaaGreatDoorRows
namespace Go.Proofs.YtanjicjomcocmaaGreatDoor
open Go.Ev
set_option linter.unusedVariables false
def T0 : Tab := []
def e70 : FuncId × TypeId × (List AV -> Bool) × (List AV -> Option D) := (70, 4, yes, ent [40] (f1 (fun x => some (.lit (.bool (mayB x))))))
def e61 : FuncId × TypeId × (List AV -> Bool) × (List AV -> Option D) := (61, 4, yes, ent [40] (f1 (fun x => some (.lit (.bool (mayB x))))))
def e71 : FuncId × TypeId × (List AV -> Bool) × (List AV -> Option D) := (71, 40, yes, ent [3] (f1 (fun x => some (.agg [.lit (.int .i64 0), .lit (.int .i64 (intD x))]))))
def e114 : FuncId × TypeId × (List AV -> Bool) × (List AV -> Option D) := (114, 40, yes, ent [] (f0 (some (.agg [.lit (.int .i64 2), .lit (.int .i64 0)]))))
def e108 : FuncId × TypeId × (List AV -> Bool) × (List AV -> Option D) := (108, 3, yes, ent [4] (f1 (fun x => some (.lit (.int .i64 (truthI (boolD x)))))))
def e111 : FuncId × TypeId × (List AV -> Bool) × (List AV -> Option D) := (111, 4, yes, ent [40] (f1 (fun x => some (.lit (.bool (isTru x))))))
def e103 : FuncId × TypeId × (List AV -> Bool) × (List AV -> Option D) := (103, 93, yes, ent [3, 3] (f2 (fun x y => some (.agg [.lit (.int .i64 (IntKind.wrap .i64 ((intD x) + (intD y)))), .lit (.bool (addOK (intD x) (intD y)))]))))
def e104 : FuncId × TypeId × (List AV -> Bool) × (List AV -> Option D) := (104, 93, yes, ent [3, 3] (f2 (fun x y => some (.agg [.lit (.int .i64 (IntKind.wrap .i64 ((intD x) - (intD y)))), .lit (.bool (subOK (intD x) (intD y)))]))))
def e105 : FuncId × TypeId × (List AV -> Bool) × (List AV -> Option D) := (105, 93, yes, ent [3, 3] (f2 (fun x y => some (.agg [.lit (.int .i64 (IntKind.wrap .i64 ((intD x) * (intD y)))), .lit (.bool (mulOK (intD x) (intD y)))]))))
def e106 : FuncId × TypeId × (List AV -> Bool) × (List AV -> Option D) := (106, 93, yes, ent [3, 3] (f2 (fun x y => some (.agg [.lit (.int .i64 (divV (intD x) (intD y))), .lit (.bool (divOK (intD x) (intD y)))]))))
def e113 : FuncId × TypeId × (List AV -> Bool) × (List AV -> Option D) := (113, 4, yes, ent [40] (f1 (fun x => some (.lit (.bool (isNum x))))))
def T1 : Tab := e70 :: e61 :: e71 :: e114 :: e108 :: e111 :: e103 :: e104 :: e105 :: e106 :: e113 :: T0
def e117 : FuncId × TypeId × (List AV -> Bool) × (List AV -> Option D) := (117, 40, yes, ent [40] (f1 (fun x => some (readD x))))
def e110 : FuncId × TypeId × (List AV -> Bool) × (List AV -> Option D) := (110, 4, yes, ent [40] (f1 (fun x => some (.lit (.bool (isFal x))))))
def T2 : Tab := e117 :: e110 :: T1
def e115 : FuncId × TypeId × (List AV -> Bool) × (List AV -> Option D) := (115, 4, yes, ent [40] (f1 (fun x => some (.lit (.bool (isErr x))))))
def e116 : FuncId × TypeId × (List AV -> Bool) × (List AV -> Option D) := (116, 4, yes, ent [40] (f1 (fun x => some (.lit (.bool (isNul x))))))
def T3 : Tab := e115 :: e116 :: T2
def e109 : FuncId × TypeId × (List AV -> Bool) × (List AV -> Option D) := (109, 4, yes, ent [53, 74] (f2 fun x y => match fnD y with | some 110 => some (.lit (.bool ((elemsD x).any isFal))) | some 111 => some (.lit (.bool ((elemsD x).any isTru))) | some 115 => some (.lit (.bool ((elemsD x).any isErr))) | some 113 => some (.lit (.bool ((elemsD x).any isNum))) | some 116 => some (.lit (.bool ((elemsD x).any isNul))) | _ => none))
def T4 : Tab := e109 :: T3
def e107 : FuncId × TypeId × (List AV -> Bool) × (List AV -> Option D) := (107, 40, yes, ent [3, 53] (f2 (fun x y => some (ifNum (intD x) (elemsD y)))))
def T5 : Tab := e107 :: T4
def e102 : FuncId × TypeId × (List AV -> Bool) × (List AV -> Option D) := (102, 40, yes, ent [107, 40, 40] (f3 fun x y z => match fnD x with | some 103 => some (addD y z) | some 104 => some (subD y z) | some 105 => some (mulD y z) | some 106 => some (divD y z) | _ => none))
def e91 : FuncId × TypeId × (List AV -> Bool) × (List AV -> Option D) := (91, 40, yes, ent [40, 40] (f2 (fun x y => some (eqV x y))))
def e92 : FuncId × TypeId × (List AV -> Bool) × (List AV -> Option D) := (92, 40, yes, ent [40, 40] (f2 (fun x y => some (ltV x y))))
def e93 : FuncId × TypeId × (List AV -> Bool) × (List AV -> Option D) := (93, 40, yes, ent [53] (f1 (fun x => some (andD (elemsD x)))))
def e94 : FuncId × TypeId × (List AV -> Bool) × (List AV -> Option D) := (94, 40, yes, ent [53] (f1 (fun x => some (orD (elemsD x)))))
def e95 : FuncId × TypeId × (List AV -> Bool) × (List AV -> Option D) := (95, 40, yes, ent [40] (f1 (fun x => some (notD x))))
def T6 : Tab := e102 :: e91 :: e92 :: e93 :: e94 :: e95 :: T5
def e87 : FuncId × TypeId × (List AV -> Bool) × (List AV -> Option D) := (87, 40, yes, ent [40, 40] (f2 (fun x y => some (addD x y))))
def e88 : FuncId × TypeId × (List AV -> Bool) × (List AV -> Option D) := (88, 40, yes, ent [40, 40] (f2 (fun x y => some (subD x y))))
def e89 : FuncId × TypeId × (List AV -> Bool) × (List AV -> Option D) := (89, 40, yes, ent [40, 40] (f2 (fun x y => some (mulD x y))))
def e90 : FuncId × TypeId × (List AV -> Bool) × (List AV -> Option D) := (90, 40, yes, ent [40, 40] (f2 (fun x y => some (divD x y))))
def T7 : Tab := e87 :: e88 :: e89 :: e90 :: T6
def T8 : Tab := T7
/- roadbook/val.May -/
def t70_h : Hints := fun _ =>  none
theorem t70 (N : Nat) (x0 : D) : evFn Tryz.prog (envOf T0) t70_h N Tryz.f70 [dat 40 x0] =
 bif (((intD (fieldD x0 0)) == 0) == false) then
  bif (((intD (fieldD x0 0)) == 1) == false) then
   bif (((intD (fieldD x0 0)) == 2) == true) then
    some (dat 4 (.lit (.bool ((intD (fieldD x0 1)) == 0))))
   else some (dat 4 (.lit (.bool false)))
  else some (dat 4 (.lit (.bool ((intD (fieldD x0 1)) == 0))))
 else some (dat 4 (.lit (.bool true))) := by kernel_rfl

/- roadbook/roadbookref01.May -/
def t61_h : Hints := fun _ =>  none
theorem t61 (N : Nat) (x0 : D) : evFn Tryz.prog (envOf T0) t61_h N Tryz.f61 [dat 40 x0] =
 bif (((intD (fieldD x0 0)) == 0) == false) then
  bif (((intD (fieldD x0 0)) == 1) == false) then
   bif (((intD (fieldD x0 0)) == 2) == true) then
    some (dat 4 (.lit (.bool ((intD (fieldD x0 1)) == 0))))
   else some (dat 4 (.lit (.bool false)))
  else some (dat 4 (.lit (.bool ((intD (fieldD x0 1)) == 0))))
 else some (dat 4 (.lit (.bool true))) := by kernel_rfl

/- roadbook/val.Of -/
def t71_h : Hints := fun _ =>  none
theorem t71 (N : Nat) (x0 : Int) : evFn Tryz.prog (envOf T0) t71_h N Tryz.f71 [dat 3 (.lit (.int .i64 x0))] =
 some (dat 40 (.agg [.lit (.int .i64 0), .lit (.int .i64 x0)])) := by kernel_rfl

/- roadbook/val.fault -/
def t114_h : Hints := fun _ =>  none
theorem t114 (N : Nat)  : evFn Tryz.prog (envOf T0) t114_h N Tryz.f114 [] =
 some (dat 40 (.agg [.lit (.int .i64 2), .lit (.int .i64 0)])) := by kernel_rfl

/- roadbook/val.truth -/
def t108_h : Hints := fun _ =>  none
theorem t108 (N : Nat) (x0 : Bool) : evFn Tryz.prog (envOf T0) t108_h N Tryz.f108 [dat 4 (.lit (.bool x0))] =
 bif x0 then
  some (dat 3 (.lit (.int .i64 1)))
 else some (dat 3 (.lit (.int .i64 0))) := by kernel_rfl

/- roadbook/val.True -/
def t111_h : Hints := fun _ =>  none
theorem t111 (N : Nat) (x0 : D) : evFn Tryz.prog (envOf T0) t111_h N Tryz.f111 [dat 40 x0] =
 bif (((intD (fieldD x0 0)) == 0) == true) then
  some (dat 4 (.lit (.bool ((intD (fieldD x0 1)) != 0))))
 else some (dat 4 (.lit (.bool false))) := by kernel_rfl

/- roadbook/val.plus -/
def t103_h : Hints := fun _ =>  none
theorem t103 (N : Nat) (x0 : Int) (x1 : Int) : evFn Tryz.prog (envOf T0) t103_h N Tryz.f103 [dat 3 (.lit (.int .i64 x0)), dat 3 (.lit (.int .i64 x1))] =
 some (tupA [3, 4] (.agg [.lit (.int .i64 (IntKind.wrap .i64 (x0 + x1))), .lit (.bool ((decide ((IntKind.wrap .i64 (x0 + x1)) < x0)) == (decide (x1 < 0))))])) := by kernel_rfl

/- roadbook/val.minus -/
def t104_h : Hints := fun _ =>  none
theorem t104 (N : Nat) (x0 : Int) (x1 : Int) : evFn Tryz.prog (envOf T0) t104_h N Tryz.f104 [dat 3 (.lit (.int .i64 x0)), dat 3 (.lit (.int .i64 x1))] =
 some (tupA [3, 4] (.agg [.lit (.int .i64 (IntKind.wrap .i64 (x0 - x1))), .lit (.bool ((decide ((IntKind.wrap .i64 (x0 - x1)) > x0)) == (decide (x1 < 0))))])) := by kernel_rfl

/- roadbook/val.times -/
def t105_h : Hints := fun _ =>  none
theorem t105 (N : Nat) (x0 : Int) (x1 : Int) : evFn Tryz.prog (envOf T0) t105_h N Tryz.f105 [dat 3 (.lit (.int .i64 x0)), dat 3 (.lit (.int .i64 x1))] =
 bif (x0 == 0) then
  some (tupA [3, 4] (.agg [.lit (.int .i64 (IntKind.wrap .i64 (x0 * x1))), .lit (.bool true)]))
 else bif (x0 == (-1)) then
   some (tupA [3, 4] (.agg [.lit (.int .i64 (IntKind.wrap .i64 (x0 * x1))), .lit (.bool (x1 != (-9223372036854775808)))]))
  else bif (!(x0 == 0)) then
    some (tupA [3, 4] (.agg [.lit (.int .i64 (IntKind.wrap .i64 (x0 * x1))), .lit (.bool ((IntKind.wrap .i64 (Int.tdiv (IntKind.wrap .i64 (x0 * x1)) x0)) == x1))]))
   else none := by kernel_rfl

/- roadbook/val.over -/
def t106_h : Hints := fun _ =>  none
theorem t106 (N : Nat) (x0 : Int) (x1 : Int) : evFn Tryz.prog (envOf T0) t106_h N Tryz.f106 [dat 3 (.lit (.int .i64 x0)), dat 3 (.lit (.int .i64 x1))] =
 bif ((x1 == 0) == false) then
  bif ((x0 == (-9223372036854775808)) == true) then
   bif (x1 == (-1)) then
    some (tupA [3, 4] (.agg [.lit (.int .i64 0), .lit (.bool false)]))
   else bif (!(x1 == 0)) then
     some (tupA [3, 4] (.agg [.lit (.int .i64 (IntKind.wrap .i64 (Int.tdiv x0 x1))), .lit (.bool true)]))
    else none
  else bif (!(x1 == 0)) then
    some (tupA [3, 4] (.agg [.lit (.int .i64 (IntKind.wrap .i64 (Int.tdiv x0 x1))), .lit (.bool true)]))
   else none
 else some (tupA [3, 4] (.agg [.lit (.int .i64 0), .lit (.bool false)])) := by kernel_rfl

/- roadbook/val.isNumber -/
def t113_h : Hints := fun _ =>  none
theorem t113 (N : Nat) (x0 : D) : evFn Tryz.prog (envOf T0) t113_h N Tryz.f113 [dat 40 x0] =
 some (dat 4 (.lit (.bool ((intD (fieldD x0 0)) == 0)))) := by kernel_rfl

/- roadbook/val.read -/
def t117_h : Hints := fun _ =>  none
theorem t117 (N : Nat) (x0 : D) : evFn Tryz.prog (envOf T1) t117_h N Tryz.f117 [dat 40 x0] =
 bif mayB x0 then
  some (dat 40 x0)
 else some (dat 40 (.agg [.lit (.int .i64 2), .lit (.int .i64 0)])) := by kernel_rfl

/- roadbook/val.isFalse -/
def t110_h : Hints := fun _ =>  none
theorem t110 (N : Nat) (x0 : D) : evFn Tryz.prog (envOf T1) t110_h N Tryz.f110 [dat 40 x0] =
 some (dat 4 (.lit (.bool (((intD (fieldD x0 0)) == 0) && (((intD (fieldD x0 1)) == 0) && true))))) := by kernel_rfl

/- roadbook/val.isError -/
def t115_h : Hints := fun _ =>  none
theorem t115 (N : Nat) (x0 : D) : evFn Tryz.prog (envOf T2) t115_h N Tryz.f115 [dat 40 x0] =
 some (dat 4 (.lit (.bool ((intD (fieldD (readD x0) 0)) == 2)))) := by kernel_rfl

/- roadbook/val.isNothing -/
def t116_h : Hints := fun _ =>  none
theorem t116 (N : Nat) (x0 : D) : evFn Tryz.prog (envOf T2) t116_h N Tryz.f116 [dat 40 x0] =
 some (dat 4 (.lit (.bool ((intD (fieldD (readD x0) 0)) == 1)))) := by kernel_rfl

/- roadbook/val.some[roadbook/api.Val] -/
def t109_110_h : Hints := fun i => if i = 2 then some ([0, 2, 3, 4, 5, 6, 10, 11, 12, 13, 14, 15, 16], [], []) else none
def t109_110_lp2 (P : Program) (fn : Func) (N n : Nat) (x0 : D) (v9 : Int) : Option AV := evLoop (preL t109_110_h (sub [1, 0, 1, 0, 0] (bodyOf fn))) (evCode P (envOf T3) t109_110_h N (sub [1, 0, 1, 0, 0] (bodyOf fn))) n ⟨[dead, dat 74 (.held (.func (.func 110) #[] #[])), dead, dead, dead, dead, dead, dat 53 x0, dat 3 (.lit (.int .i64 ((elemsD x0).length : Int))), dat 3 (.lit (.int .i64 v9)), dead, dead, dead, dead, dead, dead, dead], lookB []⟩ (blockK 0 (seqC P (envOf T3) t109_110_h N (sub [1, 1] (bodyOf fn)) (finK P fn) ))
theorem t109_110_lp2_step (N n : Nat) (x0 : D) (v9 : Int) : t109_110_lp2 Tryz.prog Tryz.f109 N (n + 1) x0 v9 =
 bif decide (v9 < ((elemsD x0).length : Int)) then
  bif (decide (0 <= v9) && decide (v9 < ((elemsD x0).length : Int))) then
   bif isFal ((elemsD x0).getD (v9).toNat .nil) then
    some (dat 4 (.lit (.bool true)))
   else t109_110_lp2 Tryz.prog Tryz.f109 N n x0 (IntKind.wrap .i64 (v9 + 1))
  else none
 else some (dat 4 (.lit (.bool false))) := by kernel_rfl
theorem t109_110 (N : Nat) (x0 : D) : evFn Tryz.prog (envOf T3) t109_110_h N Tryz.f109 [dat 53 x0, dat 74 (.held (.func (.func 110) #[] #[]))] =
 t109_110_lp2 Tryz.prog Tryz.f109 N N x0 0 := by kernel_rfl

/- roadbook/val.some[roadbook/api.Val] -/
def t109_111_h : Hints := fun i => if i = 2 then some ([0, 2, 3, 4, 5, 6, 10, 11, 12, 13, 14, 15, 16], [], []) else none
def t109_111_lp2 (P : Program) (fn : Func) (N n : Nat) (x0 : D) (v9 : Int) : Option AV := evLoop (preL t109_111_h (sub [1, 0, 1, 0, 0] (bodyOf fn))) (evCode P (envOf T3) t109_111_h N (sub [1, 0, 1, 0, 0] (bodyOf fn))) n ⟨[dead, dat 74 (.held (.func (.func 111) #[] #[])), dead, dead, dead, dead, dead, dat 53 x0, dat 3 (.lit (.int .i64 ((elemsD x0).length : Int))), dat 3 (.lit (.int .i64 v9)), dead, dead, dead, dead, dead, dead, dead], lookB []⟩ (blockK 0 (seqC P (envOf T3) t109_111_h N (sub [1, 1] (bodyOf fn)) (finK P fn) ))
theorem t109_111_lp2_step (N n : Nat) (x0 : D) (v9 : Int) : t109_111_lp2 Tryz.prog Tryz.f109 N (n + 1) x0 v9 =
 bif decide (v9 < ((elemsD x0).length : Int)) then
  bif (decide (0 <= v9) && decide (v9 < ((elemsD x0).length : Int))) then
   bif isTru ((elemsD x0).getD (v9).toNat .nil) then
    some (dat 4 (.lit (.bool true)))
   else t109_111_lp2 Tryz.prog Tryz.f109 N n x0 (IntKind.wrap .i64 (v9 + 1))
  else none
 else some (dat 4 (.lit (.bool false))) := by kernel_rfl
theorem t109_111 (N : Nat) (x0 : D) : evFn Tryz.prog (envOf T3) t109_111_h N Tryz.f109 [dat 53 x0, dat 74 (.held (.func (.func 111) #[] #[]))] =
 t109_111_lp2 Tryz.prog Tryz.f109 N N x0 0 := by kernel_rfl

/- roadbook/val.some[roadbook/api.Val] -/
def t109_115_h : Hints := fun i => if i = 2 then some ([0, 2, 3, 4, 5, 6, 10, 11, 12, 13, 14, 15, 16], [], []) else none
def t109_115_lp2 (P : Program) (fn : Func) (N n : Nat) (x0 : D) (v9 : Int) : Option AV := evLoop (preL t109_115_h (sub [1, 0, 1, 0, 0] (bodyOf fn))) (evCode P (envOf T3) t109_115_h N (sub [1, 0, 1, 0, 0] (bodyOf fn))) n ⟨[dead, dat 74 (.held (.func (.func 115) #[] #[])), dead, dead, dead, dead, dead, dat 53 x0, dat 3 (.lit (.int .i64 ((elemsD x0).length : Int))), dat 3 (.lit (.int .i64 v9)), dead, dead, dead, dead, dead, dead, dead], lookB []⟩ (blockK 0 (seqC P (envOf T3) t109_115_h N (sub [1, 1] (bodyOf fn)) (finK P fn) ))
theorem t109_115_lp2_step (N n : Nat) (x0 : D) (v9 : Int) : t109_115_lp2 Tryz.prog Tryz.f109 N (n + 1) x0 v9 =
 bif decide (v9 < ((elemsD x0).length : Int)) then
  bif (decide (0 <= v9) && decide (v9 < ((elemsD x0).length : Int))) then
   bif isErr ((elemsD x0).getD (v9).toNat .nil) then
    some (dat 4 (.lit (.bool true)))
   else t109_115_lp2 Tryz.prog Tryz.f109 N n x0 (IntKind.wrap .i64 (v9 + 1))
  else none
 else some (dat 4 (.lit (.bool false))) := by kernel_rfl
theorem t109_115 (N : Nat) (x0 : D) : evFn Tryz.prog (envOf T3) t109_115_h N Tryz.f109 [dat 53 x0, dat 74 (.held (.func (.func 115) #[] #[]))] =
 t109_115_lp2 Tryz.prog Tryz.f109 N N x0 0 := by kernel_rfl

/- roadbook/val.some[roadbook/api.Val] -/
def t109_113_h : Hints := fun i => if i = 2 then some ([0, 2, 3, 4, 5, 6, 10, 11, 12, 13, 14, 15, 16], [], []) else none
def t109_113_lp2 (P : Program) (fn : Func) (N n : Nat) (x0 : D) (v9 : Int) : Option AV := evLoop (preL t109_113_h (sub [1, 0, 1, 0, 0] (bodyOf fn))) (evCode P (envOf T3) t109_113_h N (sub [1, 0, 1, 0, 0] (bodyOf fn))) n ⟨[dead, dat 74 (.held (.func (.func 113) #[] #[])), dead, dead, dead, dead, dead, dat 53 x0, dat 3 (.lit (.int .i64 ((elemsD x0).length : Int))), dat 3 (.lit (.int .i64 v9)), dead, dead, dead, dead, dead, dead, dead], lookB []⟩ (blockK 0 (seqC P (envOf T3) t109_113_h N (sub [1, 1] (bodyOf fn)) (finK P fn) ))
theorem t109_113_lp2_step (N n : Nat) (x0 : D) (v9 : Int) : t109_113_lp2 Tryz.prog Tryz.f109 N (n + 1) x0 v9 =
 bif decide (v9 < ((elemsD x0).length : Int)) then
  bif (decide (0 <= v9) && decide (v9 < ((elemsD x0).length : Int))) then
   bif isNum ((elemsD x0).getD (v9).toNat .nil) then
    some (dat 4 (.lit (.bool true)))
   else t109_113_lp2 Tryz.prog Tryz.f109 N n x0 (IntKind.wrap .i64 (v9 + 1))
  else none
 else some (dat 4 (.lit (.bool false))) := by kernel_rfl
theorem t109_113 (N : Nat) (x0 : D) : evFn Tryz.prog (envOf T3) t109_113_h N Tryz.f109 [dat 53 x0, dat 74 (.held (.func (.func 113) #[] #[]))] =
 t109_113_lp2 Tryz.prog Tryz.f109 N N x0 0 := by kernel_rfl

/- roadbook/val.some[roadbook/api.Val] -/
def t109_116_h : Hints := fun i => if i = 2 then some ([0, 2, 3, 4, 5, 6, 10, 11, 12, 13, 14, 15, 16], [], []) else none
def t109_116_lp2 (P : Program) (fn : Func) (N n : Nat) (x0 : D) (v9 : Int) : Option AV := evLoop (preL t109_116_h (sub [1, 0, 1, 0, 0] (bodyOf fn))) (evCode P (envOf T3) t109_116_h N (sub [1, 0, 1, 0, 0] (bodyOf fn))) n ⟨[dead, dat 74 (.held (.func (.func 116) #[] #[])), dead, dead, dead, dead, dead, dat 53 x0, dat 3 (.lit (.int .i64 ((elemsD x0).length : Int))), dat 3 (.lit (.int .i64 v9)), dead, dead, dead, dead, dead, dead, dead], lookB []⟩ (blockK 0 (seqC P (envOf T3) t109_116_h N (sub [1, 1] (bodyOf fn)) (finK P fn) ))
theorem t109_116_lp2_step (N n : Nat) (x0 : D) (v9 : Int) : t109_116_lp2 Tryz.prog Tryz.f109 N (n + 1) x0 v9 =
 bif decide (v9 < ((elemsD x0).length : Int)) then
  bif (decide (0 <= v9) && decide (v9 < ((elemsD x0).length : Int))) then
   bif isNul ((elemsD x0).getD (v9).toNat .nil) then
    some (dat 4 (.lit (.bool true)))
   else t109_116_lp2 Tryz.prog Tryz.f109 N n x0 (IntKind.wrap .i64 (v9 + 1))
  else none
 else some (dat 4 (.lit (.bool false))) := by kernel_rfl
theorem t109_116 (N : Nat) (x0 : D) : evFn Tryz.prog (envOf T3) t109_116_h N Tryz.f109 [dat 53 x0, dat 74 (.held (.func (.func 116) #[] #[]))] =
 t109_116_lp2 Tryz.prog Tryz.f109 N N x0 0 := by kernel_rfl

/- roadbook/val.ifNumbers -/
def t107_h : Hints := fun _ =>  none
theorem t107 (N : Nat) (x0 : Int) (x1 : D) : evFn Tryz.prog (envOf T4) t107_h N Tryz.f107 [dat 3 (.lit (.int .i64 x0)), dat 53 x1] =
 bif (elemsD x1).any isErr then
  some (dat 40 (.agg [.lit (.int .i64 2), .lit (.int .i64 0)]))
 else bif (elemsD x1).any isNul then
   some (dat 40 (.agg [.lit (.int .i64 1), .lit (.int .i64 0)]))
  else some (dat 40 (.agg [.lit (.int .i64 0), .lit (.int .i64 x0)])) := by kernel_rfl

/- roadbook/val.reckon -/
def t102_103_h : Hints := fun _ =>  none
theorem t102_103 (N : Nat) (x1 : D) (x2 : D) : evFn Tryz.prog (envOf T5) t102_103_h N Tryz.f102 [dat 107 (.held (.func (.func 103) #[] #[])), dat 40 x1, dat 40 x2] =
 bif (!(isNum (ifNum 0 [x1, x2]))) then
  some (dat 40 (ifNum 0 [x1, x2]))
 else bif (!(addOK (intD (fieldD x1 1)) (intD (fieldD x2 1)))) then
   some (dat 40 (.agg [.lit (.int .i64 2), .lit (.int .i64 0)]))
  else some (dat 40 (.agg [.lit (.int .i64 0), .lit (.int .i64 (IntKind.wrap .i64 ((intD (fieldD x1 1)) + (intD (fieldD x2 1)))))])) := by kernel_rfl

/- roadbook/val.reckon -/
def t102_104_h : Hints := fun _ =>  none
theorem t102_104 (N : Nat) (x1 : D) (x2 : D) : evFn Tryz.prog (envOf T5) t102_104_h N Tryz.f102 [dat 107 (.held (.func (.func 104) #[] #[])), dat 40 x1, dat 40 x2] =
 bif (!(isNum (ifNum 0 [x1, x2]))) then
  some (dat 40 (ifNum 0 [x1, x2]))
 else bif (!(subOK (intD (fieldD x1 1)) (intD (fieldD x2 1)))) then
   some (dat 40 (.agg [.lit (.int .i64 2), .lit (.int .i64 0)]))
  else some (dat 40 (.agg [.lit (.int .i64 0), .lit (.int .i64 (IntKind.wrap .i64 ((intD (fieldD x1 1)) - (intD (fieldD x2 1)))))])) := by kernel_rfl

/- roadbook/val.reckon -/
def t102_105_h : Hints := fun _ =>  none
theorem t102_105 (N : Nat) (x1 : D) (x2 : D) : evFn Tryz.prog (envOf T5) t102_105_h N Tryz.f102 [dat 107 (.held (.func (.func 105) #[] #[])), dat 40 x1, dat 40 x2] =
 bif (!(isNum (ifNum 0 [x1, x2]))) then
  some (dat 40 (ifNum 0 [x1, x2]))
 else bif (!(mulOK (intD (fieldD x1 1)) (intD (fieldD x2 1)))) then
   some (dat 40 (.agg [.lit (.int .i64 2), .lit (.int .i64 0)]))
  else some (dat 40 (.agg [.lit (.int .i64 0), .lit (.int .i64 (IntKind.wrap .i64 ((intD (fieldD x1 1)) * (intD (fieldD x2 1)))))])) := by kernel_rfl

/- roadbook/val.reckon -/
def t102_106_h : Hints := fun _ =>  none
theorem t102_106 (N : Nat) (x1 : D) (x2 : D) : evFn Tryz.prog (envOf T5) t102_106_h N Tryz.f102 [dat 107 (.held (.func (.func 106) #[] #[])), dat 40 x1, dat 40 x2] =
 bif (!(isNum (ifNum 0 [x1, x2]))) then
  some (dat 40 (ifNum 0 [x1, x2]))
 else bif (!(divOK (intD (fieldD x1 1)) (intD (fieldD x2 1)))) then
   some (dat 40 (.agg [.lit (.int .i64 2), .lit (.int .i64 0)]))
  else some (dat 40 (.agg [.lit (.int .i64 0), .lit (.int .i64 (divV (intD (fieldD x1 1)) (intD (fieldD x2 1))))])) := by kernel_rfl

/- roadbook/val.Eq -/
def t91_h : Hints := fun _ =>  none
theorem t91 (N : Nat) (x0 : D) (x1 : D) : evFn Tryz.prog (envOf T5) t91_h N Tryz.f91 [dat 40 x0, dat 40 x1] =
 some (dat 40 (ifNum (truthI ((intD (fieldD x0 1)) == (intD (fieldD x1 1)))) [x0, x1])) := by kernel_rfl

/- roadbook/val.Lt -/
def t92_h : Hints := fun _ =>  none
theorem t92 (N : Nat) (x0 : D) (x1 : D) : evFn Tryz.prog (envOf T5) t92_h N Tryz.f92 [dat 40 x0, dat 40 x1] =
 some (dat 40 (ifNum (truthI (decide ((intD (fieldD x0 1)) < (intD (fieldD x1 1))))) [x0, x1])) := by kernel_rfl

/- roadbook/val.And -/
def t93_h : Hints := fun _ =>  none
theorem t93 (N : Nat) (x0 : D) : evFn Tryz.prog (envOf T5) t93_h N Tryz.f93 [dat 53 x0] =
 bif (elemsD x0).any isFal then
  some (dat 40 (.agg [.lit (.int .i64 0), .lit (.int .i64 0)]))
 else some (dat 40 (ifNum 1 (elemsD x0))) := by kernel_rfl

/- roadbook/val.Or -/
def t94_h : Hints := fun _ =>  none
theorem t94 (N : Nat) (x0 : D) : evFn Tryz.prog (envOf T5) t94_h N Tryz.f94 [dat 53 x0] =
 bif (elemsD x0).any isTru then
  some (dat 40 (.agg [.lit (.int .i64 0), .lit (.int .i64 1)]))
 else some (dat 40 (ifNum 0 (elemsD x0))) := by kernel_rfl

/- roadbook/val.Not -/
def t95_h : Hints := fun _ =>  none
theorem t95 (N : Nat) (x0 : D) : evFn Tryz.prog (envOf T5) t95_h N Tryz.f95 [dat 40 x0] =
 some (dat 40 (ifNum (truthI (isFal x0)) [x0])) := by kernel_rfl

/- roadbook/val.Add -/
def t87_h : Hints := fun _ =>  none
theorem t87 (N : Nat) (x0 : D) (x1 : D) : evFn Tryz.prog (envOf T6) t87_h N Tryz.f87 [dat 40 x0, dat 40 x1] =
 some (dat 40 (addD x0 x1)) := by kernel_rfl

/- roadbook/val.Sub -/
def t88_h : Hints := fun _ =>  none
theorem t88 (N : Nat) (x0 : D) (x1 : D) : evFn Tryz.prog (envOf T6) t88_h N Tryz.f88 [dat 40 x0, dat 40 x1] =
 some (dat 40 (subD x0 x1)) := by kernel_rfl

/- roadbook/val.Mul -/
def t89_h : Hints := fun _ =>  none
theorem t89 (N : Nat) (x0 : D) (x1 : D) : evFn Tryz.prog (envOf T6) t89_h N Tryz.f89 [dat 40 x0, dat 40 x1] =
 some (dat 40 (mulD x0 x1)) := by kernel_rfl

/- roadbook/val.Div -/
def t90_h : Hints := fun _ =>  none
theorem t90 (N : Nat) (x0 : D) (x1 : D) : evFn Tryz.prog (envOf T6) t90_h N Tryz.f90 [dat 40 x0, dat 40 x1] =
 some (dat 40 (divD x0 x1)) := by kernel_rfl
section
set_option linter.unusedSimpArgs false
theorem hm : Tryz.prog.follows .mixedOrders = true := by kernel_rfl
theorem n23 (x : D) : normD Tryz.prog 40 x = x := by kernel_rfl
theorem n28 (x : D) : normD Tryz.prog 53 x = x := by kernel_rfl
theorem n25 (x : D) : normD Tryz.prog 74 x = x := by kernel_rfl
theorem n40 (x : D) : normD Tryz.prog 107 x = x := by kernel_rfl
theorem n3 (x : D) : normD Tryz.prog 3 x = .lit (.int .i64 (intD x)) := by kernel_rfl
theorem n4 (x : D) : normD Tryz.prog 4 x = .lit (.bool (boolD x)) := by kernel_rfl
theorem m23 (x : D) : mkRes Tryz.prog 40 x = dat 40 x := by kernel_rfl
theorem m28 (x : D) : mkRes Tryz.prog 53 x = dat 53 x := by kernel_rfl
theorem m3 (x : D) : mkRes Tryz.prog 3 x = dat 3 (.lit (.int .i64 (intD x))) := by kernel_rfl
theorem m4 (x : D) : mkRes Tryz.prog 4 x = dat 4 (.lit (.bool (boolD x))) := by kernel_rfl
theorem m49 (x : D) : mkRes Tryz.prog 93 x = tupA [3, 4] x := by kernel_rfl
theorem u23 : ∃ f g : Field, Tryz.prog.underlying 40 = some (.struct #[f, g]) /\ f.type = 3 /\ g.type = 3 := ⟨_, _, Tryz.underlying40, rfl, rfl⟩
theorem u3 : Tryz.prog.underlying 3 = some (.int .i64) := by kernel_rfl
theorem u28 : Tryz.prog.underlying 53 = some (.slice 40) := by kernel_rfl
theorem u25 : Tryz.prog.underlying 74 = some (.func #[40] #[4] false) := by kernel_rfl

theorem ty3 {n : Nat} {x : D} (h : Ty Tryz.prog n 3 x) : inR (intD x) = true := by
 cases n with
 | zero => exact h.elim
 | succ n =>
  unfold Ty at h
  rw [u3] at h
  split at h <;> try (exact h.elim)
  all_goals try (simp_all; done)
  rename_i k k' z heq
  cases heq
  obtain ⟨rfl, hw⟩ := h
  exact wf_inR hw

theorem ty3' {n : Nat} {x : D} (h : Ty Tryz.prog n 3 x) : ∃ z, x = .lit (.int .i64 z) /\ inR z = true := by
 cases n with
 | zero => exact h.elim
 | succ n =>
  unfold Ty at h
  rw [u3] at h
  split at h <;> try (exact h.elim)
  all_goals try (simp_all; done)
  rename_i k k' z heq
  cases heq
  obtain ⟨rfl, hw⟩ := h
  exact ⟨z, rfl, wf_inR hw⟩

theorem ty23 {n : Nat} {x : D} (h : Ty Tryz.prog n 40 x) : ∃ k m, x = vv k m /\ inR k = true /\ inR m = true := by
 obtain ⟨f, g, hu, hf, hg⟩ := u23
 cases n with
 | zero => exact h.elim
 | succ n =>
  unfold Ty at h
  rw [hu] at h
  split at h <;> try (exact h.elim)
  all_goals try (simp_all; done)
  rename_i fs ps heq
  cases heq
  obtain ⟨hl, hp⟩ := h
  match ps, hl with
  | [a, b], _ =>
   have h0 := hp 0 f rfl
   have h1 := hp 1 g rfl
   rw [hf] at h0
   rw [hg] at h1
   obtain ⟨k, ek, hk⟩ := ty3' h0
   obtain ⟨m, em, hm⟩ := ty3' h1
   simp at ek em
   subst ek em
   exact ⟨k, m, rfl, hk, hm⟩

theorem ty28 {n : Nat} {x : D} (h : Ty Tryz.prog n 53 x) : ∃ es, x = .slice es [] /\ es.length <= maxLen /\ ∀ y ∈ es, ∃ k m, y = vv k m /\ inR k = true /\ inR m = true := by
 cases n with
 | zero => exact h.elim
 | succ n =>
  unfold Ty at h
  rw [u28] at h
  split at h <;> try (exact h.elim)
  all_goals try (simp_all; done)
  rename_i e es sp heq
  cases heq
  obtain ⟨rfl, hl, hp⟩ := h
  exact ⟨es, rfl, hl, fun y hy => ty23 (hp y hy)⟩

theorem kk_vv (k m : Int) : kk (vv k m) = k := rfl
theorem nn_vv (k m : Int) : nn (vv k m) = m := rfl

theorem env0 : EnvOK Tryz.prog (envOf T0) := envOK_nil

/-! ### Leaves -/
theorem k70 : FnOK Tryz.prog 70 Tryz.f70 := ⟨Tryz.func70, rfl, by kernel_rfl⟩
theorem c70 : ∀ args d, ent [40] (f1 fun x => some (.lit (.bool (mayB x)))) args = some d -> CallOK Tryz.prog 70 args (mkRes Tryz.prog 4 d) :=
 ent1 k70 fun x d h _ => by
  cases h
  rw [n23]
  refine fn_ok hm env0 k70 ((t70 1 x).trans ?_)
  rw [m4]
  simp only [boolD, mayB, kk, nn]
  cases (intD (fieldD x 0) == 0) <;> cases (intD (fieldD x 0) == 1) <;> cases (intD (fieldD x 0) == 2) <;> rfl
theorem k61 : FnOK Tryz.prog 61 Tryz.f61 := ⟨Tryz.func61, rfl, by kernel_rfl⟩
theorem c61 : ∀ args d, ent [40] (f1 fun x => some (.lit (.bool (mayB x)))) args = some d -> CallOK Tryz.prog 61 args (mkRes Tryz.prog 4 d) :=
 ent1 k61 fun x d h _ => by
  cases h
  rw [n23]
  refine fn_ok hm env0 k61 ((t61 1 x).trans ?_)
  rw [m4]
  simp only [boolD, mayB, kk, nn]
  cases (intD (fieldD x 0) == 0) <;> cases (intD (fieldD x 0) == 1) <;> cases (intD (fieldD x 0) == 2) <;> rfl
theorem k71 : FnOK Tryz.prog 71 Tryz.f71 := ⟨Tryz.func71, rfl, by kernel_rfl⟩
theorem c71 : ∀ args d, ent [3] (f1 fun x => some (.agg [.lit (.int .i64 0), .lit (.int .i64 (intD x))])) args = some d -> CallOK Tryz.prog 71 args (mkRes Tryz.prog 40 d) :=
 ent1 k71 fun x d h _ => by
  cases h
  rw [n3]
  refine fn_ok hm env0 k71 ((t71 1 (intD x)).trans ?_)
  rw [m23]
theorem k114 : FnOK Tryz.prog 114 Tryz.f114 := ⟨Tryz.func114, rfl, by kernel_rfl⟩
theorem c114 : ∀ args d, ent [] (f0 (some (.agg [.lit (.int .i64 2), .lit (.int .i64 0)]))) args = some d -> CallOK Tryz.prog 114 args (mkRes Tryz.prog 40 d) :=
 ent0 fun d h => by
  cases h
  refine fn_ok hm env0 k114 ((t114 1).trans ?_)
  rw [m23]
theorem k108 : FnOK Tryz.prog 108 Tryz.f108 := ⟨Tryz.func108, rfl, by kernel_rfl⟩
theorem c108 : ∀ args d, ent [4] (f1 fun x => some (.lit (.int .i64 (truthI (boolD x))))) args = some d -> CallOK Tryz.prog 108 args (mkRes Tryz.prog 3 d) :=
 ent1 k108 fun x d h _ => by
  cases h
  rw [n4]
  refine fn_ok hm env0 k108 ((t108 1 (boolD x)).trans ?_)
  rw [m3]
  simp only [intD, truthI]
  cases boolD x <;> rfl
theorem k111 : FnOK Tryz.prog 111 Tryz.f111 := ⟨Tryz.func111, rfl, by kernel_rfl⟩
theorem c111 : ∀ args d, ent [40] (f1 fun x => some (.lit (.bool (isTru x)))) args = some d -> CallOK Tryz.prog 111 args (mkRes Tryz.prog 4 d) :=
 ent1 k111 fun x d h _ => by
  cases h
  rw [n23]
  refine fn_ok hm env0 k111 ((t111 1 x).trans ?_)
  rw [m4]
  simp only [boolD, isTru, kk, nn]
  cases (intD (fieldD x 0) == 0) <;> rfl
theorem k103 : FnOK Tryz.prog 103 Tryz.f103 := ⟨Tryz.func103, rfl, by kernel_rfl⟩
theorem c103 : ∀ args d, ent [3, 3] (f2 fun x y => some (.agg [.lit (.int .i64 (IntKind.wrap .i64 ((intD x) + (intD y)))), .lit (.bool (addOK (intD x) (intD y)))])) args = some d -> CallOK Tryz.prog 103 args (mkRes Tryz.prog 93 d) :=
 ent2 k103 fun x y d h ⟨_, hx⟩ ⟨_, hy⟩ => by
  cases h
  rw [n3, n3]
  refine fn_ok hm env0 k103 ((t103 1 (intD x) (intD y)).trans ?_)
  rw [m49, plus_fits (ty3 hx) (ty3 hy)]
  rfl
theorem k104 : FnOK Tryz.prog 104 Tryz.f104 := ⟨Tryz.func104, rfl, by kernel_rfl⟩
theorem c104 : ∀ args d, ent [3, 3] (f2 fun x y => some (.agg [.lit (.int .i64 (IntKind.wrap .i64 ((intD x) - (intD y)))), .lit (.bool (subOK (intD x) (intD y)))])) args = some d -> CallOK Tryz.prog 104 args (mkRes Tryz.prog 93 d) :=
 ent2 k104 fun x y d h ⟨_, hx⟩ ⟨_, hy⟩ => by
  cases h
  rw [n3, n3]
  refine fn_ok hm env0 k104 ((t104 1 (intD x) (intD y)).trans ?_)
  rw [m49, minus_fits (ty3 hx) (ty3 hy)]
  rfl
theorem k105 : FnOK Tryz.prog 105 Tryz.f105 := ⟨Tryz.func105, rfl, by kernel_rfl⟩
theorem c105 : ∀ args d, ent [3, 3] (f2 fun x y => some (.agg [.lit (.int .i64 (IntKind.wrap .i64 ((intD x) * (intD y)))), .lit (.bool (mulOK (intD x) (intD y)))])) args = some d -> CallOK Tryz.prog 105 args (mkRes Tryz.prog 93 d) :=
 ent2 k105 fun x y d h ⟨_, hx⟩ ⟨_, hy⟩ => by
  cases h
  rw [n3, n3]
  refine fn_ok hm env0 k105 ((t105 1 (intD x) (intD y)).trans ?_)
  have hx' := ty3 hx
  have hy' := ty3 hy
  generalize intD x = a at *
  generalize intD y = b at *
  rw [m49]
  by_cases h0 : a = 0
  ·subst h0
   simp [mulOK, inR]
  ·have h0' : (a == 0) = false := by simpa using h0
   by_cases h1 : a = -1
   ·subst h1
    have : (b != (-9223372036854775808)) = mulOK (-1) b := by
     rw [inR_iff] at hy'
     unfold mulOK
     cases hm' : inR (-1 * b)
     ·rw [inR_not] at hm'
      have : b = -9223372036854775808 := by omega
      simp [this]
     ·rw [inR_iff] at hm'
      have : b ≠ -9223372036854775808 := by omega
      simpa using this
    rw [this]
    rfl
   ·have h1' : (a == (-1)) = false := by simpa using h1
    rw [h0', h1', quot_fits hx' hy' h0 h1]
    rfl
theorem k106 : FnOK Tryz.prog 106 Tryz.f106 := ⟨Tryz.func106, rfl, by kernel_rfl⟩
theorem c106 : ∀ args d, ent [3, 3] (f2 fun x y => some (.agg [.lit (.int .i64 (divV (intD x) (intD y))), .lit (.bool (divOK (intD x) (intD y)))])) args = some d -> CallOK Tryz.prog 106 args (mkRes Tryz.prog 93 d) :=
 ent2 k106 fun x y d h ⟨_, hx⟩ ⟨_, hy⟩ => by
  cases h
  rw [n3, n3]
  refine fn_ok hm env0 k106 ((t106 1 (intD x) (intD y)).trans ?_)
  have hx' := ty3 hx
  have hy' := ty3 hy
  generalize intD x = a at *
  generalize intD y = b at *
  rw [m49]
  unfold divV divOK
  by_cases h0 : b = 0
  ·subst h0; rfl
  ·have h0' : (b == 0) = false := by simpa using h0
   have ht := tdiv_fits hx' h0
   rw [h0', ht]
   cases ha : (a == -9223372036854775808) <;> cases hb : (b == -1) <;> simp [ha, hb] at ht ⊢
   all_goals rw [wrap_in ht]
theorem k113 : FnOK Tryz.prog 113 Tryz.f113 := ⟨Tryz.func113, rfl, by kernel_rfl⟩
theorem c113 : ∀ args d, ent [40] (f1 fun x => some (.lit (.bool (isNum x)))) args = some d -> CallOK Tryz.prog 113 args (mkRes Tryz.prog 4 d) :=
 ent1 k113 fun x d h _ => by
  cases h
  rw [n23]
  refine fn_ok hm env0 k113 ((t113 1 x).trans ?_)
  rw [m4]
  rfl

theorem env1 : EnvOK Tryz.prog (envOf T1) := (envOK_cons (envOK_cons (envOK_cons (envOK_cons (envOK_cons (envOK_cons (envOK_cons (envOK_cons (envOK_cons (envOK_cons (envOK_cons env0 c113) c106) c105) c104) c103) c111) c108) c114) c71) c61) c70)
end
section
set_option linter.unusedSimpArgs false
/-- A value that counts as it stands, by cases. -/
theorem read_cases (k m : Int) : (k = 0 /\ readD (vv k m) = vv 0 m) \/ (k = 1 /\ m = 0 /\ readD (vv k m) = vv 1 0) \/ (k ≠ 0 /\ ¬ (k = 1 /\ m = 0) /\ readD (vv k m) = vv 2 0) := by
 by_cases h0 : k = 0
 ·subst h0; exact .inl ⟨rfl, rfl⟩
 ·by_cases h1 : k = 1 /\ m = 0
  ·obtain ⟨rfl, rfl⟩ := h1; exact .inr (.inl ⟨rfl, rfl, rfl⟩)
  ·refine .inr (.inr ⟨h0, h1, ?_⟩)
   unfold readD mayB
   rw [kk_vv, nn_vv]
   have e0 : (k == 0) = false := by simpa using h0
   rw [e0]
   by_cases h2 : k = 2 /\ m = 0
   ·obtain ⟨rfl, rfl⟩ := h2; rfl
   ·have : (false || (k == 1 || k == 2) && m == 0) = false := by
     simp
     omega
    rw [this]
    rfl

theorem kk_read (x : D) : (kk (readD x) == 2) = isErr x := rfl

theorem idx_ok {i n : Nat} (h : i < n) : (decide (0 <= (i : Int)) && decide ((i : Int) < (n : Int))) = true := by simp [h]

/-- A loop that looks for one of a list. -/
theorem any_loop (LP : Nat -> Int -> Option AV) (l : List D) (p : D -> Bool) (T F : Option AV) (hl : l.length <= maxLen)
  (hstep : ∀ (n : Nat) (v : Int), LP (n + 1) v = bif decide (v < (l.length : Int)) then
   bif (decide (0 <= v) && decide (v < (l.length : Int))) then bif p (l.getD (v).toNat .nil) then T else LP n (IntKind.wrap .i64 (v + 1)) else none else F) :
  ∀ (n i : Nat), i <= l.length -> l.length - i < n -> LP n (i : Int) = bif (l.drop i).any p then T else F
 | 0, i, _, h => by omega
 | n + 1, i, hi, h => by
  rw [hstep]
  by_cases hlt : i < l.length
  ·have h1 : decide ((i : Int) < (l.length : Int)) = true := by simpa using hlt
   rw [idx_ok hlt, h1, cond_true, cond_true, List.drop_eq_getElem_cons hlt, List.any_cons, Int.toNat_natCast]
   have h2 : l.getD i .nil = l[i] := by simp [List.getD, hlt]
   rw [h2]
   have hw : IntKind.wrap .i64 ((i : Int) + 1) = ((i + 1 : Nat) : Int) := by
    rw [wrap_in]
    ·omega
    ·rw [inR_iff]; unfold maxLen at hl; omega
   rw [hw, any_loop LP l p T F hl hstep n (i + 1) (by omega) (by omega)]
   cases p l[i] <;> rfl
  ·have h1 : decide ((i : Int) < (l.length : Int)) = false := by simpa using hlt
   have h2 : l.drop i = [] := List.drop_of_length_le (by omega)
   rw [h1, h2, cond_false]
   rfl

theorem elems_len {n : Nat} {x : D} (hx : Ty Tryz.prog n 53 x) : (elemsD x).length <= maxLen := by
 obtain ⟨es, rfl, hl, _⟩ := ty28 hx
 exact hl

/-! ### T2 -/
theorem k117 : FnOK Tryz.prog 117 Tryz.f117 := ⟨Tryz.func117, rfl, by kernel_rfl⟩
theorem c117 : ∀ args d, ent [40] (f1 fun x => some (readD x)) args = some d -> CallOK Tryz.prog 117 args (mkRes Tryz.prog 40 d) :=
 ent1 k117 fun x d h _ => by
  cases h
  rw [n23]
  refine fn_ok hm env1 k117 ((t117 1 x).trans ?_)
  rw [m23]
  unfold readD
  cases mayB x <;> rfl
theorem k110 : FnOK Tryz.prog 110 Tryz.f110 := ⟨Tryz.func110, rfl, by kernel_rfl⟩
theorem c110 : ∀ args d, ent [40] (f1 fun x => some (.lit (.bool (isFal x)))) args = some d -> CallOK Tryz.prog 110 args (mkRes Tryz.prog 4 d) :=
 ent1 k110 fun x d h _ => by
  cases h
  rw [n23]
  refine fn_ok hm env1 k110 ((t110 1 x).trans ?_)
  rw [m4, Bool.and_true]
  rfl
theorem env2 : EnvOK Tryz.prog (envOf T2) := (envOK_cons (envOK_cons env1 c110) c117)

/-! ### T3 -/
theorem k115 : FnOK Tryz.prog 115 Tryz.f115 := ⟨Tryz.func115, rfl, by kernel_rfl⟩
theorem c115 : ∀ args d, ent [40] (f1 fun x => some (.lit (.bool (isErr x)))) args = some d -> CallOK Tryz.prog 115 args (mkRes Tryz.prog 4 d) :=
 ent1 k115 fun x d h _ => by
  cases h
  rw [n23]
  refine fn_ok hm env2 k115 ((t115 1 x).trans ?_)
  rw [m4]
  rfl
theorem k116 : FnOK Tryz.prog 116 Tryz.f116 := ⟨Tryz.func116, rfl, by kernel_rfl⟩
theorem c116 : ∀ args d, ent [40] (f1 fun x => some (.lit (.bool (isNul x)))) args = some d -> CallOK Tryz.prog 116 args (mkRes Tryz.prog 4 d) :=
 ent1 k116 fun x d h _ => by
  cases h
  rw [n23]
  refine fn_ok hm env2 k116 ((t116 1 x).trans ?_)
  rw [m4]
  rfl
theorem env3 : EnvOK Tryz.prog (envOf T3) := (envOK_cons (envOK_cons env2 c116) c115)

/-! ### T4 -/
theorem some_52 {n : Nat} {x : D} (hx : Ty Tryz.prog n 53 x) : evFn Tryz.prog (envOf T3) t109_110_h ((elemsD x).length + 1) Tryz.f109 [dat 53 x, dat 74 (.held (.func (.func 110) #[] #[]))] = some (dat 4 (.lit (.bool ((elemsD x).any isFal)))) := by
 rw [t109_110]
 have h := any_loop (fun n v => t109_110_lp2 Tryz.prog Tryz.f109 ((elemsD x).length + 1) n x v) (elemsD x) isFal (some (dat 4 (.lit (.bool true)))) (some (dat 4 (.lit (.bool false)))) (elems_len hx)
  (fun n v => t109_110_lp2_step ((elemsD x).length + 1) n x v) ((elemsD x).length + 1) 0 (Nat.zero_le _) (by omega)
 rw [List.drop_zero] at h
 refine Eq.trans h ?_
 cases (elemsD x).any isFal <;> rfl
theorem some_36 {n : Nat} {x : D} (hx : Ty Tryz.prog n 53 x) : evFn Tryz.prog (envOf T3) t109_111_h ((elemsD x).length + 1) Tryz.f109 [dat 53 x, dat 74 (.held (.func (.func 111) #[] #[]))] = some (dat 4 (.lit (.bool ((elemsD x).any isTru)))) := by
 rw [t109_111]
 have h := any_loop (fun n v => t109_111_lp2 Tryz.prog Tryz.f109 ((elemsD x).length + 1) n x v) (elemsD x) isTru (some (dat 4 (.lit (.bool true)))) (some (dat 4 (.lit (.bool false)))) (elems_len hx)
  (fun n v => t109_111_lp2_step ((elemsD x).length + 1) n x v) ((elemsD x).length + 1) 0 (Nat.zero_le _) (by omega)
 rw [List.drop_zero] at h
 refine Eq.trans h ?_
 cases (elemsD x).any isTru <;> rfl
theorem some_53 {n : Nat} {x : D} (hx : Ty Tryz.prog n 53 x) : evFn Tryz.prog (envOf T3) t109_115_h ((elemsD x).length + 1) Tryz.f109 [dat 53 x, dat 74 (.held (.func (.func 115) #[] #[]))] = some (dat 4 (.lit (.bool ((elemsD x).any isErr)))) := by
 rw [t109_115]
 have h := any_loop (fun n v => t109_115_lp2 Tryz.prog Tryz.f109 ((elemsD x).length + 1) n x v) (elemsD x) isErr (some (dat 4 (.lit (.bool true)))) (some (dat 4 (.lit (.bool false)))) (elems_len hx)
  (fun n v => t109_115_lp2_step ((elemsD x).length + 1) n x v) ((elemsD x).length + 1) 0 (Nat.zero_le _) (by omega)
 rw [List.drop_zero] at h
 refine Eq.trans h ?_
 cases (elemsD x).any isErr <;> rfl
theorem some_55 {n : Nat} {x : D} (hx : Ty Tryz.prog n 53 x) : evFn Tryz.prog (envOf T3) t109_113_h ((elemsD x).length + 1) Tryz.f109 [dat 53 x, dat 74 (.held (.func (.func 113) #[] #[]))] = some (dat 4 (.lit (.bool ((elemsD x).any isNum)))) := by
 rw [t109_113]
 have h := any_loop (fun n v => t109_113_lp2 Tryz.prog Tryz.f109 ((elemsD x).length + 1) n x v) (elemsD x) isNum (some (dat 4 (.lit (.bool true)))) (some (dat 4 (.lit (.bool false)))) (elems_len hx)
  (fun n v => t109_113_lp2_step ((elemsD x).length + 1) n x v) ((elemsD x).length + 1) 0 (Nat.zero_le _) (by omega)
 rw [List.drop_zero] at h
 refine Eq.trans h ?_
 cases (elemsD x).any isNum <;> rfl
theorem some_56 {n : Nat} {x : D} (hx : Ty Tryz.prog n 53 x) : evFn Tryz.prog (envOf T3) t109_116_h ((elemsD x).length + 1) Tryz.f109 [dat 53 x, dat 74 (.held (.func (.func 116) #[] #[]))] = some (dat 4 (.lit (.bool ((elemsD x).any isNul)))) := by
 rw [t109_116]
 have h := any_loop (fun n v => t109_116_lp2 Tryz.prog Tryz.f109 ((elemsD x).length + 1) n x v) (elemsD x) isNul (some (dat 4 (.lit (.bool true)))) (some (dat 4 (.lit (.bool false)))) (elems_len hx)
  (fun n v => t109_116_lp2_step ((elemsD x).length + 1) n x v) ((elemsD x).length + 1) 0 (Nat.zero_le _) (by omega)
 rw [List.drop_zero] at h
 refine Eq.trans h ?_
 cases (elemsD x).any isNul <;> rfl
theorem k109 : FnOK Tryz.prog 109 Tryz.f109 := ⟨Tryz.func109, rfl, by kernel_rfl⟩
theorem ty25 {n : Nat} {x : D} {t : TypeId} {p q : Array TypeId} {r : Bool} {f : FuncId} (hu : Tryz.prog.underlying t = some (.func p q r)) (h : Ty Tryz.prog n t x) (hf : fnD x = some f) : x = .held (.func (.func f) #[] #[]) := by
 cases n with
 | zero => exact h.elim
 | succ n =>
  unfold Ty at h
  rw [hu] at h
  split at h <;> try (exact h.elim)
  all_goals try (simp_all; done)
  ·rename_i v heq
   rcases h with rfl | ⟨g, rfl⟩ | ⟨l, rfl⟩
   ·simp [fnD] at hf
   ·simp only [fnD, Option.some.injEq] at hf
    rw [hf]
   ·simp [fnD] at hf
  ·simp [fnD] at hf

theorem c109 : ∀ args d, e109.2.2.2 args = some d -> CallOK Tryz.prog 109 args (mkRes Tryz.prog 4 d) :=
 ent2 k109 fun x y d h ⟨_, hx⟩ ⟨_, hy⟩ => by
  rw [n28, n25]
  split at h
  ·rename_i hf
   cases h
   rw [ty25 u25 hy hf]
   refine fn_ok hm env3 k109 ((some_52 hx).trans ?_)
   rw [m4]
   rfl
  ·rename_i hf
   cases h
   rw [ty25 u25 hy hf]
   refine fn_ok hm env3 k109 ((some_36 hx).trans ?_)
   rw [m4]
   rfl
  ·rename_i hf
   cases h
   rw [ty25 u25 hy hf]
   refine fn_ok hm env3 k109 ((some_53 hx).trans ?_)
   rw [m4]
   rfl
  ·rename_i hf
   cases h
   rw [ty25 u25 hy hf]
   refine fn_ok hm env3 k109 ((some_55 hx).trans ?_)
   rw [m4]
   rfl
  ·rename_i hf
   cases h
   rw [ty25 u25 hy hf]
   refine fn_ok hm env3 k109 ((some_56 hx).trans ?_)
   rw [m4]
   rfl
  ·cases h

/-- Of values that may be, an error is the one that is read as such. -/
theorem err_read {y : D} (hy : ∃ k m, y = vv k m /\ inR k = true /\ inR m = true) (h : (kk (readD y) == 2) = true) : readD y = vv 2 0 := by
 obtain ⟨k, m, rfl, _, _⟩ := hy
 rcases read_cases k m with ⟨_, e⟩ | ⟨_, _, e⟩ | ⟨_, _, e⟩
 ·rw [e] at h; simp [kk_vv] at h
 ·rw [e] at h; simp [kk_vv] at h
 ·exact e

theorem env4 : EnvOK Tryz.prog (envOf T4) := (envOK_cons env3 c109)
end
section
set_option linter.unusedSimpArgs false
theorem vdef (k m : Int) : (.agg [.lit (.int .i64 k), .lit (.int .i64 m)] : D) = vv k m := rfl

/-! ### T5 -/
theorem k107 : FnOK Tryz.prog 107 Tryz.f107 := ⟨Tryz.func107, rfl, by kernel_rfl⟩
theorem c107 : ∀ args d, e107.2.2.2 args = some d -> CallOK Tryz.prog 107 args (mkRes Tryz.prog 40 d) :=
 ent2 k107 fun x y d h _ _ => by
  cases h
  rw [n3, n28]
  refine fn_ok hm env4 k107 ((t107 1 (intD x) y).trans ?_)
  rw [m23]
  unfold ifNum
  cases (elemsD y).any isErr <;> cases (elemsD y).any isNul <;> rfl

/-- The document's own shape: odd values first. -/
theorem reck_of {fits : Bool} {v : Int} {x y : D} {t : Option AV} (ht : t = bif fits then some (dat 40 (vv 0 v)) else some (dat 40 (vv 2 0))) :
  (bif oddB [x, y] then some (dat 40 (oddD [x, y])) else t) = some (dat 40 (reck fits v x y)) := by
 subst ht
 unfold oddB oddD reck
 cases [x, y].any isErr <;> cases [x, y].any isNul <;> cases fits <;> rfl

theorem ty_nn {n : Nat} {x : D} (h : Ty Tryz.prog n 40 x) : inR (nn x) = true := by
 obtain ⟨k, m, rfl, _, h2⟩ := ty23 h
 exact h2

theorem ref_add {a b : Int} (ha : inR a = true) (hb : inR b = true) : (bif ((decide (b > 0)) == true) then
   bif ((decide (a > (IntKind.wrap .i64 (9223372036854775807 - b)))) == false) then
    bif ((decide (b < 0)) == true) then bif decide (a < (IntKind.wrap .i64 ((-9223372036854775808) - b))) then some (dat 40 (.agg [.lit (.int .i64 2), .lit (.int .i64 0)])) else some (dat 40 (.agg [.lit (.int .i64 0), .lit (.int .i64 (IntKind.wrap .i64 (a + b)))])) else some (dat 40 (.agg [.lit (.int .i64 0), .lit (.int .i64 (IntKind.wrap .i64 (a + b)))]))
   else some (dat 40 (.agg [.lit (.int .i64 2), .lit (.int .i64 0)]))
  else bif ((decide (b < 0)) == true) then bif decide (a < (IntKind.wrap .i64 ((-9223372036854775808) - b))) then some (dat 40 (.agg [.lit (.int .i64 2), .lit (.int .i64 0)])) else some (dat 40 (.agg [.lit (.int .i64 0), .lit (.int .i64 (IntKind.wrap .i64 (a + b)))])) else some (dat 40 (.agg [.lit (.int .i64 0), .lit (.int .i64 (IntKind.wrap .i64 (a + b)))]))) = bif inR (a + b) then some (dat 40 (vv 0 (a + b))) else some (dat 40 (vv 2 0)) := by
 rw [inR_iff] at ha hb
 by_cases hb0 : b > 0
 ·have e1 : IntKind.wrap .i64 (9223372036854775807 - b) = 9223372036854775807 - b := wrap_in (by rw [inR_iff]; omega)
  have d1 : decide (b > 0) = true := by simpa using hb0
  have d2 : decide (b < 0) = false := by simp; omega
  cases hin : inR (a + b) with
  | true =>
   have hw := wrap_in hin
   rw [inR_iff] at hin
   have d3 : decide (a > 9223372036854775807 - b) = false := by simp; omega
   rw [e1, d1, d2, d3, hw]; rfl
  | false =>
   rw [inR_not] at hin
   have d3 : decide (a > 9223372036854775807 - b) = true := by simp; omega
   rw [e1, d1, d2, d3]; rfl
 ·have d1 : decide (b > 0) = false := by simpa using hb0
  by_cases hb1 : b < 0
  ·have e1 : IntKind.wrap .i64 ((-9223372036854775808) - b) = (-9223372036854775808) - b := wrap_in (by rw [inR_iff]; omega)
   have d2 : decide (b < 0) = true := by simpa using hb1
   cases hin : inR (a + b) with
   | true =>
    have hw := wrap_in hin
    rw [inR_iff] at hin
    have d3 : decide (a < (-9223372036854775808) - b) = false := by simp; omega
    rw [e1, d1, d2, d3, hw]; rfl
   | false =>
    rw [inR_not] at hin
    have d3 : decide (a < (-9223372036854775808) - b) = true := by simp; omega
    rw [e1, d1, d2, d3]; rfl
  ·have d2 : decide (b < 0) = false := by simpa using hb1
   have hin : inR (a + b) = true := by rw [inR_iff]; omega
   rw [d1, d2, wrap_in hin, hin]; rfl

theorem ref_sub {a b : Int} (ha : inR a = true) (hb : inR b = true) : (bif ((decide (b < 0)) == true) then
   bif ((decide (a > (IntKind.wrap .i64 (9223372036854775807 + b)))) == false) then
    bif ((decide (b > 0)) == true) then bif decide (a < (IntKind.wrap .i64 ((-9223372036854775808) + b))) then some (dat 40 (.agg [.lit (.int .i64 2), .lit (.int .i64 0)])) else some (dat 40 (.agg [.lit (.int .i64 0), .lit (.int .i64 (IntKind.wrap .i64 (a - b)))])) else some (dat 40 (.agg [.lit (.int .i64 0), .lit (.int .i64 (IntKind.wrap .i64 (a - b)))]))
   else some (dat 40 (.agg [.lit (.int .i64 2), .lit (.int .i64 0)]))
  else bif ((decide (b > 0)) == true) then bif decide (a < (IntKind.wrap .i64 ((-9223372036854775808) + b))) then some (dat 40 (.agg [.lit (.int .i64 2), .lit (.int .i64 0)])) else some (dat 40 (.agg [.lit (.int .i64 0), .lit (.int .i64 (IntKind.wrap .i64 (a - b)))])) else some (dat 40 (.agg [.lit (.int .i64 0), .lit (.int .i64 (IntKind.wrap .i64 (a - b)))]))) = bif inR (a - b) then some (dat 40 (vv 0 (a - b))) else some (dat 40 (vv 2 0)) := by
 rw [inR_iff] at ha hb
 by_cases hb0 : b < 0
 ·have e1 : IntKind.wrap .i64 (9223372036854775807 + b) = 9223372036854775807 + b := wrap_in (by rw [inR_iff]; omega)
  have d1 : decide (b < 0) = true := by simpa using hb0
  have d2 : decide (b > 0) = false := by simp; omega
  cases hin : inR (a - b) with
  | true =>
   have hw := wrap_in hin
   rw [inR_iff] at hin
   have d3 : decide (a > 9223372036854775807 + b) = false := by simp; omega
   rw [e1, d1, d2, d3, hw]; rfl
  | false =>
   rw [inR_not] at hin
   have d3 : decide (a > 9223372036854775807 + b) = true := by simp; omega
   rw [e1, d1, d2, d3]; rfl
 ·have d1 : decide (b < 0) = false := by simpa using hb0
  by_cases hb1 : b > 0
  ·have e1 : IntKind.wrap .i64 ((-9223372036854775808) + b) = (-9223372036854775808) + b := wrap_in (by rw [inR_iff]; omega)
   have d2 : decide (b > 0) = true := by simpa using hb1
   cases hin : inR (a - b) with
   | true =>
    have hw := wrap_in hin
    rw [inR_iff] at hin
    have d3 : decide (a < (-9223372036854775808) + b) = false := by simp; omega
    rw [e1, d1, d2, d3, hw]; rfl
   | false =>
    rw [inR_not] at hin
    have d3 : decide (a < (-9223372036854775808) + b) = true := by simp; omega
    rw [e1, d1, d2, d3]; rfl
  ·have d2 : decide (b > 0) = false := by simpa using hb1
   have hin : inR (a - b) = true := by rw [inR_iff]; omega
   rw [d1, d2, wrap_in hin, hin]; rfl

theorem ref_quot {a b : Int} (ha : inR a = true) (hb : inR b = true) (h0 : b ≠ 0) (h1 : ¬ (b = -1 /\ a = -9223372036854775808)) :
  (bif (!(b == 0)) then bif ((IntKind.wrap .i64 (Int.tdiv (IntKind.wrap .i64 (a * b)) b) != a) == false) then bif (!(b == 0)) then bif (Int.tmod (IntKind.wrap .i64 (a * b)) b != 0) then some (dat 40 (.agg [.lit (.int .i64 2), .lit (.int .i64 0)])) else some (dat 40 (.agg [.lit (.int .i64 0), .lit (.int .i64 (IntKind.wrap .i64 (a * b)))])) else none else some (dat 40 (.agg [.lit (.int .i64 2), .lit (.int .i64 0)])) else none) = bif inR (a * b) then some (dat 40 (vv 0 (a * b))) else some (dat 40 (vv 2 0)) := by
 have b0 : (b == 0) = false := by simpa using h0
 have key : (IntKind.wrap .i64 (Int.tdiv (IntKind.wrap .i64 (a * b)) b) == a) = inR (a * b) := by
  by_cases hb1 : b = -1
  ·subst hb1
   have hin : inR (a * -1) = true := by rw [inR_iff] at ha ⊢; omega
   have hin2 : inR (Int.tdiv (a * -1) (-1)) = true := by rw [Int.mul_tdiv_cancel _ (by decide)]; exact ha
   rw [wrap_in hin, wrap_in hin2, hin, Int.mul_tdiv_cancel _ (by decide)]
   simp
  ·have := quot_fits hb ha h0 hb1
   rw [Int.mul_comm b a] at this
   exact this
 have key2 : (IntKind.wrap .i64 (Int.tdiv (IntKind.wrap .i64 (a * b)) b) != a) = !inR (a * b) := by rw [<- key]; rfl
 rw [key2, b0]
 cases hin : inR (a * b) with
 | true =>
  have hw := wrap_in hin
  rw [hw]
  have : (Int.tmod (a * b) b != 0) = false := by rw [Int.mul_tmod_left]; rfl
  rw [this]
  rfl
 | false => rfl

theorem ref_mul {a b : Int} (ha : inR a = true) (hb : inR b = true) : (bif ((a == 0) == false) then
   bif (b == 0) then some (dat 40 (.agg [.lit (.int .i64 0), .lit (.int .i64 0)]))
   else bif ((a == (-1)) == true) then
     bif ((b == (-9223372036854775808)) == false) then
      bif ((b == (-1)) == true) then bif (a == (-9223372036854775808)) then some (dat 40 (.agg [.lit (.int .i64 2), .lit (.int .i64 0)])) else bif (!(b == 0)) then bif ((IntKind.wrap .i64 (Int.tdiv (IntKind.wrap .i64 (a * b)) b) != a) == false) then bif (!(b == 0)) then bif (Int.tmod (IntKind.wrap .i64 (a * b)) b != 0) then some (dat 40 (.agg [.lit (.int .i64 2), .lit (.int .i64 0)])) else some (dat 40 (.agg [.lit (.int .i64 0), .lit (.int .i64 (IntKind.wrap .i64 (a * b)))])) else none else some (dat 40 (.agg [.lit (.int .i64 2), .lit (.int .i64 0)])) else none
      else bif (!(b == 0)) then bif ((IntKind.wrap .i64 (Int.tdiv (IntKind.wrap .i64 (a * b)) b) != a) == false) then bif (!(b == 0)) then bif (Int.tmod (IntKind.wrap .i64 (a * b)) b != 0) then some (dat 40 (.agg [.lit (.int .i64 2), .lit (.int .i64 0)])) else some (dat 40 (.agg [.lit (.int .i64 0), .lit (.int .i64 (IntKind.wrap .i64 (a * b)))])) else none else some (dat 40 (.agg [.lit (.int .i64 2), .lit (.int .i64 0)])) else none
     else some (dat 40 (.agg [.lit (.int .i64 2), .lit (.int .i64 0)]))
    else bif ((b == (-1)) == true) then bif (a == (-9223372036854775808)) then some (dat 40 (.agg [.lit (.int .i64 2), .lit (.int .i64 0)])) else bif (!(b == 0)) then bif ((IntKind.wrap .i64 (Int.tdiv (IntKind.wrap .i64 (a * b)) b) != a) == false) then bif (!(b == 0)) then bif (Int.tmod (IntKind.wrap .i64 (a * b)) b != 0) then some (dat 40 (.agg [.lit (.int .i64 2), .lit (.int .i64 0)])) else some (dat 40 (.agg [.lit (.int .i64 0), .lit (.int .i64 (IntKind.wrap .i64 (a * b)))])) else none else some (dat 40 (.agg [.lit (.int .i64 2), .lit (.int .i64 0)])) else none
     else bif (!(b == 0)) then bif ((IntKind.wrap .i64 (Int.tdiv (IntKind.wrap .i64 (a * b)) b) != a) == false) then bif (!(b == 0)) then bif (Int.tmod (IntKind.wrap .i64 (a * b)) b != 0) then some (dat 40 (.agg [.lit (.int .i64 2), .lit (.int .i64 0)])) else some (dat 40 (.agg [.lit (.int .i64 0), .lit (.int .i64 (IntKind.wrap .i64 (a * b)))])) else none else some (dat 40 (.agg [.lit (.int .i64 2), .lit (.int .i64 0)])) else none
  else some (dat 40 (.agg [.lit (.int .i64 0), .lit (.int .i64 0)]))) = bif inR (a * b) then some (dat 40 (vv 0 (a * b))) else some (dat 40 (vv 2 0)) := by
 by_cases a0 : a = 0
 ·subst a0
  have : inR (0 * b) = true := by rw [Int.zero_mul]; decide
  rw [this, Int.zero_mul]; rfl
 ·have A0 : (a == 0) = false := by simpa using a0
  by_cases b0 : b = 0
  ·subst b0
   have : inR (a * 0) = true := by rw [Int.mul_zero]; decide
   rw [this, A0, Int.mul_zero]; rfl
  ·have B0 : (b == 0) = false := by simpa using b0
   by_cases hbad : b = -1 /\ a = -9223372036854775808
   ·obtain ⟨rfl, rfl⟩ := hbad
    rfl
   ·by_cases hbad2 : a = -1 /\ b = -9223372036854775808
    ·obtain ⟨rfl, rfl⟩ := hbad2
     rfl
    ·have hq := ref_quot ha hb b0 hbad
     rw [hq, A0, B0]
     have M1 : (a == (-1) && b == (-9223372036854775808)) = false := by
      simp; omega
     have M2 : (b == (-1) && a == (-9223372036854775808)) = false := by
      simp; omega
     cases x1 : (a == (-1)) <;> cases x2 : (b == (-9223372036854775808)) <;> cases x3 : (b == (-1)) <;> cases x4 : (a == (-9223372036854775808)) <;> simp [x1, x2, x3, x4] at M1 M2 ⊢

theorem ref_div {a b : Int} (ha : inR a = true) : (bif ((b == 0) == false) then
   bif ((b == (-1)) == true) then
    bif (a == (-9223372036854775808)) then some (dat 40 (.agg [.lit (.int .i64 2), .lit (.int .i64 0)]))
    else bif (!(b == 0)) then some (dat 40 (.agg [.lit (.int .i64 0), .lit (.int .i64 (IntKind.wrap .i64 (Int.tdiv a b)))])) else none
   else bif (!(b == 0)) then some (dat 40 (.agg [.lit (.int .i64 0), .lit (.int .i64 (IntKind.wrap .i64 (Int.tdiv a b)))])) else none
  else some (dat 40 (.agg [.lit (.int .i64 2), .lit (.int .i64 0)]))) = bif divOK a b then some (dat 40 (vv 0 (divV a b))) else some (dat 40 (vv 2 0)) := by
 unfold divV divOK
 by_cases b0 : b = 0
 ·subst b0; rfl
 ·have B0 : (b == 0) = false := by simpa using b0
  have ht := tdiv_fits ha b0
  rw [B0, ht]
  cases x1 : (a == (-9223372036854775808)) <;> cases x2 : (b == (-1)) <;> simp [x1, x2] at ht ⊢
  all_goals first | rfl | (rw [wrap_in ht]; rfl)
end
end Go.Proofs.YtanjicjomcocmaaGreatDoor
