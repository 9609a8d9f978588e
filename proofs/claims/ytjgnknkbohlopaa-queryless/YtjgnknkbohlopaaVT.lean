/- What the evaluator comes to, function by function: by the kernel. Nothing here is trusted. -/
import Derived.Test.YtjgnknkbohlopaaV1
import Derived.Test.YtjgnknkbohlopaaRows
namespace Go.Proofs.Ytjgnknkbohlopaa
open Go.Ev
set_option linter.unusedVariables false
def T0 : Tab := []
def e54 : FuncId × TypeId × (List AV → Bool) × (List AV → Option D) := (54, 4, yes, ent [38] (f1 (fun x => some (.lit (.bool (mayB x))))))
def e55 : FuncId × TypeId × (List AV → Bool) × (List AV → Option D) := (55, 38, yes, ent [3] (f1 (fun x => some (.agg [.lit (.int .i64 0), .lit (.int .i64 (intD x))]))))
def e99 : FuncId × TypeId × (List AV → Bool) × (List AV → Option D) := (99, 38, yes, ent [] (f0 (some (.agg [.lit (.int .i64 2), .lit (.int .i64 0)]))))
def e93 : FuncId × TypeId × (List AV → Bool) × (List AV → Option D) := (93, 3, yes, ent [4] (f1 (fun x => some (.lit (.int .i64 (truthI (boolD x)))))))
def e96 : FuncId × TypeId × (List AV → Bool) × (List AV → Option D) := (96, 4, yes, ent [38] (f1 (fun x => some (.lit (.bool (isTru x))))))
def e88 : FuncId × TypeId × (List AV → Bool) × (List AV → Option D) := (88, 96, yes, ent [3, 3] (f2 (fun x y => some (.agg [.lit (.int .i64 (IntKind.wrap .i64 ((intD x) + (intD y)))), .lit (.bool (addOK (intD x) (intD y)))]))))
def e89 : FuncId × TypeId × (List AV → Bool) × (List AV → Option D) := (89, 96, yes, ent [3, 3] (f2 (fun x y => some (.agg [.lit (.int .i64 (IntKind.wrap .i64 ((intD x) - (intD y)))), .lit (.bool (subOK (intD x) (intD y)))]))))
def e90 : FuncId × TypeId × (List AV → Bool) × (List AV → Option D) := (90, 96, yes, ent [3, 3] (f2 (fun x y => some (.agg [.lit (.int .i64 (IntKind.wrap .i64 ((intD x) * (intD y)))), .lit (.bool (mulOK (intD x) (intD y)))]))))
def e91 : FuncId × TypeId × (List AV → Bool) × (List AV → Option D) := (91, 96, yes, ent [3, 3] (f2 (fun x y => some (.agg [.lit (.int .i64 (divV (intD x) (intD y))), .lit (.bool (divOK (intD x) (intD y)))]))))
def e98 : FuncId × TypeId × (List AV → Bool) × (List AV → Option D) := (98, 4, yes, ent [38] (f1 (fun x => some (.lit (.bool (isNum x))))))
def T1 : Tab := e54 :: e55 :: e99 :: e93 :: e96 :: e88 :: e89 :: e90 :: e91 :: e98 :: T0
def e102 : FuncId × TypeId × (List AV → Bool) × (List AV → Option D) := (102, 38, yes, ent [38] (f1 (fun x => some (readD x))))
def e95 : FuncId × TypeId × (List AV → Bool) × (List AV → Option D) := (95, 4, yes, ent [38] (f1 (fun x => some (.lit (.bool (isFal x))))))
def T2 : Tab := e102 :: e95 :: T1
def e100 : FuncId × TypeId × (List AV → Bool) × (List AV → Option D) := (100, 4, yes, ent [38] (f1 (fun x => some (.lit (.bool (isErr x))))))
def e101 : FuncId × TypeId × (List AV → Bool) × (List AV → Option D) := (101, 4, yes, ent [38] (f1 (fun x => some (.lit (.bool (isNul x))))))
def T3 : Tab := e100 :: e101 :: T2
def e94 : FuncId × TypeId × (List AV → Bool) × (List AV → Option D) := (94, 4, yes, ent [73, 80] (f2 fun x y => match fnD y with | some 95 => some (.lit (.bool ((elemsD x).any isFal))) | some 96 => some (.lit (.bool ((elemsD x).any isTru))) | some 100 => some (.lit (.bool ((elemsD x).any isErr))) | some 98 => some (.lit (.bool ((elemsD x).any isNum))) | some 101 => some (.lit (.bool ((elemsD x).any isNul))) | _ => none))
def T4 : Tab := e94 :: T3
def e92 : FuncId × TypeId × (List AV → Bool) × (List AV → Option D) := (92, 38, yes, ent [3, 73] (f2 (fun x y => some (ifNum (intD x) (elemsD y)))))
def T5 : Tab := e92 :: T4
def e87 : FuncId × TypeId × (List AV → Bool) × (List AV → Option D) := (87, 38, yes, ent [111, 38, 38] (f3 fun x y z => match fnD x with | some 88 => some (addD y z) | some 89 => some (subD y z) | some 90 => some (mulD y z) | some 91 => some (divD y z) | _ => none))
def e75 : FuncId × TypeId × (List AV → Bool) × (List AV → Option D) := (75, 38, yes, ent [38, 38] (f2 (fun x y => some (eqV x y))))
def e76 : FuncId × TypeId × (List AV → Bool) × (List AV → Option D) := (76, 38, yes, ent [38, 38] (f2 (fun x y => some (ltV x y))))
def e77 : FuncId × TypeId × (List AV → Bool) × (List AV → Option D) := (77, 38, yes, ent [73] (f1 (fun x => some (andD (elemsD x)))))
def e78 : FuncId × TypeId × (List AV → Bool) × (List AV → Option D) := (78, 38, yes, ent [73] (f1 (fun x => some (orD (elemsD x)))))
def e79 : FuncId × TypeId × (List AV → Bool) × (List AV → Option D) := (79, 38, yes, ent [38] (f1 (fun x => some (notD x))))
def T6 : Tab := e87 :: e75 :: e76 :: e77 :: e78 :: e79 :: T5
def e71 : FuncId × TypeId × (List AV → Bool) × (List AV → Option D) := (71, 38, yes, ent [38, 38] (f2 (fun x y => some (addD x y))))
def e72 : FuncId × TypeId × (List AV → Bool) × (List AV → Option D) := (72, 38, yes, ent [38, 38] (f2 (fun x y => some (subD x y))))
def e73 : FuncId × TypeId × (List AV → Bool) × (List AV → Option D) := (73, 38, yes, ent [38, 38] (f2 (fun x y => some (mulD x y))))
def e74 : FuncId × TypeId × (List AV → Bool) × (List AV → Option D) := (74, 38, yes, ent [38, 38] (f2 (fun x y => some (divD x y))))
def T7 : Tab := e71 :: e72 :: e73 :: e74 :: T6
def T8 : Tab := T7
/- roadbook/val.May -/
def t54_h : Hints := fun _ =>  none
theorem t54 (N : Nat) (x0 : D) : evFn Try.prog (envOf T0) t54_h N Try.f54 [dat 38 x0] =
  bif (((intD (fieldD x0 0)) == 0) == false) then
    bif (((intD (fieldD x0 0)) == 1) == false) then
      bif (((intD (fieldD x0 0)) == 2) == true) then
        some (dat 4 (.lit (.bool ((intD (fieldD x0 1)) == 0))))
      else some (dat 4 (.lit (.bool false)))
    else some (dat 4 (.lit (.bool ((intD (fieldD x0 1)) == 0))))
  else some (dat 4 (.lit (.bool true))) := by kernel_rfl

/- roadbook/val.Of -/
def t55_h : Hints := fun _ =>  none
theorem t55 (N : Nat) (x0 : Int) : evFn Try.prog (envOf T0) t55_h N Try.f55 [dat 3 (.lit (.int .i64 x0))] =
  some (dat 38 (.agg [.lit (.int .i64 0), .lit (.int .i64 x0)])) := by kernel_rfl

/- roadbook/val.fault -/
def t99_h : Hints := fun _ =>  none
theorem t99 (N : Nat)  : evFn Try.prog (envOf T0) t99_h N Try.f99 [] =
  some (dat 38 (.agg [.lit (.int .i64 2), .lit (.int .i64 0)])) := by kernel_rfl

/- roadbook/val.truth -/
def t93_h : Hints := fun _ =>  none
theorem t93 (N : Nat) (x0 : Bool) : evFn Try.prog (envOf T0) t93_h N Try.f93 [dat 4 (.lit (.bool x0))] =
  bif x0 then
    some (dat 3 (.lit (.int .i64 1)))
  else some (dat 3 (.lit (.int .i64 0))) := by kernel_rfl

/- roadbook/val.True -/
def t96_h : Hints := fun _ =>  none
theorem t96 (N : Nat) (x0 : D) : evFn Try.prog (envOf T0) t96_h N Try.f96 [dat 38 x0] =
  bif (((intD (fieldD x0 0)) == 0) == true) then
    some (dat 4 (.lit (.bool ((intD (fieldD x0 1)) != 0))))
  else some (dat 4 (.lit (.bool false))) := by kernel_rfl

/- roadbook/val.plus -/
def t88_h : Hints := fun _ =>  none
theorem t88 (N : Nat) (x0 : Int) (x1 : Int) : evFn Try.prog (envOf T0) t88_h N Try.f88 [dat 3 (.lit (.int .i64 x0)), dat 3 (.lit (.int .i64 x1))] =
  some (tupA [3, 4] (.agg [.lit (.int .i64 (IntKind.wrap .i64 (x0 + x1))), .lit (.bool ((decide ((IntKind.wrap .i64 (x0 + x1)) < x0)) == (decide (x1 < 0))))])) := by kernel_rfl

/- roadbook/val.minus -/
def t89_h : Hints := fun _ =>  none
theorem t89 (N : Nat) (x0 : Int) (x1 : Int) : evFn Try.prog (envOf T0) t89_h N Try.f89 [dat 3 (.lit (.int .i64 x0)), dat 3 (.lit (.int .i64 x1))] =
  some (tupA [3, 4] (.agg [.lit (.int .i64 (IntKind.wrap .i64 (x0 - x1))), .lit (.bool ((decide ((IntKind.wrap .i64 (x0 - x1)) > x0)) == (decide (x1 < 0))))])) := by kernel_rfl

/- roadbook/val.times -/
def t90_h : Hints := fun _ =>  none
theorem t90 (N : Nat) (x0 : Int) (x1 : Int) : evFn Try.prog (envOf T0) t90_h N Try.f90 [dat 3 (.lit (.int .i64 x0)), dat 3 (.lit (.int .i64 x1))] =
  bif (x0 == 0) then
    some (tupA [3, 4] (.agg [.lit (.int .i64 (IntKind.wrap .i64 (x0 * x1))), .lit (.bool true)]))
  else bif (x0 == (-1)) then
      some (tupA [3, 4] (.agg [.lit (.int .i64 (IntKind.wrap .i64 (x0 * x1))), .lit (.bool (x1 != (-9223372036854775808)))]))
    else bif (!(x0 == 0)) then
        some (tupA [3, 4] (.agg [.lit (.int .i64 (IntKind.wrap .i64 (x0 * x1))), .lit (.bool ((IntKind.wrap .i64 (Int.tdiv (IntKind.wrap .i64 (x0 * x1)) x0)) == x1))]))
      else none := by kernel_rfl

/- roadbook/val.over -/
def t91_h : Hints := fun _ =>  none
theorem t91 (N : Nat) (x0 : Int) (x1 : Int) : evFn Try.prog (envOf T0) t91_h N Try.f91 [dat 3 (.lit (.int .i64 x0)), dat 3 (.lit (.int .i64 x1))] =
  bif ((x1 == 0) == false) then
    bif ((x0 == (-9223372036854775808)) == true) then
      bif (x1 == (-1)) then
        some (tupA [3, 4] (.agg [.lit (.int .i64 0), .lit (.bool false)]))
      else bif (!(x1 == 0)) then
          some (tupA [3, 4] (.agg [.lit (.int .i64 (IntKind.wrap .i64 (Int.tdiv x0 x1))), .lit (.bool true)]))
        else none
    else bif (!(x1 == 0)) then
        some (tupA [3, 4] (.agg [.lit (.int .i64 (IntKind.wrap .i64 (Int.tdiv x0 x1))), .lit (.bool true)]))
      else none
  else some (tupA [3, 4] (.agg [.lit (.int .i64 0), .lit (.bool false)])) := by kernel_rfl

/- roadbook/val.isNumber -/
def t98_h : Hints := fun _ =>  none
theorem t98 (N : Nat) (x0 : D) : evFn Try.prog (envOf T0) t98_h N Try.f98 [dat 38 x0] =
  some (dat 4 (.lit (.bool ((intD (fieldD x0 0)) == 0)))) := by kernel_rfl

/- roadbook/val.read -/
def t102_h : Hints := fun _ =>  none
theorem t102 (N : Nat) (x0 : D) : evFn Try.prog (envOf T1) t102_h N Try.f102 [dat 38 x0] =
  bif mayB x0 then
    some (dat 38 x0)
  else some (dat 38 (.agg [.lit (.int .i64 2), .lit (.int .i64 0)])) := by kernel_rfl

/- roadbook/val.isFalse -/
def t95_h : Hints := fun _ =>  none
theorem t95 (N : Nat) (x0 : D) : evFn Try.prog (envOf T1) t95_h N Try.f95 [dat 38 x0] =
  some (dat 4 (.lit (.bool (((intD (fieldD x0 0)) == 0) && (((intD (fieldD x0 1)) == 0) && true))))) := by kernel_rfl

/- roadbook/val.isError -/
def t100_h : Hints := fun _ =>  none
theorem t100 (N : Nat) (x0 : D) : evFn Try.prog (envOf T2) t100_h N Try.f100 [dat 38 x0] =
  some (dat 4 (.lit (.bool ((intD (fieldD (readD x0) 0)) == 2)))) := by kernel_rfl

/- roadbook/val.isNothing -/
def t101_h : Hints := fun _ =>  none
theorem t101 (N : Nat) (x0 : D) : evFn Try.prog (envOf T2) t101_h N Try.f101 [dat 38 x0] =
  some (dat 4 (.lit (.bool ((intD (fieldD (readD x0) 0)) == 1)))) := by kernel_rfl

/- roadbook/val.some[roadbook/api.Val] -/
def t94_95_h : Hints := fun i => if i = 2 then some ([0, 2, 3, 4, 5, 6, 10, 11, 12, 13, 14, 15, 16], [], []) else none
def t94_95_lp2 (P : Program) (fn : Func) (N n : Nat) (x0 : D) (v9 : Int) : Option AV := evLoop (preL t94_95_h (sub [1, 0, 1, 0, 0] (bodyOf fn))) (evCode P (envOf T3) t94_95_h N (sub [1, 0, 1, 0, 0] (bodyOf fn))) n ⟨[dead, dat 80 (.held (.func (.func 95) #[] #[])), dead, dead, dead, dead, dead, dat 73 x0, dat 3 (.lit (.int .i64 ((elemsD x0).length : Int))), dat 3 (.lit (.int .i64 v9)), dead, dead, dead, dead, dead, dead, dead], lookB []⟩ (blockK 0 (seqC P (envOf T3) t94_95_h N (sub [1, 1] (bodyOf fn)) (finK P fn) ))
theorem t94_95_lp2_step (N n : Nat) (x0 : D) (v9 : Int) : t94_95_lp2 Try.prog Try.f94 N (n + 1) x0 v9 =
  bif decide (v9 < ((elemsD x0).length : Int)) then
    bif (decide (0 ≤ v9) && decide (v9 < ((elemsD x0).length : Int))) then
      bif isFal ((elemsD x0).getD (v9).toNat .nil) then
        some (dat 4 (.lit (.bool true)))
      else t94_95_lp2 Try.prog Try.f94 N n x0 (IntKind.wrap .i64 (v9 + 1))
    else none
  else some (dat 4 (.lit (.bool false))) := by kernel_rfl
theorem t94_95 (N : Nat) (x0 : D) : evFn Try.prog (envOf T3) t94_95_h N Try.f94 [dat 73 x0, dat 80 (.held (.func (.func 95) #[] #[]))] =
  t94_95_lp2 Try.prog Try.f94 N N x0 0 := by kernel_rfl

/- roadbook/val.some[roadbook/api.Val] -/
def t94_96_h : Hints := fun i => if i = 2 then some ([0, 2, 3, 4, 5, 6, 10, 11, 12, 13, 14, 15, 16], [], []) else none
def t94_96_lp2 (P : Program) (fn : Func) (N n : Nat) (x0 : D) (v9 : Int) : Option AV := evLoop (preL t94_96_h (sub [1, 0, 1, 0, 0] (bodyOf fn))) (evCode P (envOf T3) t94_96_h N (sub [1, 0, 1, 0, 0] (bodyOf fn))) n ⟨[dead, dat 80 (.held (.func (.func 96) #[] #[])), dead, dead, dead, dead, dead, dat 73 x0, dat 3 (.lit (.int .i64 ((elemsD x0).length : Int))), dat 3 (.lit (.int .i64 v9)), dead, dead, dead, dead, dead, dead, dead], lookB []⟩ (blockK 0 (seqC P (envOf T3) t94_96_h N (sub [1, 1] (bodyOf fn)) (finK P fn) ))
theorem t94_96_lp2_step (N n : Nat) (x0 : D) (v9 : Int) : t94_96_lp2 Try.prog Try.f94 N (n + 1) x0 v9 =
  bif decide (v9 < ((elemsD x0).length : Int)) then
    bif (decide (0 ≤ v9) && decide (v9 < ((elemsD x0).length : Int))) then
      bif isTru ((elemsD x0).getD (v9).toNat .nil) then
        some (dat 4 (.lit (.bool true)))
      else t94_96_lp2 Try.prog Try.f94 N n x0 (IntKind.wrap .i64 (v9 + 1))
    else none
  else some (dat 4 (.lit (.bool false))) := by kernel_rfl
theorem t94_96 (N : Nat) (x0 : D) : evFn Try.prog (envOf T3) t94_96_h N Try.f94 [dat 73 x0, dat 80 (.held (.func (.func 96) #[] #[]))] =
  t94_96_lp2 Try.prog Try.f94 N N x0 0 := by kernel_rfl

/- roadbook/val.some[roadbook/api.Val] -/
def t94_100_h : Hints := fun i => if i = 2 then some ([0, 2, 3, 4, 5, 6, 10, 11, 12, 13, 14, 15, 16], [], []) else none
def t94_100_lp2 (P : Program) (fn : Func) (N n : Nat) (x0 : D) (v9 : Int) : Option AV := evLoop (preL t94_100_h (sub [1, 0, 1, 0, 0] (bodyOf fn))) (evCode P (envOf T3) t94_100_h N (sub [1, 0, 1, 0, 0] (bodyOf fn))) n ⟨[dead, dat 80 (.held (.func (.func 100) #[] #[])), dead, dead, dead, dead, dead, dat 73 x0, dat 3 (.lit (.int .i64 ((elemsD x0).length : Int))), dat 3 (.lit (.int .i64 v9)), dead, dead, dead, dead, dead, dead, dead], lookB []⟩ (blockK 0 (seqC P (envOf T3) t94_100_h N (sub [1, 1] (bodyOf fn)) (finK P fn) ))
theorem t94_100_lp2_step (N n : Nat) (x0 : D) (v9 : Int) : t94_100_lp2 Try.prog Try.f94 N (n + 1) x0 v9 =
  bif decide (v9 < ((elemsD x0).length : Int)) then
    bif (decide (0 ≤ v9) && decide (v9 < ((elemsD x0).length : Int))) then
      bif isErr ((elemsD x0).getD (v9).toNat .nil) then
        some (dat 4 (.lit (.bool true)))
      else t94_100_lp2 Try.prog Try.f94 N n x0 (IntKind.wrap .i64 (v9 + 1))
    else none
  else some (dat 4 (.lit (.bool false))) := by kernel_rfl
theorem t94_100 (N : Nat) (x0 : D) : evFn Try.prog (envOf T3) t94_100_h N Try.f94 [dat 73 x0, dat 80 (.held (.func (.func 100) #[] #[]))] =
  t94_100_lp2 Try.prog Try.f94 N N x0 0 := by kernel_rfl

/- roadbook/val.some[roadbook/api.Val] -/
def t94_98_h : Hints := fun i => if i = 2 then some ([0, 2, 3, 4, 5, 6, 10, 11, 12, 13, 14, 15, 16], [], []) else none
def t94_98_lp2 (P : Program) (fn : Func) (N n : Nat) (x0 : D) (v9 : Int) : Option AV := evLoop (preL t94_98_h (sub [1, 0, 1, 0, 0] (bodyOf fn))) (evCode P (envOf T3) t94_98_h N (sub [1, 0, 1, 0, 0] (bodyOf fn))) n ⟨[dead, dat 80 (.held (.func (.func 98) #[] #[])), dead, dead, dead, dead, dead, dat 73 x0, dat 3 (.lit (.int .i64 ((elemsD x0).length : Int))), dat 3 (.lit (.int .i64 v9)), dead, dead, dead, dead, dead, dead, dead], lookB []⟩ (blockK 0 (seqC P (envOf T3) t94_98_h N (sub [1, 1] (bodyOf fn)) (finK P fn) ))
theorem t94_98_lp2_step (N n : Nat) (x0 : D) (v9 : Int) : t94_98_lp2 Try.prog Try.f94 N (n + 1) x0 v9 =
  bif decide (v9 < ((elemsD x0).length : Int)) then
    bif (decide (0 ≤ v9) && decide (v9 < ((elemsD x0).length : Int))) then
      bif isNum ((elemsD x0).getD (v9).toNat .nil) then
        some (dat 4 (.lit (.bool true)))
      else t94_98_lp2 Try.prog Try.f94 N n x0 (IntKind.wrap .i64 (v9 + 1))
    else none
  else some (dat 4 (.lit (.bool false))) := by kernel_rfl
theorem t94_98 (N : Nat) (x0 : D) : evFn Try.prog (envOf T3) t94_98_h N Try.f94 [dat 73 x0, dat 80 (.held (.func (.func 98) #[] #[]))] =
  t94_98_lp2 Try.prog Try.f94 N N x0 0 := by kernel_rfl

/- roadbook/val.some[roadbook/api.Val] -/
def t94_101_h : Hints := fun i => if i = 2 then some ([0, 2, 3, 4, 5, 6, 10, 11, 12, 13, 14, 15, 16], [], []) else none
def t94_101_lp2 (P : Program) (fn : Func) (N n : Nat) (x0 : D) (v9 : Int) : Option AV := evLoop (preL t94_101_h (sub [1, 0, 1, 0, 0] (bodyOf fn))) (evCode P (envOf T3) t94_101_h N (sub [1, 0, 1, 0, 0] (bodyOf fn))) n ⟨[dead, dat 80 (.held (.func (.func 101) #[] #[])), dead, dead, dead, dead, dead, dat 73 x0, dat 3 (.lit (.int .i64 ((elemsD x0).length : Int))), dat 3 (.lit (.int .i64 v9)), dead, dead, dead, dead, dead, dead, dead], lookB []⟩ (blockK 0 (seqC P (envOf T3) t94_101_h N (sub [1, 1] (bodyOf fn)) (finK P fn) ))
theorem t94_101_lp2_step (N n : Nat) (x0 : D) (v9 : Int) : t94_101_lp2 Try.prog Try.f94 N (n + 1) x0 v9 =
  bif decide (v9 < ((elemsD x0).length : Int)) then
    bif (decide (0 ≤ v9) && decide (v9 < ((elemsD x0).length : Int))) then
      bif isNul ((elemsD x0).getD (v9).toNat .nil) then
        some (dat 4 (.lit (.bool true)))
      else t94_101_lp2 Try.prog Try.f94 N n x0 (IntKind.wrap .i64 (v9 + 1))
    else none
  else some (dat 4 (.lit (.bool false))) := by kernel_rfl
theorem t94_101 (N : Nat) (x0 : D) : evFn Try.prog (envOf T3) t94_101_h N Try.f94 [dat 73 x0, dat 80 (.held (.func (.func 101) #[] #[]))] =
  t94_101_lp2 Try.prog Try.f94 N N x0 0 := by kernel_rfl

/- roadbook/val.ifNumbers -/
def t92_h : Hints := fun _ =>  none
theorem t92 (N : Nat) (x0 : Int) (x1 : D) : evFn Try.prog (envOf T4) t92_h N Try.f92 [dat 3 (.lit (.int .i64 x0)), dat 73 x1] =
  bif (elemsD x1).any isErr then
    some (dat 38 (.agg [.lit (.int .i64 2), .lit (.int .i64 0)]))
  else bif (elemsD x1).any isNul then
      some (dat 38 (.agg [.lit (.int .i64 1), .lit (.int .i64 0)]))
    else some (dat 38 (.agg [.lit (.int .i64 0), .lit (.int .i64 x0)])) := by kernel_rfl

/- roadbook/val.reckon -/
def t87_88_h : Hints := fun _ =>  none
theorem t87_88 (N : Nat) (x1 : D) (x2 : D) : evFn Try.prog (envOf T5) t87_88_h N Try.f87 [dat 111 (.held (.func (.func 88) #[] #[])), dat 38 x1, dat 38 x2] =
  bif (!(isNum (ifNum 0 [x1, x2]))) then
    some (dat 38 (ifNum 0 [x1, x2]))
  else bif (!(addOK (intD (fieldD x1 1)) (intD (fieldD x2 1)))) then
      some (dat 38 (.agg [.lit (.int .i64 2), .lit (.int .i64 0)]))
    else some (dat 38 (.agg [.lit (.int .i64 0), .lit (.int .i64 (IntKind.wrap .i64 ((intD (fieldD x1 1)) + (intD (fieldD x2 1)))))])) := by kernel_rfl

/- roadbook/val.reckon -/
def t87_89_h : Hints := fun _ =>  none
theorem t87_89 (N : Nat) (x1 : D) (x2 : D) : evFn Try.prog (envOf T5) t87_89_h N Try.f87 [dat 111 (.held (.func (.func 89) #[] #[])), dat 38 x1, dat 38 x2] =
  bif (!(isNum (ifNum 0 [x1, x2]))) then
    some (dat 38 (ifNum 0 [x1, x2]))
  else bif (!(subOK (intD (fieldD x1 1)) (intD (fieldD x2 1)))) then
      some (dat 38 (.agg [.lit (.int .i64 2), .lit (.int .i64 0)]))
    else some (dat 38 (.agg [.lit (.int .i64 0), .lit (.int .i64 (IntKind.wrap .i64 ((intD (fieldD x1 1)) - (intD (fieldD x2 1)))))])) := by kernel_rfl

/- roadbook/val.reckon -/
def t87_90_h : Hints := fun _ =>  none
theorem t87_90 (N : Nat) (x1 : D) (x2 : D) : evFn Try.prog (envOf T5) t87_90_h N Try.f87 [dat 111 (.held (.func (.func 90) #[] #[])), dat 38 x1, dat 38 x2] =
  bif (!(isNum (ifNum 0 [x1, x2]))) then
    some (dat 38 (ifNum 0 [x1, x2]))
  else bif (!(mulOK (intD (fieldD x1 1)) (intD (fieldD x2 1)))) then
      some (dat 38 (.agg [.lit (.int .i64 2), .lit (.int .i64 0)]))
    else some (dat 38 (.agg [.lit (.int .i64 0), .lit (.int .i64 (IntKind.wrap .i64 ((intD (fieldD x1 1)) * (intD (fieldD x2 1)))))])) := by kernel_rfl

/- roadbook/val.reckon -/
def t87_91_h : Hints := fun _ =>  none
theorem t87_91 (N : Nat) (x1 : D) (x2 : D) : evFn Try.prog (envOf T5) t87_91_h N Try.f87 [dat 111 (.held (.func (.func 91) #[] #[])), dat 38 x1, dat 38 x2] =
  bif (!(isNum (ifNum 0 [x1, x2]))) then
    some (dat 38 (ifNum 0 [x1, x2]))
  else bif (!(divOK (intD (fieldD x1 1)) (intD (fieldD x2 1)))) then
      some (dat 38 (.agg [.lit (.int .i64 2), .lit (.int .i64 0)]))
    else some (dat 38 (.agg [.lit (.int .i64 0), .lit (.int .i64 (divV (intD (fieldD x1 1)) (intD (fieldD x2 1))))])) := by kernel_rfl

/- roadbook/val.Eq -/
def t75_h : Hints := fun _ =>  none
theorem t75 (N : Nat) (x0 : D) (x1 : D) : evFn Try.prog (envOf T5) t75_h N Try.f75 [dat 38 x0, dat 38 x1] =
  some (dat 38 (ifNum (truthI ((intD (fieldD x0 1)) == (intD (fieldD x1 1)))) [x0, x1])) := by kernel_rfl

/- roadbook/val.Lt -/
def t76_h : Hints := fun _ =>  none
theorem t76 (N : Nat) (x0 : D) (x1 : D) : evFn Try.prog (envOf T5) t76_h N Try.f76 [dat 38 x0, dat 38 x1] =
  some (dat 38 (ifNum (truthI (decide ((intD (fieldD x0 1)) < (intD (fieldD x1 1))))) [x0, x1])) := by kernel_rfl

/- roadbook/val.And -/
def t77_h : Hints := fun _ =>  none
theorem t77 (N : Nat) (x0 : D) : evFn Try.prog (envOf T5) t77_h N Try.f77 [dat 73 x0] =
  bif (elemsD x0).any isFal then
    some (dat 38 (.agg [.lit (.int .i64 0), .lit (.int .i64 0)]))
  else some (dat 38 (ifNum 1 (elemsD x0))) := by kernel_rfl

/- roadbook/val.Or -/
def t78_h : Hints := fun _ =>  none
theorem t78 (N : Nat) (x0 : D) : evFn Try.prog (envOf T5) t78_h N Try.f78 [dat 73 x0] =
  bif (elemsD x0).any isTru then
    some (dat 38 (.agg [.lit (.int .i64 0), .lit (.int .i64 1)]))
  else some (dat 38 (ifNum 0 (elemsD x0))) := by kernel_rfl

/- roadbook/val.Not -/
def t79_h : Hints := fun _ =>  none
theorem t79 (N : Nat) (x0 : D) : evFn Try.prog (envOf T5) t79_h N Try.f79 [dat 38 x0] =
  some (dat 38 (ifNum (truthI (isFal x0)) [x0])) := by kernel_rfl

/- roadbook/val.Add -/
def t71_h : Hints := fun _ =>  none
theorem t71 (N : Nat) (x0 : D) (x1 : D) : evFn Try.prog (envOf T6) t71_h N Try.f71 [dat 38 x0, dat 38 x1] =
  some (dat 38 (addD x0 x1)) := by kernel_rfl

/- roadbook/val.Sub -/
def t72_h : Hints := fun _ =>  none
theorem t72 (N : Nat) (x0 : D) (x1 : D) : evFn Try.prog (envOf T6) t72_h N Try.f72 [dat 38 x0, dat 38 x1] =
  some (dat 38 (subD x0 x1)) := by kernel_rfl

/- roadbook/val.Mul -/
def t73_h : Hints := fun _ =>  none
theorem t73 (N : Nat) (x0 : D) (x1 : D) : evFn Try.prog (envOf T6) t73_h N Try.f73 [dat 38 x0, dat 38 x1] =
  some (dat 38 (mulD x0 x1)) := by kernel_rfl

/- roadbook/val.Div -/
def t74_h : Hints := fun _ =>  none
theorem t74 (N : Nat) (x0 : D) (x1 : D) : evFn Try.prog (envOf T6) t74_h N Try.f74 [dat 38 x0, dat 38 x1] =
  some (dat 38 (divD x0 x1)) := by kernel_rfl

end Go.Proofs.Ytjgnknkbohlopaa
