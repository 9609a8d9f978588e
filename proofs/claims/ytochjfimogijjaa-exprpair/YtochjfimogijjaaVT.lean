/- What the evaluator comes to, function by function: by the kernel. Nothing here is trusted. -/
import Derived.Test.YtochjfimogijjaaVS
import Derived.Test.YtochjfimogijjaaRows
namespace Go.Proofs.Ytochjfimogijjaa
open Go.Ev
set_option linter.unusedVariables false
def T0 : Tab := []
def e24 : FuncId × TypeId × (List AV → Bool) × (List AV → Option D) := (24, 4, yes, ent [23] (f1 (fun x => some (.lit (.bool (mayB x))))))
def e48 : FuncId × TypeId × (List AV → Bool) × (List AV → Option D) := (48, 4, yes, ent [23] (f1 (fun x => some (.lit (.bool (mayB x))))))
def e45 : FuncId × TypeId × (List AV → Bool) × (List AV → Option D) := (45, 23, yes, ent [3] (f1 (fun x => some (.agg [.lit (.int .i64 0), .lit (.int .i64 (intD x))]))))
def e101 : FuncId × TypeId × (List AV → Bool) × (List AV → Option D) := (101, 23, yes, ent [] (f0 (some (.agg [.lit (.int .i64 2), .lit (.int .i64 0)]))))
def e87 : FuncId × TypeId × (List AV → Bool) × (List AV → Option D) := (87, 3, yes, ent [4] (f1 (fun x => some (.lit (.int .i64 (truthI (boolD x)))))))
def e92 : FuncId × TypeId × (List AV → Bool) × (List AV → Option D) := (92, 23, yes, ent [4] (f1 (fun x => some (.agg [.lit (.int .i64 0), .lit (.int .i64 (truthI (boolD x)))]))))
def e42 : FuncId × TypeId × (List AV → Bool) × (List AV → Option D) := (42, 4, yes, ent [23] (f1 (fun x => some (.lit (.bool (isTru x))))))
def e43 : FuncId × TypeId × (List AV → Bool) × (List AV → Option D) := (43, 4, yes, ent [23] (f1 (fun x => some (.lit (.bool (isTru x))))))
def e82 : FuncId × TypeId × (List AV → Bool) × (List AV → Option D) := (82, 73, yes, ent [3, 3] (f2 (fun x y => some (.agg [.lit (.int .i64 (IntKind.wrap .i64 ((intD x) + (intD y)))), .lit (.bool (addOK (intD x) (intD y)))]))))
def e83 : FuncId × TypeId × (List AV → Bool) × (List AV → Option D) := (83, 73, yes, ent [3, 3] (f2 (fun x y => some (.agg [.lit (.int .i64 (IntKind.wrap .i64 ((intD x) - (intD y)))), .lit (.bool (subOK (intD x) (intD y)))]))))
def e84 : FuncId × TypeId × (List AV → Bool) × (List AV → Option D) := (84, 73, yes, ent [3, 3] (f2 (fun x y => some (.agg [.lit (.int .i64 (IntKind.wrap .i64 ((intD x) * (intD y)))), .lit (.bool (mulOK (intD x) (intD y)))]))))
def e85 : FuncId × TypeId × (List AV → Bool) × (List AV → Option D) := (85, 73, yes, ent [3, 3] (f2 (fun x y => some (.agg [.lit (.int .i64 (divV (intD x) (intD y))), .lit (.bool (divOK (intD x) (intD y)))]))))
def e91 : FuncId × TypeId × (List AV → Bool) × (List AV → Option D) := (91, 28, yes, ent [23, 23] (f2 (fun x y => some (.slice [x, y] []))))
def e100 : FuncId × TypeId × (List AV → Bool) × (List AV → Option D) := (100, 4, yes, ent [23] (f1 (fun x => some (.lit (.bool (isNum x))))))
def T1 : Tab := e24 :: e48 :: e45 :: e101 :: e87 :: e92 :: e42 :: e43 :: e82 :: e83 :: e84 :: e85 :: e91 :: e100 :: T0
def e105 : FuncId × TypeId × (List AV → Bool) × (List AV → Option D) := (105, 23, yes, ent [23] (f1 (fun x => some (readD x))))
def e93 : FuncId × TypeId × (List AV → Bool) × (List AV → Option D) := (93, 23, yes, ent [23] (f1 (fun x => some (readD x))))
def e89 : FuncId × TypeId × (List AV → Bool) × (List AV → Option D) := (89, 4, yes, ent [23] (f1 (fun x => some (.lit (.bool (isFal x))))))
def T2 : Tab := e105 :: e93 :: e89 :: T1
def e102 : FuncId × TypeId × (List AV → Bool) × (List AV → Option D) := (102, 4, yes, ent [23] (f1 (fun x => some (.lit (.bool (isErr x))))))
def e103 : FuncId × TypeId × (List AV → Bool) × (List AV → Option D) := (103, 4, yes, ent [23] (f1 (fun x => some (.lit (.bool (isNul x))))))
def e69 : FuncId × TypeId × (List AV → Bool) × (List AV → Option D) := (69, 23, yes, ent [23] (f1 (fun x => some (notD x))))
def T3 : Tab := e102 :: e103 :: e69 :: T2
def e88 : FuncId × TypeId × (List AV → Bool) × (List AV → Option D) := (88, 4, yes, ent [28, 42] (f2 fun x y => match fnD y with | some 89 => some (.lit (.bool ((elemsD x).any isFal))) | some 42 => some (.lit (.bool ((elemsD x).any isTru))) | some 102 => some (.lit (.bool ((elemsD x).any isErr))) | some 100 => some (.lit (.bool ((elemsD x).any isNum))) | some 103 => some (.lit (.bool ((elemsD x).any isNul))) | _ => none))
def e90 : FuncId × TypeId × (List AV → Bool) × (List AV → Option D) := (90, 84, yes, ent [28] (f1 (fun x => some (.agg [oddD (elemsD x), .lit (.bool (oddB (elemsD x)))]))))
def T4 : Tab := e88 :: e90 :: T3
def e86 : FuncId × TypeId × (List AV → Bool) × (List AV → Option D) := (86, 23, yes, ent [3, 28] (f2 (fun x y => some (ifNum (intD x) (elemsD y)))))
def e67 : FuncId × TypeId × (List AV → Bool) × (List AV → Option D) := (67, 23, yes, ent [28] (f1 (fun x => some (andD (elemsD x)))))
def e68 : FuncId × TypeId × (List AV → Bool) × (List AV → Option D) := (68, 23, yes, ent [28] (f1 (fun x => some (orD (elemsD x)))))
def e61 : FuncId × TypeId × (List AV → Bool) × (List AV → Option D) := (61, 23, yes, ent [23, 23] (f2 (fun x y => some (addD x y))))
def e62 : FuncId × TypeId × (List AV → Bool) × (List AV → Option D) := (62, 23, yes, ent [23, 23] (f2 (fun x y => some (subD x y))))
def e63 : FuncId × TypeId × (List AV → Bool) × (List AV → Option D) := (63, 23, yes, ent [23, 23] (f2 (fun x y => some (mulD x y))))
def e64 : FuncId × TypeId × (List AV → Bool) × (List AV → Option D) := (64, 23, yes, ent [23, 23] (f2 (fun x y => some (divD x y))))
def e65 : FuncId × TypeId × (List AV → Bool) × (List AV → Option D) := (65, 23, yes, ent [23, 23] (f2 (fun x y => some (eqV x y))))
def e66 : FuncId × TypeId × (List AV → Bool) × (List AV → Option D) := (66, 23, yes, ent [23, 23] (f2 (fun x y => some (ltV x y))))
def T5 : Tab := e86 :: e67 :: e68 :: e61 :: e62 :: e63 :: e64 :: e65 :: e66 :: T4
def e81 : FuncId × TypeId × (List AV → Bool) × (List AV → Option D) := (81, 23, yes, ent [80, 23, 23] (f3 fun x y z => match fnD x with | some 82 => some (addD y z) | some 83 => some (subD y z) | some 84 => some (mulD y z) | some 85 => some (divD y z) | _ => none))
def e56 : FuncId × TypeId × (List AV → Bool) × (List AV → Option D) := (56, 23, yes, ent [23, 23] (f2 (fun x y => some (eqV x y))))
def e57 : FuncId × TypeId × (List AV → Bool) × (List AV → Option D) := (57, 23, yes, ent [23, 23] (f2 (fun x y => some (ltV x y))))
def e58 : FuncId × TypeId × (List AV → Bool) × (List AV → Option D) := (58, 23, yes, ent [28] (f1 (fun x => some (andD (elemsD x)))))
def e59 : FuncId × TypeId × (List AV → Bool) × (List AV → Option D) := (59, 23, yes, ent [28] (f1 (fun x => some (orD (elemsD x)))))
def e60 : FuncId × TypeId × (List AV → Bool) × (List AV → Option D) := (60, 23, yes, ent [23] (f1 (fun x => some (notD x))))
def T6 : Tab := e81 :: e56 :: e57 :: e58 :: e59 :: e60 :: T5
def e52 : FuncId × TypeId × (List AV → Bool) × (List AV → Option D) := (52, 23, yes, ent [23, 23] (f2 (fun x y => some (addD x y))))
def e53 : FuncId × TypeId × (List AV → Bool) × (List AV → Option D) := (53, 23, yes, ent [23, 23] (f2 (fun x y => some (subD x y))))
def e54 : FuncId × TypeId × (List AV → Bool) × (List AV → Option D) := (54, 23, yes, ent [23, 23] (f2 (fun x y => some (mulD x y))))
def e55 : FuncId × TypeId × (List AV → Bool) × (List AV → Option D) := (55, 23, yes, ent [23, 23] (f2 (fun x y => some (divD x y))))
def T7 : Tab := e52 :: e53 :: e54 :: e55 :: T6
def T8 : Tab := T7
/- roadbook/val.May -/
def t24_h : Hints := fun _ =>  none
theorem t24 (N : Nat) (x0 : D) : evFn Try.prog (envOf T0) t24_h N Try.f24 [dat 23 x0] =
  bif (((intD (fieldD x0 0)) == 0) == false) then
    bif (((intD (fieldD x0 0)) == 1) == false) then
      bif (((intD (fieldD x0 0)) == 2) == true) then
        some (dat 4 (.lit (.bool ((intD (fieldD x0 1)) == 0))))
      else some (dat 4 (.lit (.bool false)))
    else some (dat 4 (.lit (.bool ((intD (fieldD x0 1)) == 0))))
  else some (dat 4 (.lit (.bool true))) := by kernel_rfl

/- roadbook/roadbookref01.May -/
def t48_h : Hints := fun _ =>  none
theorem t48 (N : Nat) (x0 : D) : evFn Try.prog (envOf T0) t48_h N Try.f48 [dat 23 x0] =
  bif (((intD (fieldD x0 0)) == 0) == false) then
    bif (((intD (fieldD x0 0)) == 1) == false) then
      bif (((intD (fieldD x0 0)) == 2) == true) then
        some (dat 4 (.lit (.bool ((intD (fieldD x0 1)) == 0))))
      else some (dat 4 (.lit (.bool false)))
    else some (dat 4 (.lit (.bool ((intD (fieldD x0 1)) == 0))))
  else some (dat 4 (.lit (.bool true))) := by kernel_rfl

/- roadbook/val.Of -/
def t45_h : Hints := fun _ =>  none
theorem t45 (N : Nat) (x0 : Int) : evFn Try.prog (envOf T0) t45_h N Try.f45 [dat 3 (.lit (.int .i64 x0))] =
  some (dat 23 (.agg [.lit (.int .i64 0), .lit (.int .i64 x0)])) := by kernel_rfl

/- roadbook/val.fault -/
def t101_h : Hints := fun _ =>  none
theorem t101 (N : Nat)  : evFn Try.prog (envOf T0) t101_h N Try.f101 [] =
  some (dat 23 (.agg [.lit (.int .i64 2), .lit (.int .i64 0)])) := by kernel_rfl

/- roadbook/val.truth -/
def t87_h : Hints := fun _ =>  none
theorem t87 (N : Nat) (x0 : Bool) : evFn Try.prog (envOf T0) t87_h N Try.f87 [dat 4 (.lit (.bool x0))] =
  bif x0 then
    some (dat 3 (.lit (.int .i64 1)))
  else some (dat 3 (.lit (.int .i64 0))) := by kernel_rfl

/- roadbook/roadbookref01.one -/
def t92_h : Hints := fun _ =>  none
theorem t92 (N : Nat) (x0 : Bool) : evFn Try.prog (envOf T0) t92_h N Try.f92 [dat 4 (.lit (.bool x0))] =
  bif x0 then
    some (dat 23 (.agg [.lit (.int .i64 0), .lit (.int .i64 1)]))
  else some (dat 23 (.agg [.lit (.int .i64 0), .lit (.int .i64 0)])) := by kernel_rfl

/- roadbook/val.True -/
def t42_h : Hints := fun _ =>  none
theorem t42 (N : Nat) (x0 : D) : evFn Try.prog (envOf T0) t42_h N Try.f42 [dat 23 x0] =
  bif (((intD (fieldD x0 0)) == 0) == true) then
    some (dat 4 (.lit (.bool ((intD (fieldD x0 1)) != 0))))
  else some (dat 4 (.lit (.bool false))) := by kernel_rfl

/- roadbook/roadbookref01.True -/
def t43_h : Hints := fun _ =>  none
theorem t43 (N : Nat) (x0 : D) : evFn Try.prog (envOf T0) t43_h N Try.f43 [dat 23 x0] =
  bif (((intD (fieldD x0 0)) == 0) == true) then
    some (dat 4 (.lit (.bool ((intD (fieldD x0 1)) != 0))))
  else some (dat 4 (.lit (.bool false))) := by kernel_rfl

/- roadbook/val.plus -/
def t82_h : Hints := fun _ =>  none
theorem t82 (N : Nat) (x0 : Int) (x1 : Int) : evFn Try.prog (envOf T0) t82_h N Try.f82 [dat 3 (.lit (.int .i64 x0)), dat 3 (.lit (.int .i64 x1))] =
  some (tupA [3, 4] (.agg [.lit (.int .i64 (IntKind.wrap .i64 (x0 + x1))), .lit (.bool ((decide ((IntKind.wrap .i64 (x0 + x1)) < x0)) == (decide (x1 < 0))))])) := by kernel_rfl

/- roadbook/val.minus -/
def t83_h : Hints := fun _ =>  none
theorem t83 (N : Nat) (x0 : Int) (x1 : Int) : evFn Try.prog (envOf T0) t83_h N Try.f83 [dat 3 (.lit (.int .i64 x0)), dat 3 (.lit (.int .i64 x1))] =
  some (tupA [3, 4] (.agg [.lit (.int .i64 (IntKind.wrap .i64 (x0 - x1))), .lit (.bool ((decide ((IntKind.wrap .i64 (x0 - x1)) > x0)) == (decide (x1 < 0))))])) := by kernel_rfl

/- roadbook/val.times -/
def t84_h : Hints := fun _ =>  none
theorem t84 (N : Nat) (x0 : Int) (x1 : Int) : evFn Try.prog (envOf T0) t84_h N Try.f84 [dat 3 (.lit (.int .i64 x0)), dat 3 (.lit (.int .i64 x1))] =
  bif (x0 == 0) then
    some (tupA [3, 4] (.agg [.lit (.int .i64 (IntKind.wrap .i64 (x0 * x1))), .lit (.bool true)]))
  else bif (x0 == (-1)) then
      some (tupA [3, 4] (.agg [.lit (.int .i64 (IntKind.wrap .i64 (x0 * x1))), .lit (.bool (x1 != (-9223372036854775808)))]))
    else bif (!(x0 == 0)) then
        some (tupA [3, 4] (.agg [.lit (.int .i64 (IntKind.wrap .i64 (x0 * x1))), .lit (.bool ((IntKind.wrap .i64 (Int.tdiv (IntKind.wrap .i64 (x0 * x1)) x0)) == x1))]))
      else none := by kernel_rfl

/- roadbook/val.over -/
def t85_h : Hints := fun _ =>  none
theorem t85 (N : Nat) (x0 : Int) (x1 : Int) : evFn Try.prog (envOf T0) t85_h N Try.f85 [dat 3 (.lit (.int .i64 x0)), dat 3 (.lit (.int .i64 x1))] =
  bif ((x1 == 0) == false) then
    bif ((x0 == (-9223372036854775808)) == true) then
      bif (x1 == (-1)) then
        some (tupA [3, 4] (.agg [.lit (.int .i64 0), .lit (.bool false)]))
      else bif (!(x1 == 0)) then
          some (tupA [3, 4] (.agg [.lit (.int .i64 (IntKind.wrap .i64 (Int.tdiv x0 x1))), .lit (.bool true)]))
        else none
    else bif (!(x1 == 0)) then
        some (tupA [3, 4] (.agg [.lit (.int .i64 (IntKind.wrap .i64 (Int.tdiv x0 x1))), .lit (.bool true)]))
      else none
  else some (tupA [3, 4] (.agg [.lit (.int .i64 0), .lit (.bool false)])) := by kernel_rfl

/- roadbook/roadbookref01.two -/
def t91_h : Hints := fun _ =>  none
theorem t91 (N : Nat) (x0 : D) (x1 : D) : evFn Try.prog (envOf T0) t91_h N Try.f91 [dat 23 x0, dat 23 x1] =
  some (dat 28 (.slice [x0, x1] [])) := by kernel_rfl

/- roadbook/val.isNumber -/
def t100_h : Hints := fun _ =>  none
theorem t100 (N : Nat) (x0 : D) : evFn Try.prog (envOf T0) t100_h N Try.f100 [dat 23 x0] =
  some (dat 4 (.lit (.bool ((intD (fieldD x0 0)) == 0)))) := by kernel_rfl

/- roadbook/val.read -/
def t105_h : Hints := fun _ =>  none
theorem t105 (N : Nat) (x0 : D) : evFn Try.prog (envOf T1) t105_h N Try.f105 [dat 23 x0] =
  bif mayB x0 then
    some (dat 23 x0)
  else some (dat 23 (.agg [.lit (.int .i64 2), .lit (.int .i64 0)])) := by kernel_rfl

/- roadbook/roadbookref01.fine -/
def t93_h : Hints := fun _ =>  none
theorem t93 (N : Nat) (x0 : D) : evFn Try.prog (envOf T1) t93_h N Try.f93 [dat 23 x0] =
  bif mayB x0 then
    some (dat 23 x0)
  else some (dat 23 (.agg [.lit (.int .i64 2), .lit (.int .i64 0)])) := by kernel_rfl

/- roadbook/val.isFalse -/
def t89_h : Hints := fun _ =>  none
theorem t89 (N : Nat) (x0 : D) : evFn Try.prog (envOf T1) t89_h N Try.f89 [dat 23 x0] =
  some (dat 4 (.lit (.bool (((intD (fieldD x0 0)) == 0) && (((intD (fieldD x0 1)) == 0) && true))))) := by kernel_rfl

/- roadbook/val.isError -/
def t102_h : Hints := fun _ =>  none
theorem t102 (N : Nat) (x0 : D) : evFn Try.prog (envOf T2) t102_h N Try.f102 [dat 23 x0] =
  some (dat 4 (.lit (.bool ((intD (fieldD (readD x0) 0)) == 2)))) := by kernel_rfl

/- roadbook/val.isNothing -/
def t103_h : Hints := fun _ =>  none
theorem t103 (N : Nat) (x0 : D) : evFn Try.prog (envOf T2) t103_h N Try.f103 [dat 23 x0] =
  some (dat 4 (.lit (.bool ((intD (fieldD (readD x0) 0)) == 1)))) := by kernel_rfl

/- roadbook/roadbookref01.Not -/
def t69_h : Hints := fun _ =>  none
theorem t69 (N : Nat) (x0 : D) : evFn Try.prog (envOf T2) t69_h N Try.f69 [dat 23 x0] =
  bif ((intD (fieldD (readD x0) 0)) != 0) then
    some (dat 23 (readD x0))
  else some (dat 23 (.agg [.lit (.int .i64 0), .lit (.int .i64 (truthI ((intD (fieldD (readD x0) 1)) == 0)))])) := by kernel_rfl

/- roadbook/val.some[roadbook/api.Val] -/
def t88_89_h : Hints := fun i => if i = 2 then some ([0, 2, 3, 4, 5, 6, 10, 11, 12, 13, 14, 15, 16], [], []) else none
def t88_89_lp2 (P : Program) (fn : Func) (N n : Nat) (x0 : D) (v9 : Int) : Option AV := evLoop (preL t88_89_h (sub [1, 0, 1, 0, 0] (bodyOf fn))) (evCode P (envOf T3) t88_89_h N (sub [1, 0, 1, 0, 0] (bodyOf fn))) n ⟨[dead, dat 42 (.held (.func (.func 89) #[] #[])), dead, dead, dead, dead, dead, dat 28 x0, dat 3 (.lit (.int .i64 ((elemsD x0).length : Int))), dat 3 (.lit (.int .i64 v9)), dead, dead, dead, dead, dead, dead, dead], lookB []⟩ (blockK 0 (seqC P (envOf T3) t88_89_h N (sub [1, 1] (bodyOf fn)) (finK P fn) ))
theorem t88_89_lp2_step (N n : Nat) (x0 : D) (v9 : Int) : t88_89_lp2 Try.prog Try.f88 N (n + 1) x0 v9 =
  bif decide (v9 < ((elemsD x0).length : Int)) then
    bif (decide (0 ≤ v9) && decide (v9 < ((elemsD x0).length : Int))) then
      bif isFal ((elemsD x0).getD (v9).toNat .nil) then
        some (dat 4 (.lit (.bool true)))
      else t88_89_lp2 Try.prog Try.f88 N n x0 (IntKind.wrap .i64 (v9 + 1))
    else none
  else some (dat 4 (.lit (.bool false))) := by kernel_rfl
theorem t88_89 (N : Nat) (x0 : D) : evFn Try.prog (envOf T3) t88_89_h N Try.f88 [dat 28 x0, dat 42 (.held (.func (.func 89) #[] #[]))] =
  t88_89_lp2 Try.prog Try.f88 N N x0 0 := by kernel_rfl

/- roadbook/val.some[roadbook/api.Val] -/
def t88_42_h : Hints := fun i => if i = 2 then some ([0, 2, 3, 4, 5, 6, 10, 11, 12, 13, 14, 15, 16], [], []) else none
def t88_42_lp2 (P : Program) (fn : Func) (N n : Nat) (x0 : D) (v9 : Int) : Option AV := evLoop (preL t88_42_h (sub [1, 0, 1, 0, 0] (bodyOf fn))) (evCode P (envOf T3) t88_42_h N (sub [1, 0, 1, 0, 0] (bodyOf fn))) n ⟨[dead, dat 42 (.held (.func (.func 42) #[] #[])), dead, dead, dead, dead, dead, dat 28 x0, dat 3 (.lit (.int .i64 ((elemsD x0).length : Int))), dat 3 (.lit (.int .i64 v9)), dead, dead, dead, dead, dead, dead, dead], lookB []⟩ (blockK 0 (seqC P (envOf T3) t88_42_h N (sub [1, 1] (bodyOf fn)) (finK P fn) ))
theorem t88_42_lp2_step (N n : Nat) (x0 : D) (v9 : Int) : t88_42_lp2 Try.prog Try.f88 N (n + 1) x0 v9 =
  bif decide (v9 < ((elemsD x0).length : Int)) then
    bif (decide (0 ≤ v9) && decide (v9 < ((elemsD x0).length : Int))) then
      bif isTru ((elemsD x0).getD (v9).toNat .nil) then
        some (dat 4 (.lit (.bool true)))
      else t88_42_lp2 Try.prog Try.f88 N n x0 (IntKind.wrap .i64 (v9 + 1))
    else none
  else some (dat 4 (.lit (.bool false))) := by kernel_rfl
theorem t88_42 (N : Nat) (x0 : D) : evFn Try.prog (envOf T3) t88_42_h N Try.f88 [dat 28 x0, dat 42 (.held (.func (.func 42) #[] #[]))] =
  t88_42_lp2 Try.prog Try.f88 N N x0 0 := by kernel_rfl

/- roadbook/val.some[roadbook/api.Val] -/
def t88_102_h : Hints := fun i => if i = 2 then some ([0, 2, 3, 4, 5, 6, 10, 11, 12, 13, 14, 15, 16], [], []) else none
def t88_102_lp2 (P : Program) (fn : Func) (N n : Nat) (x0 : D) (v9 : Int) : Option AV := evLoop (preL t88_102_h (sub [1, 0, 1, 0, 0] (bodyOf fn))) (evCode P (envOf T3) t88_102_h N (sub [1, 0, 1, 0, 0] (bodyOf fn))) n ⟨[dead, dat 42 (.held (.func (.func 102) #[] #[])), dead, dead, dead, dead, dead, dat 28 x0, dat 3 (.lit (.int .i64 ((elemsD x0).length : Int))), dat 3 (.lit (.int .i64 v9)), dead, dead, dead, dead, dead, dead, dead], lookB []⟩ (blockK 0 (seqC P (envOf T3) t88_102_h N (sub [1, 1] (bodyOf fn)) (finK P fn) ))
theorem t88_102_lp2_step (N n : Nat) (x0 : D) (v9 : Int) : t88_102_lp2 Try.prog Try.f88 N (n + 1) x0 v9 =
  bif decide (v9 < ((elemsD x0).length : Int)) then
    bif (decide (0 ≤ v9) && decide (v9 < ((elemsD x0).length : Int))) then
      bif isErr ((elemsD x0).getD (v9).toNat .nil) then
        some (dat 4 (.lit (.bool true)))
      else t88_102_lp2 Try.prog Try.f88 N n x0 (IntKind.wrap .i64 (v9 + 1))
    else none
  else some (dat 4 (.lit (.bool false))) := by kernel_rfl
theorem t88_102 (N : Nat) (x0 : D) : evFn Try.prog (envOf T3) t88_102_h N Try.f88 [dat 28 x0, dat 42 (.held (.func (.func 102) #[] #[]))] =
  t88_102_lp2 Try.prog Try.f88 N N x0 0 := by kernel_rfl

/- roadbook/val.some[roadbook/api.Val] -/
def t88_100_h : Hints := fun i => if i = 2 then some ([0, 2, 3, 4, 5, 6, 10, 11, 12, 13, 14, 15, 16], [], []) else none
def t88_100_lp2 (P : Program) (fn : Func) (N n : Nat) (x0 : D) (v9 : Int) : Option AV := evLoop (preL t88_100_h (sub [1, 0, 1, 0, 0] (bodyOf fn))) (evCode P (envOf T3) t88_100_h N (sub [1, 0, 1, 0, 0] (bodyOf fn))) n ⟨[dead, dat 42 (.held (.func (.func 100) #[] #[])), dead, dead, dead, dead, dead, dat 28 x0, dat 3 (.lit (.int .i64 ((elemsD x0).length : Int))), dat 3 (.lit (.int .i64 v9)), dead, dead, dead, dead, dead, dead, dead], lookB []⟩ (blockK 0 (seqC P (envOf T3) t88_100_h N (sub [1, 1] (bodyOf fn)) (finK P fn) ))
theorem t88_100_lp2_step (N n : Nat) (x0 : D) (v9 : Int) : t88_100_lp2 Try.prog Try.f88 N (n + 1) x0 v9 =
  bif decide (v9 < ((elemsD x0).length : Int)) then
    bif (decide (0 ≤ v9) && decide (v9 < ((elemsD x0).length : Int))) then
      bif isNum ((elemsD x0).getD (v9).toNat .nil) then
        some (dat 4 (.lit (.bool true)))
      else t88_100_lp2 Try.prog Try.f88 N n x0 (IntKind.wrap .i64 (v9 + 1))
    else none
  else some (dat 4 (.lit (.bool false))) := by kernel_rfl
theorem t88_100 (N : Nat) (x0 : D) : evFn Try.prog (envOf T3) t88_100_h N Try.f88 [dat 28 x0, dat 42 (.held (.func (.func 100) #[] #[]))] =
  t88_100_lp2 Try.prog Try.f88 N N x0 0 := by kernel_rfl

/- roadbook/val.some[roadbook/api.Val] -/
def t88_103_h : Hints := fun i => if i = 2 then some ([0, 2, 3, 4, 5, 6, 10, 11, 12, 13, 14, 15, 16], [], []) else none
def t88_103_lp2 (P : Program) (fn : Func) (N n : Nat) (x0 : D) (v9 : Int) : Option AV := evLoop (preL t88_103_h (sub [1, 0, 1, 0, 0] (bodyOf fn))) (evCode P (envOf T3) t88_103_h N (sub [1, 0, 1, 0, 0] (bodyOf fn))) n ⟨[dead, dat 42 (.held (.func (.func 103) #[] #[])), dead, dead, dead, dead, dead, dat 28 x0, dat 3 (.lit (.int .i64 ((elemsD x0).length : Int))), dat 3 (.lit (.int .i64 v9)), dead, dead, dead, dead, dead, dead, dead], lookB []⟩ (blockK 0 (seqC P (envOf T3) t88_103_h N (sub [1, 1] (bodyOf fn)) (finK P fn) ))
theorem t88_103_lp2_step (N n : Nat) (x0 : D) (v9 : Int) : t88_103_lp2 Try.prog Try.f88 N (n + 1) x0 v9 =
  bif decide (v9 < ((elemsD x0).length : Int)) then
    bif (decide (0 ≤ v9) && decide (v9 < ((elemsD x0).length : Int))) then
      bif isNul ((elemsD x0).getD (v9).toNat .nil) then
        some (dat 4 (.lit (.bool true)))
      else t88_103_lp2 Try.prog Try.f88 N n x0 (IntKind.wrap .i64 (v9 + 1))
    else none
  else some (dat 4 (.lit (.bool false))) := by kernel_rfl
theorem t88_103 (N : Nat) (x0 : D) : evFn Try.prog (envOf T3) t88_103_h N Try.f88 [dat 28 x0, dat 42 (.held (.func (.func 103) #[] #[]))] =
  t88_103_lp2 Try.prog Try.f88 N N x0 0 := by kernel_rfl

/- roadbook/roadbookref01.odd -/
def t90_h : Hints := fun i => if i = 3 then some ([1, 3, 6, 7, 8, 9, 10, 11, 12, 13, 14, 15, 16, 17, 18, 19, 20, 21, 22, 23, 24, 25, 26, 27, 28, 29], [2], []) else none
def t90_lp3 (P : Program) (fn : Func) (N n : Nat) (x0 : D) (v4 : Bool) (v5 : Int) : Option AV := evLoop (preL t90_h (sub [1, 1, 0, 1, 0, 0] (bodyOf fn))) (evCode P (envOf T3) t90_h N (sub [1, 1, 0, 1, 0, 0] (bodyOf fn))) n ⟨[dat 28 x0, dead, bxp 2 23, dead, dat 4 (.lit (.bool v4)), dat 3 (.lit (.int .i64 v5)), dead, dead, dead, dead, dead, dead, dead, dead, dead, dead, dead, dead, dead, dead, dead, dead, dead, dead, dead, dead, dead, dead, dead, dead], lookB [(2, some ⟨23, .agg [.lit (.int .i64 0), .lit (.int .i64 0)], 0, none⟩)]⟩ (blockK 0 (seqC P (envOf T3) t90_h N (sub [1, 1, 1] (bodyOf fn)) (finK P fn) ))
theorem t90_lp3_step (N n : Nat) (x0 : D) (v4 : Bool) (v5 : Int) : t90_lp3 Try.prog Try.f90 N (n + 1) x0 v4 v5 =
  bif decide (v5 < ((elemsD x0).length : Int)) then
    bif (decide (0 ≤ v5) && decide (v5 < ((elemsD x0).length : Int))) then
      bif ((intD (fieldD (readD ((elemsD x0).getD (v5).toNat .nil)) 0)) == 2) then
        some (tupA [23, 4] (.agg [readD ((elemsD x0).getD (v5).toNat .nil), .lit (.bool true)]))
      else bif (v4 == false) then
          t90_lp3 Try.prog Try.f90 N n x0 ((intD (fieldD (readD ((elemsD x0).getD (v5).toNat .nil)) 0)) == 1) (IntKind.wrap .i64 (v5 + 1))
        else t90_lp3 Try.prog Try.f90 N n x0 true (IntKind.wrap .i64 (v5 + 1))
    else none
  else some (tupA [23, 4] (.agg [.agg [.lit (.int .i64 1), .lit (.int .i64 0)], .lit (.bool v4)])) := by kernel_rfl
theorem t90 (N : Nat) (x0 : D) : evFn Try.prog (envOf T3) t90_h N Try.f90 [dat 28 x0] =
  t90_lp3 Try.prog Try.f90 N N x0 false 0 := by kernel_rfl

/- roadbook/val.ifNumbers -/
def t86_h : Hints := fun _ =>  none
theorem t86 (N : Nat) (x0 : Int) (x1 : D) : evFn Try.prog (envOf T4) t86_h N Try.f86 [dat 3 (.lit (.int .i64 x0)), dat 28 x1] =
  bif (elemsD x1).any isErr then
    some (dat 23 (.agg [.lit (.int .i64 2), .lit (.int .i64 0)]))
  else bif (elemsD x1).any isNul then
      some (dat 23 (.agg [.lit (.int .i64 1), .lit (.int .i64 0)]))
    else some (dat 23 (.agg [.lit (.int .i64 0), .lit (.int .i64 x0)])) := by kernel_rfl

/- roadbook/roadbookref01.And -/
def t67_h : Hints := fun i => if i = 2 then some ([1, 4, 5, 6, 7, 8, 9, 10, 11, 12, 13, 14, 15, 16, 17, 18, 19, 20, 21, 22, 23, 24, 25, 26, 27, 28, 29, 30, 31, 32, 33, 34], [2], []) else none
def t67_lp2 (P : Program) (fn : Func) (N n : Nat) (x0 : D) (v3 : Int) : Option AV := evLoop (preL t67_h (sub [1, 0, 1, 0, 0] (bodyOf fn))) (evCode P (envOf T4) t67_h N (sub [1, 0, 1, 0, 0] (bodyOf fn))) n ⟨[dat 28 x0, dead, bxp 2 23, dat 3 (.lit (.int .i64 v3)), dead, dead, dead, dead, dead, dead, dead, dead, dead, dead, dead, dead, dead, dead, dead, dead, dead, dead, dead, dead, dead, dead, dead, dead, dead, dead, dead, dead, dead, dead, dead], lookB [(2, some ⟨23, .agg [.lit (.int .i64 0), .lit (.int .i64 0)], 0, none⟩)]⟩ (blockK 0 (seqC P (envOf T4) t67_h N (sub [1, 1] (bodyOf fn)) (finK P fn) ))
theorem t67_lp2_step (N n : Nat) (x0 : D) (v3 : Int) : t67_lp2 Try.prog Try.f67 N (n + 1) x0 v3 =
  bif decide (v3 < ((elemsD x0).length : Int)) then
    bif (decide (0 ≤ v3) && decide (v3 < ((elemsD x0).length : Int))) then
      bif (((intD (fieldD ((elemsD x0).getD (v3).toNat .nil) 0)) == 0) == true) then
        bif (decide (0 ≤ v3) && decide (v3 < ((elemsD x0).length : Int))) then
          bif ((intD (fieldD ((elemsD x0).getD (v3).toNat .nil) 1)) == 0) then
            some (dat 23 (.agg [.lit (.int .i64 0), .lit (.int .i64 0)]))
          else t67_lp2 Try.prog Try.f67 N n x0 (IntKind.wrap .i64 (v3 + 1))
        else none
      else t67_lp2 Try.prog Try.f67 N n x0 (IntKind.wrap .i64 (v3 + 1))
    else none
  else bif oddB (elemsD x0) then
      some (dat 23 (oddD (elemsD x0)))
    else some (dat 23 (.agg [.lit (.int .i64 0), .lit (.int .i64 1)])) := by kernel_rfl
theorem t67 (N : Nat) (x0 : D) : evFn Try.prog (envOf T4) t67_h N Try.f67 [dat 28 x0] =
  t67_lp2 Try.prog Try.f67 N N x0 0 := by kernel_rfl

/- roadbook/roadbookref01.Or -/
def t68_h : Hints := fun i => if i = 2 then some ([1, 4, 5, 6, 7, 8, 9, 10, 11, 12, 13, 14, 15, 16, 17, 18, 19, 20, 21, 22, 23, 24, 25, 26, 27], [2], []) else none
def t68_lp2 (P : Program) (fn : Func) (N n : Nat) (x0 : D) (v3 : Int) : Option AV := evLoop (preL t68_h (sub [1, 0, 1, 0, 0] (bodyOf fn))) (evCode P (envOf T4) t68_h N (sub [1, 0, 1, 0, 0] (bodyOf fn))) n ⟨[dat 28 x0, dead, bxp 2 23, dat 3 (.lit (.int .i64 v3)), dead, dead, dead, dead, dead, dead, dead, dead, dead, dead, dead, dead, dead, dead, dead, dead, dead, dead, dead, dead, dead, dead, dead, dead], lookB [(2, some ⟨23, .agg [.lit (.int .i64 0), .lit (.int .i64 0)], 0, none⟩)]⟩ (blockK 0 (seqC P (envOf T4) t68_h N (sub [1, 1] (bodyOf fn)) (finK P fn) ))
theorem t68_lp2_step (N n : Nat) (x0 : D) (v3 : Int) : t68_lp2 Try.prog Try.f68 N (n + 1) x0 v3 =
  bif decide (v3 < ((elemsD x0).length : Int)) then
    bif (decide (0 ≤ v3) && decide (v3 < ((elemsD x0).length : Int))) then
      bif isTru ((elemsD x0).getD (v3).toNat .nil) then
        some (dat 23 (.agg [.lit (.int .i64 0), .lit (.int .i64 1)]))
      else t68_lp2 Try.prog Try.f68 N n x0 (IntKind.wrap .i64 (v3 + 1))
    else none
  else bif oddB (elemsD x0) then
      some (dat 23 (oddD (elemsD x0)))
    else some (dat 23 (.agg [.lit (.int .i64 0), .lit (.int .i64 0)])) := by kernel_rfl
theorem t68 (N : Nat) (x0 : D) : evFn Try.prog (envOf T4) t68_h N Try.f68 [dat 28 x0] =
  t68_lp2 Try.prog Try.f68 N N x0 0 := by kernel_rfl

/- roadbook/roadbookref01.Add -/
def t61_h : Hints := fun _ =>  none
theorem t61 (N : Nat) (x0 : D) (x1 : D) : evFn Try.prog (envOf T4) t61_h N Try.f61 [dat 23 x0, dat 23 x1] =
  bif oddB [x0, x1] then
    some (dat 23 (oddD [x0, x1]))
  else bif ((decide ((intD (fieldD x1 1)) > 0)) == true) then
      bif ((decide ((intD (fieldD x0 1)) > (IntKind.wrap .i64 (9223372036854775807 - (intD (fieldD x1 1)))))) == false) then
        bif ((decide ((intD (fieldD x1 1)) < 0)) == true) then
          bif decide ((intD (fieldD x0 1)) < (IntKind.wrap .i64 ((-9223372036854775808) - (intD (fieldD x1 1))))) then
            some (dat 23 (.agg [.lit (.int .i64 2), .lit (.int .i64 0)]))
          else some (dat 23 (.agg [.lit (.int .i64 0), .lit (.int .i64 (IntKind.wrap .i64 ((intD (fieldD x0 1)) + (intD (fieldD x1 1)))))]))
        else some (dat 23 (.agg [.lit (.int .i64 0), .lit (.int .i64 (IntKind.wrap .i64 ((intD (fieldD x0 1)) + (intD (fieldD x1 1)))))]))
      else some (dat 23 (.agg [.lit (.int .i64 2), .lit (.int .i64 0)]))
    else bif ((decide ((intD (fieldD x1 1)) < 0)) == true) then
        bif decide ((intD (fieldD x0 1)) < (IntKind.wrap .i64 ((-9223372036854775808) - (intD (fieldD x1 1))))) then
          some (dat 23 (.agg [.lit (.int .i64 2), .lit (.int .i64 0)]))
        else some (dat 23 (.agg [.lit (.int .i64 0), .lit (.int .i64 (IntKind.wrap .i64 ((intD (fieldD x0 1)) + (intD (fieldD x1 1)))))]))
      else some (dat 23 (.agg [.lit (.int .i64 0), .lit (.int .i64 (IntKind.wrap .i64 ((intD (fieldD x0 1)) + (intD (fieldD x1 1)))))])) := by kernel_rfl

/- roadbook/roadbookref01.Sub -/
def t62_h : Hints := fun _ =>  none
theorem t62 (N : Nat) (x0 : D) (x1 : D) : evFn Try.prog (envOf T4) t62_h N Try.f62 [dat 23 x0, dat 23 x1] =
  bif oddB [x0, x1] then
    some (dat 23 (oddD [x0, x1]))
  else bif ((decide ((intD (fieldD x1 1)) < 0)) == true) then
      bif ((decide ((intD (fieldD x0 1)) > (IntKind.wrap .i64 (9223372036854775807 + (intD (fieldD x1 1)))))) == false) then
        bif ((decide ((intD (fieldD x1 1)) > 0)) == true) then
          bif decide ((intD (fieldD x0 1)) < (IntKind.wrap .i64 ((-9223372036854775808) + (intD (fieldD x1 1))))) then
            some (dat 23 (.agg [.lit (.int .i64 2), .lit (.int .i64 0)]))
          else some (dat 23 (.agg [.lit (.int .i64 0), .lit (.int .i64 (IntKind.wrap .i64 ((intD (fieldD x0 1)) - (intD (fieldD x1 1)))))]))
        else some (dat 23 (.agg [.lit (.int .i64 0), .lit (.int .i64 (IntKind.wrap .i64 ((intD (fieldD x0 1)) - (intD (fieldD x1 1)))))]))
      else some (dat 23 (.agg [.lit (.int .i64 2), .lit (.int .i64 0)]))
    else bif ((decide ((intD (fieldD x1 1)) > 0)) == true) then
        bif decide ((intD (fieldD x0 1)) < (IntKind.wrap .i64 ((-9223372036854775808) + (intD (fieldD x1 1))))) then
          some (dat 23 (.agg [.lit (.int .i64 2), .lit (.int .i64 0)]))
        else some (dat 23 (.agg [.lit (.int .i64 0), .lit (.int .i64 (IntKind.wrap .i64 ((intD (fieldD x0 1)) - (intD (fieldD x1 1)))))]))
      else some (dat 23 (.agg [.lit (.int .i64 0), .lit (.int .i64 (IntKind.wrap .i64 ((intD (fieldD x0 1)) - (intD (fieldD x1 1)))))])) := by kernel_rfl

/- roadbook/roadbookref01.Mul -/
def t63_h : Hints := fun _ =>  none
theorem t63 (N : Nat) (x0 : D) (x1 : D) : evFn Try.prog (envOf T4) t63_h N Try.f63 [dat 23 x0, dat 23 x1] =
  bif oddB [x0, x1] then
    some (dat 23 (oddD [x0, x1]))
  else bif (((intD (fieldD x0 1)) == 0) == false) then
      bif ((intD (fieldD x1 1)) == 0) then
        some (dat 23 (.agg [.lit (.int .i64 0), .lit (.int .i64 0)]))
      else bif (((intD (fieldD x0 1)) == (-1)) == true) then
          bif (((intD (fieldD x1 1)) == (-9223372036854775808)) == false) then
            bif (((intD (fieldD x1 1)) == (-1)) == true) then
              bif ((intD (fieldD x0 1)) == (-9223372036854775808)) then
                some (dat 23 (.agg [.lit (.int .i64 2), .lit (.int .i64 0)]))
              else bif (!((intD (fieldD x1 1)) == 0)) then
                  bif (((IntKind.wrap .i64 (Int.tdiv (IntKind.wrap .i64 ((intD (fieldD x0 1)) * (intD (fieldD x1 1)))) (intD (fieldD x1 1)))) != (intD (fieldD x0 1))) == false) then
                    bif (!((intD (fieldD x1 1)) == 0)) then
                      bif ((Int.tmod (IntKind.wrap .i64 ((intD (fieldD x0 1)) * (intD (fieldD x1 1)))) (intD (fieldD x1 1))) != 0) then
                        some (dat 23 (.agg [.lit (.int .i64 2), .lit (.int .i64 0)]))
                      else some (dat 23 (.agg [.lit (.int .i64 0), .lit (.int .i64 (IntKind.wrap .i64 ((intD (fieldD x0 1)) * (intD (fieldD x1 1)))))]))
                    else none
                  else some (dat 23 (.agg [.lit (.int .i64 2), .lit (.int .i64 0)]))
                else none
            else bif (!((intD (fieldD x1 1)) == 0)) then
                bif (((IntKind.wrap .i64 (Int.tdiv (IntKind.wrap .i64 ((intD (fieldD x0 1)) * (intD (fieldD x1 1)))) (intD (fieldD x1 1)))) != (intD (fieldD x0 1))) == false) then
                  bif (!((intD (fieldD x1 1)) == 0)) then
                    bif ((Int.tmod (IntKind.wrap .i64 ((intD (fieldD x0 1)) * (intD (fieldD x1 1)))) (intD (fieldD x1 1))) != 0) then
                      some (dat 23 (.agg [.lit (.int .i64 2), .lit (.int .i64 0)]))
                    else some (dat 23 (.agg [.lit (.int .i64 0), .lit (.int .i64 (IntKind.wrap .i64 ((intD (fieldD x0 1)) * (intD (fieldD x1 1)))))]))
                  else none
                else some (dat 23 (.agg [.lit (.int .i64 2), .lit (.int .i64 0)]))
              else none
          else some (dat 23 (.agg [.lit (.int .i64 2), .lit (.int .i64 0)]))
        else bif (((intD (fieldD x1 1)) == (-1)) == true) then
            bif ((intD (fieldD x0 1)) == (-9223372036854775808)) then
              some (dat 23 (.agg [.lit (.int .i64 2), .lit (.int .i64 0)]))
            else bif (!((intD (fieldD x1 1)) == 0)) then
                bif (((IntKind.wrap .i64 (Int.tdiv (IntKind.wrap .i64 ((intD (fieldD x0 1)) * (intD (fieldD x1 1)))) (intD (fieldD x1 1)))) != (intD (fieldD x0 1))) == false) then
                  bif (!((intD (fieldD x1 1)) == 0)) then
                    bif ((Int.tmod (IntKind.wrap .i64 ((intD (fieldD x0 1)) * (intD (fieldD x1 1)))) (intD (fieldD x1 1))) != 0) then
                      some (dat 23 (.agg [.lit (.int .i64 2), .lit (.int .i64 0)]))
                    else some (dat 23 (.agg [.lit (.int .i64 0), .lit (.int .i64 (IntKind.wrap .i64 ((intD (fieldD x0 1)) * (intD (fieldD x1 1)))))]))
                  else none
                else some (dat 23 (.agg [.lit (.int .i64 2), .lit (.int .i64 0)]))
              else none
          else bif (!((intD (fieldD x1 1)) == 0)) then
              bif (((IntKind.wrap .i64 (Int.tdiv (IntKind.wrap .i64 ((intD (fieldD x0 1)) * (intD (fieldD x1 1)))) (intD (fieldD x1 1)))) != (intD (fieldD x0 1))) == false) then
                bif (!((intD (fieldD x1 1)) == 0)) then
                  bif ((Int.tmod (IntKind.wrap .i64 ((intD (fieldD x0 1)) * (intD (fieldD x1 1)))) (intD (fieldD x1 1))) != 0) then
                    some (dat 23 (.agg [.lit (.int .i64 2), .lit (.int .i64 0)]))
                  else some (dat 23 (.agg [.lit (.int .i64 0), .lit (.int .i64 (IntKind.wrap .i64 ((intD (fieldD x0 1)) * (intD (fieldD x1 1)))))]))
                else none
              else some (dat 23 (.agg [.lit (.int .i64 2), .lit (.int .i64 0)]))
            else none
    else some (dat 23 (.agg [.lit (.int .i64 0), .lit (.int .i64 0)])) := by kernel_rfl

/- roadbook/roadbookref01.Div -/
def t64_h : Hints := fun _ =>  none
theorem t64 (N : Nat) (x0 : D) (x1 : D) : evFn Try.prog (envOf T4) t64_h N Try.f64 [dat 23 x0, dat 23 x1] =
  bif oddB [x0, x1] then
    some (dat 23 (oddD [x0, x1]))
  else bif (((intD (fieldD x1 1)) == 0) == false) then
      bif (((intD (fieldD x1 1)) == (-1)) == true) then
        bif ((intD (fieldD x0 1)) == (-9223372036854775808)) then
          some (dat 23 (.agg [.lit (.int .i64 2), .lit (.int .i64 0)]))
        else bif (!((intD (fieldD x1 1)) == 0)) then
            some (dat 23 (.agg [.lit (.int .i64 0), .lit (.int .i64 (IntKind.wrap .i64 (Int.tdiv (intD (fieldD x0 1)) (intD (fieldD x1 1)))))]))
          else none
      else bif (!((intD (fieldD x1 1)) == 0)) then
          some (dat 23 (.agg [.lit (.int .i64 0), .lit (.int .i64 (IntKind.wrap .i64 (Int.tdiv (intD (fieldD x0 1)) (intD (fieldD x1 1)))))]))
        else none
    else some (dat 23 (.agg [.lit (.int .i64 2), .lit (.int .i64 0)])) := by kernel_rfl

/- roadbook/roadbookref01.Eq -/
def t65_h : Hints := fun _ =>  none
theorem t65 (N : Nat) (x0 : D) (x1 : D) : evFn Try.prog (envOf T4) t65_h N Try.f65 [dat 23 x0, dat 23 x1] =
  bif oddB [x0, x1] then
    some (dat 23 (oddD [x0, x1]))
  else some (dat 23 (.agg [.lit (.int .i64 0), .lit (.int .i64 (truthI ((intD (fieldD x0 1)) == (intD (fieldD x1 1)))))])) := by kernel_rfl

/- roadbook/roadbookref01.Lt -/
def t66_h : Hints := fun _ =>  none
theorem t66 (N : Nat) (x0 : D) (x1 : D) : evFn Try.prog (envOf T4) t66_h N Try.f66 [dat 23 x0, dat 23 x1] =
  bif oddB [x0, x1] then
    some (dat 23 (oddD [x0, x1]))
  else some (dat 23 (.agg [.lit (.int .i64 0), .lit (.int .i64 (truthI (decide ((intD (fieldD x0 1)) < (intD (fieldD x1 1))))))])) := by kernel_rfl

/- roadbook/val.reckon -/
def t81_82_h : Hints := fun _ =>  none
theorem t81_82 (N : Nat) (x1 : D) (x2 : D) : evFn Try.prog (envOf T5) t81_82_h N Try.f81 [dat 80 (.held (.func (.func 82) #[] #[])), dat 23 x1, dat 23 x2] =
  bif (!(isNum (ifNum 0 [x1, x2]))) then
    some (dat 23 (ifNum 0 [x1, x2]))
  else bif (!(addOK (intD (fieldD x1 1)) (intD (fieldD x2 1)))) then
      some (dat 23 (.agg [.lit (.int .i64 2), .lit (.int .i64 0)]))
    else some (dat 23 (.agg [.lit (.int .i64 0), .lit (.int .i64 (IntKind.wrap .i64 ((intD (fieldD x1 1)) + (intD (fieldD x2 1)))))])) := by kernel_rfl

/- roadbook/val.reckon -/
def t81_83_h : Hints := fun _ =>  none
theorem t81_83 (N : Nat) (x1 : D) (x2 : D) : evFn Try.prog (envOf T5) t81_83_h N Try.f81 [dat 80 (.held (.func (.func 83) #[] #[])), dat 23 x1, dat 23 x2] =
  bif (!(isNum (ifNum 0 [x1, x2]))) then
    some (dat 23 (ifNum 0 [x1, x2]))
  else bif (!(subOK (intD (fieldD x1 1)) (intD (fieldD x2 1)))) then
      some (dat 23 (.agg [.lit (.int .i64 2), .lit (.int .i64 0)]))
    else some (dat 23 (.agg [.lit (.int .i64 0), .lit (.int .i64 (IntKind.wrap .i64 ((intD (fieldD x1 1)) - (intD (fieldD x2 1)))))])) := by kernel_rfl

/- roadbook/val.reckon -/
def t81_84_h : Hints := fun _ =>  none
theorem t81_84 (N : Nat) (x1 : D) (x2 : D) : evFn Try.prog (envOf T5) t81_84_h N Try.f81 [dat 80 (.held (.func (.func 84) #[] #[])), dat 23 x1, dat 23 x2] =
  bif (!(isNum (ifNum 0 [x1, x2]))) then
    some (dat 23 (ifNum 0 [x1, x2]))
  else bif (!(mulOK (intD (fieldD x1 1)) (intD (fieldD x2 1)))) then
      some (dat 23 (.agg [.lit (.int .i64 2), .lit (.int .i64 0)]))
    else some (dat 23 (.agg [.lit (.int .i64 0), .lit (.int .i64 (IntKind.wrap .i64 ((intD (fieldD x1 1)) * (intD (fieldD x2 1)))))])) := by kernel_rfl

/- roadbook/val.reckon -/
def t81_85_h : Hints := fun _ =>  none
theorem t81_85 (N : Nat) (x1 : D) (x2 : D) : evFn Try.prog (envOf T5) t81_85_h N Try.f81 [dat 80 (.held (.func (.func 85) #[] #[])), dat 23 x1, dat 23 x2] =
  bif (!(isNum (ifNum 0 [x1, x2]))) then
    some (dat 23 (ifNum 0 [x1, x2]))
  else bif (!(divOK (intD (fieldD x1 1)) (intD (fieldD x2 1)))) then
      some (dat 23 (.agg [.lit (.int .i64 2), .lit (.int .i64 0)]))
    else some (dat 23 (.agg [.lit (.int .i64 0), .lit (.int .i64 (divV (intD (fieldD x1 1)) (intD (fieldD x2 1))))])) := by kernel_rfl

/- roadbook/val.Eq -/
def t56_h : Hints := fun _ =>  none
theorem t56 (N : Nat) (x0 : D) (x1 : D) : evFn Try.prog (envOf T5) t56_h N Try.f56 [dat 23 x0, dat 23 x1] =
  some (dat 23 (ifNum (truthI ((intD (fieldD x0 1)) == (intD (fieldD x1 1)))) [x0, x1])) := by kernel_rfl

/- roadbook/val.Lt -/
def t57_h : Hints := fun _ =>  none
theorem t57 (N : Nat) (x0 : D) (x1 : D) : evFn Try.prog (envOf T5) t57_h N Try.f57 [dat 23 x0, dat 23 x1] =
  some (dat 23 (ifNum (truthI (decide ((intD (fieldD x0 1)) < (intD (fieldD x1 1))))) [x0, x1])) := by kernel_rfl

/- roadbook/val.And -/
def t58_h : Hints := fun _ =>  none
theorem t58 (N : Nat) (x0 : D) : evFn Try.prog (envOf T5) t58_h N Try.f58 [dat 28 x0] =
  bif (elemsD x0).any isFal then
    some (dat 23 (.agg [.lit (.int .i64 0), .lit (.int .i64 0)]))
  else some (dat 23 (ifNum 1 (elemsD x0))) := by kernel_rfl

/- roadbook/val.Or -/
def t59_h : Hints := fun _ =>  none
theorem t59 (N : Nat) (x0 : D) : evFn Try.prog (envOf T5) t59_h N Try.f59 [dat 28 x0] =
  bif (elemsD x0).any isTru then
    some (dat 23 (.agg [.lit (.int .i64 0), .lit (.int .i64 1)]))
  else some (dat 23 (ifNum 0 (elemsD x0))) := by kernel_rfl

/- roadbook/val.Not -/
def t60_h : Hints := fun _ =>  none
theorem t60 (N : Nat) (x0 : D) : evFn Try.prog (envOf T5) t60_h N Try.f60 [dat 23 x0] =
  some (dat 23 (ifNum (truthI (isFal x0)) [x0])) := by kernel_rfl

/- roadbook/val.Add -/
def t52_h : Hints := fun _ =>  none
theorem t52 (N : Nat) (x0 : D) (x1 : D) : evFn Try.prog (envOf T6) t52_h N Try.f52 [dat 23 x0, dat 23 x1] =
  some (dat 23 (addD x0 x1)) := by kernel_rfl

/- roadbook/val.Sub -/
def t53_h : Hints := fun _ =>  none
theorem t53 (N : Nat) (x0 : D) (x1 : D) : evFn Try.prog (envOf T6) t53_h N Try.f53 [dat 23 x0, dat 23 x1] =
  some (dat 23 (subD x0 x1)) := by kernel_rfl

/- roadbook/val.Mul -/
def t54_h : Hints := fun _ =>  none
theorem t54 (N : Nat) (x0 : D) (x1 : D) : evFn Try.prog (envOf T6) t54_h N Try.f54 [dat 23 x0, dat 23 x1] =
  some (dat 23 (mulD x0 x1)) := by kernel_rfl

/- roadbook/val.Div -/
def t55_h : Hints := fun _ =>  none
theorem t55 (N : Nat) (x0 : D) (x1 : D) : evFn Try.prog (envOf T6) t55_h N Try.f55 [dat 23 x0, dat 23 x1] =
  some (dat 23 (divD x0 x1)) := by kernel_rfl

end Go.Proofs.Ytochjfimogijjaa
