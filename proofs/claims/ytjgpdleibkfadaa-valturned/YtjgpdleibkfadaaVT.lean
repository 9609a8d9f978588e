/- What the evaluator comes to, function by function: by the kernel. Nothing here is trusted. -/
import Derived.Test.YtjgpdleibkfadaaVS
import Derived.Test.YtjgpdleibkfadaaRows
namespace Go.Proofs.Ytjgpdleibkfadaa
open Go.Ev
set_option linter.unusedVariables false
def T0 : Tab := []
def e12 : FuncId × TypeId × (List AV → Bool) × (List AV → Option D) := (12, 4, yes, ent [23] (f1 (fun x => some (.lit (.bool (mayB x))))))
def e13 : FuncId × TypeId × (List AV → Bool) × (List AV → Option D) := (13, 4, yes, ent [23] (f1 (fun x => some (.lit (.bool (mayB x))))))
def e38 : FuncId × TypeId × (List AV → Bool) × (List AV → Option D) := (38, 23, yes, ent [3] (f1 (fun x => some (.agg [.lit (.int .i64 0), .lit (.int .i64 (intD x))]))))
def e54 : FuncId × TypeId × (List AV → Bool) × (List AV → Option D) := (54, 23, yes, ent [] (f0 (some (.agg [.lit (.int .i64 2), .lit (.int .i64 0)]))))
def e49 : FuncId × TypeId × (List AV → Bool) × (List AV → Option D) := (49, 3, yes, ent [4] (f1 (fun x => some (.lit (.int .i64 (truthI (boolD x)))))))
def e50 : FuncId × TypeId × (List AV → Bool) × (List AV → Option D) := (50, 23, yes, ent [4] (f1 (fun x => some (.agg [.lit (.int .i64 0), .lit (.int .i64 (truthI (boolD x)))]))))
def e36 : FuncId × TypeId × (List AV → Bool) × (List AV → Option D) := (36, 4, yes, ent [23] (f1 (fun x => some (.lit (.bool (isTru x))))))
def e37 : FuncId × TypeId × (List AV → Bool) × (List AV → Option D) := (37, 4, yes, ent [23] (f1 (fun x => some (.lit (.bool (isTru x))))))
def e42 : FuncId × TypeId × (List AV → Bool) × (List AV → Option D) := (42, 49, yes, ent [3, 3] (f2 (fun x y => some (.agg [.lit (.int .i64 (IntKind.wrap .i64 ((intD x) + (intD y)))), .lit (.bool (addOK (intD x) (intD y)))]))))
def e45 : FuncId × TypeId × (List AV → Bool) × (List AV → Option D) := (45, 49, yes, ent [3, 3] (f2 (fun x y => some (.agg [.lit (.int .i64 (IntKind.wrap .i64 ((intD x) - (intD y)))), .lit (.bool (subOK (intD x) (intD y)))]))))
def e46 : FuncId × TypeId × (List AV → Bool) × (List AV → Option D) := (46, 49, yes, ent [3, 3] (f2 (fun x y => some (.agg [.lit (.int .i64 (IntKind.wrap .i64 ((intD x) * (intD y)))), .lit (.bool (mulOK (intD x) (intD y)))]))))
def e47 : FuncId × TypeId × (List AV → Bool) × (List AV → Option D) := (47, 49, yes, ent [3, 3] (f2 (fun x y => some (.agg [.lit (.int .i64 (divV (intD x) (intD y))), .lit (.bool (divOK (intD x) (intD y)))]))))
def e44 : FuncId × TypeId × (List AV → Bool) × (List AV → Option D) := (44, 28, yes, ent [23, 23] (f2 (fun x y => some (.slice [x, y] []))))
def e55 : FuncId × TypeId × (List AV → Bool) × (List AV → Option D) := (55, 4, yes, ent [23] (f1 (fun x => some (.lit (.bool (isNum x))))))
def T1 : Tab := e12 :: e13 :: e38 :: e54 :: e49 :: e50 :: e36 :: e37 :: e42 :: e45 :: e46 :: e47 :: e44 :: e55 :: T0
def e39 : FuncId × TypeId × (List AV → Bool) × (List AV → Option D) := (39, 23, yes, ent [23] (f1 (fun x => some (readD x))))
def e40 : FuncId × TypeId × (List AV → Bool) × (List AV → Option D) := (40, 23, yes, ent [23] (f1 (fun x => some (readD x))))
def e52 : FuncId × TypeId × (List AV → Bool) × (List AV → Option D) := (52, 4, yes, ent [23] (f1 (fun x => some (.lit (.bool (isFal x))))))
def T2 : Tab := e39 :: e40 :: e52 :: T1
def e53 : FuncId × TypeId × (List AV → Bool) × (List AV → Option D) := (53, 4, yes, ent [23] (f1 (fun x => some (.lit (.bool (isErr x))))))
def e56 : FuncId × TypeId × (List AV → Bool) × (List AV → Option D) := (56, 4, yes, ent [23] (f1 (fun x => some (.lit (.bool (isNul x))))))
def e14 : FuncId × TypeId × (List AV → Bool) × (List AV → Option D) := (14, 4, yes, ent [23, 23] (f2 (fun x y => some (.lit (.bool (lessB x y))))))
def e15 : FuncId × TypeId × (List AV → Bool) × (List AV → Option D) := (15, 4, yes, ent [23, 23] (f2 (fun x y => some (.lit (.bool (lessB x y))))))
def e35 : FuncId × TypeId × (List AV → Bool) × (List AV → Option D) := (35, 23, yes, ent [23] (f1 (fun x => some (notD x))))
def T3 : Tab := e53 :: e56 :: e14 :: e15 :: e35 :: T2
def e51 : FuncId × TypeId × (List AV → Bool) × (List AV → Option D) := (51, 4, yes, ent [28, 25] (f2 fun x y => match fnD y with | some 52 => some (.lit (.bool ((elemsD x).any isFal))) | some 36 => some (.lit (.bool ((elemsD x).any isTru))) | some 53 => some (.lit (.bool ((elemsD x).any isErr))) | some 55 => some (.lit (.bool ((elemsD x).any isNum))) | some 56 => some (.lit (.bool ((elemsD x).any isNul))) | _ => none))
def e43 : FuncId × TypeId × (List AV → Bool) × (List AV → Option D) := (43, 41, yes, ent [28] (f1 (fun x => some (.agg [oddD (elemsD x), .lit (.bool (oddB (elemsD x)))]))))
def T4 : Tab := e51 :: e43 :: T3
def e48 : FuncId × TypeId × (List AV → Bool) × (List AV → Option D) := (48, 23, yes, ent [3, 28] (f2 (fun x y => some (ifNum (intD x) (elemsD y)))))
def e29 : FuncId × TypeId × (List AV → Bool) × (List AV → Option D) := (29, 23, yes, ent [28] (f1 (fun x => some (andD (elemsD x)))))
def e31 : FuncId × TypeId × (List AV → Bool) × (List AV → Option D) := (31, 23, yes, ent [28] (f1 (fun x => some (orD (elemsD x)))))
def e33 : FuncId × TypeId × (List AV → Bool) × (List AV → Option D) := (33, 23, fun xs => decide ((elemsD (xs.getD 0 dead).d).length ≤ 1000), ent [28] (f1 (fun x => some (sumD (elemsD x)))))
def e32 : FuncId × TypeId × (List AV → Bool) × (List AV → Option D) := (32, 23, yes, ent [28] (f1 (fun x => some (sumD (elemsD x)))))
def e17 : FuncId × TypeId × (List AV → Bool) × (List AV → Option D) := (17, 23, yes, ent [23, 23] (f2 (fun x y => some (addD x y))))
def e19 : FuncId × TypeId × (List AV → Bool) × (List AV → Option D) := (19, 23, yes, ent [23, 23] (f2 (fun x y => some (subD x y))))
def e21 : FuncId × TypeId × (List AV → Bool) × (List AV → Option D) := (21, 23, yes, ent [23, 23] (f2 (fun x y => some (mulD x y))))
def e23 : FuncId × TypeId × (List AV → Bool) × (List AV → Option D) := (23, 23, yes, ent [23, 23] (f2 (fun x y => some (divD x y))))
def e25 : FuncId × TypeId × (List AV → Bool) × (List AV → Option D) := (25, 23, yes, ent [23, 23] (f2 (fun x y => some (eqV x y))))
def e27 : FuncId × TypeId × (List AV → Bool) × (List AV → Option D) := (27, 23, yes, ent [23, 23] (f2 (fun x y => some (ltV x y))))
def T5 : Tab := e48 :: e29 :: e31 :: e33 :: e32 :: e17 :: e19 :: e21 :: e23 :: e25 :: e27 :: T4
def e41 : FuncId × TypeId × (List AV → Bool) × (List AV → Option D) := (41, 23, yes, ent [40, 23, 23] (f3 fun x y z => match fnD x with | some 42 => some (addD y z) | some 45 => some (subD y z) | some 46 => some (mulD y z) | some 47 => some (divD y z) | _ => none))
def e24 : FuncId × TypeId × (List AV → Bool) × (List AV → Option D) := (24, 23, yes, ent [23, 23] (f2 (fun x y => some (eqV x y))))
def e26 : FuncId × TypeId × (List AV → Bool) × (List AV → Option D) := (26, 23, yes, ent [23, 23] (f2 (fun x y => some (ltV x y))))
def e28 : FuncId × TypeId × (List AV → Bool) × (List AV → Option D) := (28, 23, yes, ent [28] (f1 (fun x => some (andD (elemsD x)))))
def e30 : FuncId × TypeId × (List AV → Bool) × (List AV → Option D) := (30, 23, yes, ent [28] (f1 (fun x => some (orD (elemsD x)))))
def e34 : FuncId × TypeId × (List AV → Bool) × (List AV → Option D) := (34, 23, yes, ent [23] (f1 (fun x => some (notD x))))
def T6 : Tab := e41 :: e24 :: e26 :: e28 :: e30 :: e34 :: T5
def e16 : FuncId × TypeId × (List AV → Bool) × (List AV → Option D) := (16, 23, yes, ent [23, 23] (f2 (fun x y => some (addD x y))))
def e18 : FuncId × TypeId × (List AV → Bool) × (List AV → Option D) := (18, 23, yes, ent [23, 23] (f2 (fun x y => some (subD x y))))
def e20 : FuncId × TypeId × (List AV → Bool) × (List AV → Option D) := (20, 23, yes, ent [23, 23] (f2 (fun x y => some (mulD x y))))
def e22 : FuncId × TypeId × (List AV → Bool) × (List AV → Option D) := (22, 23, yes, ent [23, 23] (f2 (fun x y => some (divD x y))))
def T7 : Tab := e16 :: e18 :: e20 :: e22 :: T6
def e11 : FuncId × TypeId × (List AV → Bool) × (List AV → Option D) := (11, 4, yes, ent [] (f0 (some (.lit (.bool true)))))
def T8 : Tab := e11 :: T7
/- roadbook/val.May -/
def t12_h : Hints := fun _ =>  none
theorem t12 (N : Nat) (x0 : D) : evFn Try.prog (envOf T0) t12_h N Try.f12 [dat 23 x0] =
  bif (((intD (fieldD x0 0)) == 0) == false) then
    bif (((intD (fieldD x0 0)) == 1) == false) then
      bif (((intD (fieldD x0 0)) == 2) == true) then
        some (dat 4 (.lit (.bool ((intD (fieldD x0 1)) == 0))))
      else some (dat 4 (.lit (.bool false)))
    else some (dat 4 (.lit (.bool ((intD (fieldD x0 1)) == 0))))
  else some (dat 4 (.lit (.bool true))) := by kernel_rfl

/- roadbook/roadbookref01.May -/
def t13_h : Hints := fun _ =>  none
theorem t13 (N : Nat) (x0 : D) : evFn Try.prog (envOf T0) t13_h N Try.f13 [dat 23 x0] =
  bif (((intD (fieldD x0 0)) == 0) == false) then
    bif (((intD (fieldD x0 0)) == 1) == false) then
      bif (((intD (fieldD x0 0)) == 2) == true) then
        some (dat 4 (.lit (.bool ((intD (fieldD x0 1)) == 0))))
      else some (dat 4 (.lit (.bool false)))
    else some (dat 4 (.lit (.bool ((intD (fieldD x0 1)) == 0))))
  else some (dat 4 (.lit (.bool true))) := by kernel_rfl

/- roadbook/val.Of -/
def t38_h : Hints := fun _ =>  none
theorem t38 (N : Nat) (x0 : Int) : evFn Try.prog (envOf T0) t38_h N Try.f38 [dat 3 (.lit (.int .i64 x0))] =
  some (dat 23 (.agg [.lit (.int .i64 0), .lit (.int .i64 x0)])) := by kernel_rfl

/- roadbook/val.fault -/
def t54_h : Hints := fun _ =>  none
theorem t54 (N : Nat)  : evFn Try.prog (envOf T0) t54_h N Try.f54 [] =
  some (dat 23 (.agg [.lit (.int .i64 2), .lit (.int .i64 0)])) := by kernel_rfl

/- roadbook/val.truth -/
def t49_h : Hints := fun _ =>  none
theorem t49 (N : Nat) (x0 : Bool) : evFn Try.prog (envOf T0) t49_h N Try.f49 [dat 4 (.lit (.bool x0))] =
  bif x0 then
    some (dat 3 (.lit (.int .i64 1)))
  else some (dat 3 (.lit (.int .i64 0))) := by kernel_rfl

/- roadbook/roadbookref01.one -/
def t50_h : Hints := fun _ =>  none
theorem t50 (N : Nat) (x0 : Bool) : evFn Try.prog (envOf T0) t50_h N Try.f50 [dat 4 (.lit (.bool x0))] =
  bif x0 then
    some (dat 23 (.agg [.lit (.int .i64 0), .lit (.int .i64 1)]))
  else some (dat 23 (.agg [.lit (.int .i64 0), .lit (.int .i64 0)])) := by kernel_rfl

/- roadbook/val.True -/
def t36_h : Hints := fun _ =>  none
theorem t36 (N : Nat) (x0 : D) : evFn Try.prog (envOf T0) t36_h N Try.f36 [dat 23 x0] =
  bif (((intD (fieldD x0 0)) == 0) == true) then
    some (dat 4 (.lit (.bool ((intD (fieldD x0 1)) != 0))))
  else some (dat 4 (.lit (.bool false))) := by kernel_rfl

/- roadbook/roadbookref01.True -/
def t37_h : Hints := fun _ =>  none
theorem t37 (N : Nat) (x0 : D) : evFn Try.prog (envOf T0) t37_h N Try.f37 [dat 23 x0] =
  bif (((intD (fieldD x0 0)) == 0) == true) then
    some (dat 4 (.lit (.bool ((intD (fieldD x0 1)) != 0))))
  else some (dat 4 (.lit (.bool false))) := by kernel_rfl

/- roadbook/val.plus -/
def t42_h : Hints := fun _ =>  none
theorem t42 (N : Nat) (x0 : Int) (x1 : Int) : evFn Try.prog (envOf T0) t42_h N Try.f42 [dat 3 (.lit (.int .i64 x0)), dat 3 (.lit (.int .i64 x1))] =
  some (tupA [3, 4] (.agg [.lit (.int .i64 (IntKind.wrap .i64 (x0 + x1))), .lit (.bool ((decide ((IntKind.wrap .i64 (x0 + x1)) < x0)) == (decide (x1 < 0))))])) := by kernel_rfl

/- roadbook/val.minus -/
def t45_h : Hints := fun _ =>  none
theorem t45 (N : Nat) (x0 : Int) (x1 : Int) : evFn Try.prog (envOf T0) t45_h N Try.f45 [dat 3 (.lit (.int .i64 x0)), dat 3 (.lit (.int .i64 x1))] =
  some (tupA [3, 4] (.agg [.lit (.int .i64 (IntKind.wrap .i64 (x0 - x1))), .lit (.bool ((decide ((IntKind.wrap .i64 (x0 - x1)) > x0)) == (decide (x1 < 0))))])) := by kernel_rfl

/- roadbook/val.times -/
def t46_h : Hints := fun _ =>  none
theorem t46 (N : Nat) (x0 : Int) (x1 : Int) : evFn Try.prog (envOf T0) t46_h N Try.f46 [dat 3 (.lit (.int .i64 x0)), dat 3 (.lit (.int .i64 x1))] =
  bif (x0 == 0) then
    some (tupA [3, 4] (.agg [.lit (.int .i64 (IntKind.wrap .i64 (x0 * x1))), .lit (.bool true)]))
  else bif (x0 == (-1)) then
      some (tupA [3, 4] (.agg [.lit (.int .i64 (IntKind.wrap .i64 (x0 * x1))), .lit (.bool (x1 != (-9223372036854775808)))]))
    else bif (!(x0 == 0)) then
        some (tupA [3, 4] (.agg [.lit (.int .i64 (IntKind.wrap .i64 (x0 * x1))), .lit (.bool ((IntKind.wrap .i64 (Int.tdiv (IntKind.wrap .i64 (x0 * x1)) x0)) == x1))]))
      else none := by kernel_rfl

/- roadbook/val.over -/
def t47_h : Hints := fun _ =>  none
theorem t47 (N : Nat) (x0 : Int) (x1 : Int) : evFn Try.prog (envOf T0) t47_h N Try.f47 [dat 3 (.lit (.int .i64 x0)), dat 3 (.lit (.int .i64 x1))] =
  bif ((x1 == 0) == false) then
    bif ((x0 == (-9223372036854775808)) == true) then
      bif (x1 == (-1)) then
        some (tupA [3, 4] (.agg [.lit (.int .i64 0), .lit (.bool false)]))
      else bif (!(x1 == 0)) then
          some (tupA [3, 4] (.agg [.lit (.int .i64 (IntKind.wrap .i64 (Int.tdiv x0 x1))), .lit (.bool true)]))
        else none
    else bif (!(x1 == 0)) then
        some (tupA [3, 4] (.agg [.lit (.int .i64 (IntKind.wrap .i64 (Int.tdiv x0 x1))), .lit (.bool true)]))
      else none
  else some (tupA [3, 4] (.agg [.lit (.int .i64 0), .lit (.bool false)])) := by kernel_rfl

/- roadbook/roadbookref01.two -/
def t44_h : Hints := fun _ =>  none
theorem t44 (N : Nat) (x0 : D) (x1 : D) : evFn Try.prog (envOf T0) t44_h N Try.f44 [dat 23 x0, dat 23 x1] =
  some (dat 28 (.slice [x0, x1] [])) := by kernel_rfl

/- roadbook/val.isNumber -/
def t55_h : Hints := fun _ =>  none
theorem t55 (N : Nat) (x0 : D) : evFn Try.prog (envOf T0) t55_h N Try.f55 [dat 23 x0] =
  some (dat 4 (.lit (.bool ((intD (fieldD x0 0)) == 0)))) := by kernel_rfl

/- roadbook/val.read -/
def t39_h : Hints := fun _ =>  none
theorem t39 (N : Nat) (x0 : D) : evFn Try.prog (envOf T1) t39_h N Try.f39 [dat 23 x0] =
  bif mayB x0 then
    some (dat 23 x0)
  else some (dat 23 (.agg [.lit (.int .i64 2), .lit (.int .i64 0)])) := by kernel_rfl

/- roadbook/roadbookref01.fine -/
def t40_h : Hints := fun _ =>  none
theorem t40 (N : Nat) (x0 : D) : evFn Try.prog (envOf T1) t40_h N Try.f40 [dat 23 x0] =
  bif mayB x0 then
    some (dat 23 x0)
  else some (dat 23 (.agg [.lit (.int .i64 2), .lit (.int .i64 0)])) := by kernel_rfl

/- roadbook/val.isFalse -/
def t52_h : Hints := fun _ =>  none
theorem t52 (N : Nat) (x0 : D) : evFn Try.prog (envOf T1) t52_h N Try.f52 [dat 23 x0] =
  some (dat 4 (.lit (.bool (((intD (fieldD x0 0)) == 0) && (((intD (fieldD x0 1)) == 0) && true))))) := by kernel_rfl

/- roadbook/val.isError -/
def t53_h : Hints := fun _ =>  none
theorem t53 (N : Nat) (x0 : D) : evFn Try.prog (envOf T2) t53_h N Try.f53 [dat 23 x0] =
  some (dat 4 (.lit (.bool ((intD (fieldD (readD x0) 0)) == 2)))) := by kernel_rfl

/- roadbook/val.isNothing -/
def t56_h : Hints := fun _ =>  none
theorem t56 (N : Nat) (x0 : D) : evFn Try.prog (envOf T2) t56_h N Try.f56 [dat 23 x0] =
  some (dat 4 (.lit (.bool ((intD (fieldD (readD x0) 0)) == 1)))) := by kernel_rfl

/- roadbook/val.Less -/
def t14_h : Hints := fun _ =>  none
theorem t14 (N : Nat) (x0 : D) (x1 : D) : evFn Try.prog (envOf T2) t14_h N Try.f14 [dat 23 x0, dat 23 x1] =
  bif ((decide ((intD (fieldD (readD x0) 0)) < (intD (fieldD (readD x1) 0)))) == false) then
    bif (((intD (fieldD (readD x0) 0)) == (intD (fieldD (readD x1) 0))) == true) then
      some (dat 4 (.lit (.bool (decide ((intD (fieldD (readD x0) 1)) < (intD (fieldD (readD x1) 1)))))))
    else some (dat 4 (.lit (.bool false)))
  else some (dat 4 (.lit (.bool true))) := by kernel_rfl

/- roadbook/roadbookref01.Less -/
def t15_h : Hints := fun _ =>  none
theorem t15 (N : Nat) (x0 : D) (x1 : D) : evFn Try.prog (envOf T2) t15_h N Try.f15 [dat 23 x0, dat 23 x1] =
  bif ((decide ((intD (fieldD (readD x0) 0)) < (intD (fieldD (readD x1) 0)))) == false) then
    bif (((intD (fieldD (readD x0) 0)) == 0) == true) then
      bif (((intD (fieldD (readD x1) 0)) == 0) == true) then
        some (dat 4 (.lit (.bool (decide ((intD (fieldD (readD x0) 1)) < (intD (fieldD (readD x1) 1)))))))
      else some (dat 4 (.lit (.bool false)))
    else some (dat 4 (.lit (.bool false)))
  else some (dat 4 (.lit (.bool true))) := by kernel_rfl

/- roadbook/roadbookref01.Not -/
def t35_h : Hints := fun _ =>  none
theorem t35 (N : Nat) (x0 : D) : evFn Try.prog (envOf T2) t35_h N Try.f35 [dat 23 x0] =
  bif ((intD (fieldD (readD x0) 0)) != 0) then
    some (dat 23 (readD x0))
  else some (dat 23 (.agg [.lit (.int .i64 0), .lit (.int .i64 (truthI ((intD (fieldD (readD x0) 1)) == 0)))])) := by kernel_rfl

/- roadbook/val.some[roadbook/api.Val] -/
def t51_52_h : Hints := fun i => if i = 2 then some ([0, 2, 3, 4, 5, 6, 10, 11, 12, 13, 14, 15, 16], []) else none
def t51_52_lp2 (P : Program) (fn : Func) (N n : Nat) (x0 : D) (v9 : Int) : Option AV := evLoop (preL t51_52_h (sub [1, 0, 1, 0, 0] (bodyOf fn))) (evCode P (envOf T3) t51_52_h N (sub [1, 0, 1, 0, 0] (bodyOf fn))) n ⟨[dead, dat 25 (.held (.func (.func 52) #[] #[])), dead, dead, dead, dead, dead, dat 28 x0, dat 3 (.lit (.int .i64 ((elemsD x0).length : Int))), dat 3 (.lit (.int .i64 v9)), dead, dead, dead, dead, dead, dead, dead], lookB []⟩ (blockK 0 (seqC P (envOf T3) t51_52_h N (sub [1, 1] (bodyOf fn)) (finK P fn) ))
theorem t51_52_lp2_step (N n : Nat) (x0 : D) (v9 : Int) : t51_52_lp2 Try.prog Try.f51 N (n + 1) x0 v9 =
  bif decide (v9 < ((elemsD x0).length : Int)) then
    bif (decide (0 ≤ v9) && decide (v9 < ((elemsD x0).length : Int))) then
      bif isFal ((elemsD x0).getD (v9).toNat .nil) then
        some (dat 4 (.lit (.bool true)))
      else t51_52_lp2 Try.prog Try.f51 N n x0 (IntKind.wrap .i64 (v9 + 1))
    else none
  else some (dat 4 (.lit (.bool false))) := by kernel_rfl
theorem t51_52 (N : Nat) (x0 : D) : evFn Try.prog (envOf T3) t51_52_h N Try.f51 [dat 28 x0, dat 25 (.held (.func (.func 52) #[] #[]))] =
  t51_52_lp2 Try.prog Try.f51 N N x0 0 := by kernel_rfl

/- roadbook/val.some[roadbook/api.Val] -/
def t51_36_h : Hints := fun i => if i = 2 then some ([0, 2, 3, 4, 5, 6, 10, 11, 12, 13, 14, 15, 16], []) else none
def t51_36_lp2 (P : Program) (fn : Func) (N n : Nat) (x0 : D) (v9 : Int) : Option AV := evLoop (preL t51_36_h (sub [1, 0, 1, 0, 0] (bodyOf fn))) (evCode P (envOf T3) t51_36_h N (sub [1, 0, 1, 0, 0] (bodyOf fn))) n ⟨[dead, dat 25 (.held (.func (.func 36) #[] #[])), dead, dead, dead, dead, dead, dat 28 x0, dat 3 (.lit (.int .i64 ((elemsD x0).length : Int))), dat 3 (.lit (.int .i64 v9)), dead, dead, dead, dead, dead, dead, dead], lookB []⟩ (blockK 0 (seqC P (envOf T3) t51_36_h N (sub [1, 1] (bodyOf fn)) (finK P fn) ))
theorem t51_36_lp2_step (N n : Nat) (x0 : D) (v9 : Int) : t51_36_lp2 Try.prog Try.f51 N (n + 1) x0 v9 =
  bif decide (v9 < ((elemsD x0).length : Int)) then
    bif (decide (0 ≤ v9) && decide (v9 < ((elemsD x0).length : Int))) then
      bif isTru ((elemsD x0).getD (v9).toNat .nil) then
        some (dat 4 (.lit (.bool true)))
      else t51_36_lp2 Try.prog Try.f51 N n x0 (IntKind.wrap .i64 (v9 + 1))
    else none
  else some (dat 4 (.lit (.bool false))) := by kernel_rfl
theorem t51_36 (N : Nat) (x0 : D) : evFn Try.prog (envOf T3) t51_36_h N Try.f51 [dat 28 x0, dat 25 (.held (.func (.func 36) #[] #[]))] =
  t51_36_lp2 Try.prog Try.f51 N N x0 0 := by kernel_rfl

/- roadbook/val.some[roadbook/api.Val] -/
def t51_53_h : Hints := fun i => if i = 2 then some ([0, 2, 3, 4, 5, 6, 10, 11, 12, 13, 14, 15, 16], []) else none
def t51_53_lp2 (P : Program) (fn : Func) (N n : Nat) (x0 : D) (v9 : Int) : Option AV := evLoop (preL t51_53_h (sub [1, 0, 1, 0, 0] (bodyOf fn))) (evCode P (envOf T3) t51_53_h N (sub [1, 0, 1, 0, 0] (bodyOf fn))) n ⟨[dead, dat 25 (.held (.func (.func 53) #[] #[])), dead, dead, dead, dead, dead, dat 28 x0, dat 3 (.lit (.int .i64 ((elemsD x0).length : Int))), dat 3 (.lit (.int .i64 v9)), dead, dead, dead, dead, dead, dead, dead], lookB []⟩ (blockK 0 (seqC P (envOf T3) t51_53_h N (sub [1, 1] (bodyOf fn)) (finK P fn) ))
theorem t51_53_lp2_step (N n : Nat) (x0 : D) (v9 : Int) : t51_53_lp2 Try.prog Try.f51 N (n + 1) x0 v9 =
  bif decide (v9 < ((elemsD x0).length : Int)) then
    bif (decide (0 ≤ v9) && decide (v9 < ((elemsD x0).length : Int))) then
      bif isErr ((elemsD x0).getD (v9).toNat .nil) then
        some (dat 4 (.lit (.bool true)))
      else t51_53_lp2 Try.prog Try.f51 N n x0 (IntKind.wrap .i64 (v9 + 1))
    else none
  else some (dat 4 (.lit (.bool false))) := by kernel_rfl
theorem t51_53 (N : Nat) (x0 : D) : evFn Try.prog (envOf T3) t51_53_h N Try.f51 [dat 28 x0, dat 25 (.held (.func (.func 53) #[] #[]))] =
  t51_53_lp2 Try.prog Try.f51 N N x0 0 := by kernel_rfl

/- roadbook/val.some[roadbook/api.Val] -/
def t51_55_h : Hints := fun i => if i = 2 then some ([0, 2, 3, 4, 5, 6, 10, 11, 12, 13, 14, 15, 16], []) else none
def t51_55_lp2 (P : Program) (fn : Func) (N n : Nat) (x0 : D) (v9 : Int) : Option AV := evLoop (preL t51_55_h (sub [1, 0, 1, 0, 0] (bodyOf fn))) (evCode P (envOf T3) t51_55_h N (sub [1, 0, 1, 0, 0] (bodyOf fn))) n ⟨[dead, dat 25 (.held (.func (.func 55) #[] #[])), dead, dead, dead, dead, dead, dat 28 x0, dat 3 (.lit (.int .i64 ((elemsD x0).length : Int))), dat 3 (.lit (.int .i64 v9)), dead, dead, dead, dead, dead, dead, dead], lookB []⟩ (blockK 0 (seqC P (envOf T3) t51_55_h N (sub [1, 1] (bodyOf fn)) (finK P fn) ))
theorem t51_55_lp2_step (N n : Nat) (x0 : D) (v9 : Int) : t51_55_lp2 Try.prog Try.f51 N (n + 1) x0 v9 =
  bif decide (v9 < ((elemsD x0).length : Int)) then
    bif (decide (0 ≤ v9) && decide (v9 < ((elemsD x0).length : Int))) then
      bif isNum ((elemsD x0).getD (v9).toNat .nil) then
        some (dat 4 (.lit (.bool true)))
      else t51_55_lp2 Try.prog Try.f51 N n x0 (IntKind.wrap .i64 (v9 + 1))
    else none
  else some (dat 4 (.lit (.bool false))) := by kernel_rfl
theorem t51_55 (N : Nat) (x0 : D) : evFn Try.prog (envOf T3) t51_55_h N Try.f51 [dat 28 x0, dat 25 (.held (.func (.func 55) #[] #[]))] =
  t51_55_lp2 Try.prog Try.f51 N N x0 0 := by kernel_rfl

/- roadbook/val.some[roadbook/api.Val] -/
def t51_56_h : Hints := fun i => if i = 2 then some ([0, 2, 3, 4, 5, 6, 10, 11, 12, 13, 14, 15, 16], []) else none
def t51_56_lp2 (P : Program) (fn : Func) (N n : Nat) (x0 : D) (v9 : Int) : Option AV := evLoop (preL t51_56_h (sub [1, 0, 1, 0, 0] (bodyOf fn))) (evCode P (envOf T3) t51_56_h N (sub [1, 0, 1, 0, 0] (bodyOf fn))) n ⟨[dead, dat 25 (.held (.func (.func 56) #[] #[])), dead, dead, dead, dead, dead, dat 28 x0, dat 3 (.lit (.int .i64 ((elemsD x0).length : Int))), dat 3 (.lit (.int .i64 v9)), dead, dead, dead, dead, dead, dead, dead], lookB []⟩ (blockK 0 (seqC P (envOf T3) t51_56_h N (sub [1, 1] (bodyOf fn)) (finK P fn) ))
theorem t51_56_lp2_step (N n : Nat) (x0 : D) (v9 : Int) : t51_56_lp2 Try.prog Try.f51 N (n + 1) x0 v9 =
  bif decide (v9 < ((elemsD x0).length : Int)) then
    bif (decide (0 ≤ v9) && decide (v9 < ((elemsD x0).length : Int))) then
      bif isNul ((elemsD x0).getD (v9).toNat .nil) then
        some (dat 4 (.lit (.bool true)))
      else t51_56_lp2 Try.prog Try.f51 N n x0 (IntKind.wrap .i64 (v9 + 1))
    else none
  else some (dat 4 (.lit (.bool false))) := by kernel_rfl
theorem t51_56 (N : Nat) (x0 : D) : evFn Try.prog (envOf T3) t51_56_h N Try.f51 [dat 28 x0, dat 25 (.held (.func (.func 56) #[] #[]))] =
  t51_56_lp2 Try.prog Try.f51 N N x0 0 := by kernel_rfl

/- roadbook/roadbookref01.odd -/
def t43_h : Hints := fun i => if i = 3 then some ([1, 3, 6, 7, 8, 9, 10, 11, 12, 13, 14, 15, 16, 17, 18, 19, 20, 21, 22, 23, 24, 25, 26, 27, 28, 29], [2]) else none
def t43_lp3 (P : Program) (fn : Func) (N n : Nat) (x0 : D) (v4 : Bool) (v5 : Int) : Option AV := evLoop (preL t43_h (sub [1, 1, 0, 1, 0, 0] (bodyOf fn))) (evCode P (envOf T3) t43_h N (sub [1, 1, 0, 1, 0, 0] (bodyOf fn))) n ⟨[dat 28 x0, dead, bxp 2 23, dead, dat 4 (.lit (.bool v4)), dat 3 (.lit (.int .i64 v5)), dead, dead, dead, dead, dead, dead, dead, dead, dead, dead, dead, dead, dead, dead, dead, dead, dead, dead, dead, dead, dead, dead, dead, dead], lookB [(2, some ⟨23, .agg [.lit (.int .i64 0), .lit (.int .i64 0)], 0⟩)]⟩ (blockK 0 (seqC P (envOf T3) t43_h N (sub [1, 1, 1] (bodyOf fn)) (finK P fn) ))
theorem t43_lp3_step (N n : Nat) (x0 : D) (v4 : Bool) (v5 : Int) : t43_lp3 Try.prog Try.f43 N (n + 1) x0 v4 v5 =
  bif decide (v5 < ((elemsD x0).length : Int)) then
    bif (decide (0 ≤ v5) && decide (v5 < ((elemsD x0).length : Int))) then
      bif ((intD (fieldD (readD ((elemsD x0).getD (v5).toNat .nil)) 0)) == 2) then
        some (tupA [23, 4] (.agg [readD ((elemsD x0).getD (v5).toNat .nil), .lit (.bool true)]))
      else bif (v4 == false) then
          t43_lp3 Try.prog Try.f43 N n x0 ((intD (fieldD (readD ((elemsD x0).getD (v5).toNat .nil)) 0)) == 1) (IntKind.wrap .i64 (v5 + 1))
        else t43_lp3 Try.prog Try.f43 N n x0 true (IntKind.wrap .i64 (v5 + 1))
    else none
  else some (tupA [23, 4] (.agg [.agg [.lit (.int .i64 1), .lit (.int .i64 0)], .lit (.bool v4)])) := by kernel_rfl
theorem t43 (N : Nat) (x0 : D) : evFn Try.prog (envOf T3) t43_h N Try.f43 [dat 28 x0] =
  t43_lp3 Try.prog Try.f43 N N x0 false 0 := by kernel_rfl

/- roadbook/val.ifNumbers -/
def t48_h : Hints := fun _ =>  none
theorem t48 (N : Nat) (x0 : Int) (x1 : D) : evFn Try.prog (envOf T4) t48_h N Try.f48 [dat 3 (.lit (.int .i64 x0)), dat 28 x1] =
  bif (elemsD x1).any isErr then
    some (dat 23 (.agg [.lit (.int .i64 2), .lit (.int .i64 0)]))
  else bif (elemsD x1).any isNul then
      some (dat 23 (.agg [.lit (.int .i64 1), .lit (.int .i64 0)]))
    else some (dat 23 (.agg [.lit (.int .i64 0), .lit (.int .i64 x0)])) := by kernel_rfl

/- roadbook/roadbookref01.And -/
def t29_h : Hints := fun i => if i = 2 then some ([1, 4, 5, 6, 7, 8, 9, 10, 11, 12, 13, 14, 15, 16, 17, 18, 19, 20, 21, 22, 23, 24, 25, 26, 27, 28, 29, 30, 31, 32, 33, 34], [2]) else none
def t29_lp2 (P : Program) (fn : Func) (N n : Nat) (x0 : D) (v3 : Int) : Option AV := evLoop (preL t29_h (sub [1, 0, 1, 0, 0] (bodyOf fn))) (evCode P (envOf T4) t29_h N (sub [1, 0, 1, 0, 0] (bodyOf fn))) n ⟨[dat 28 x0, dead, bxp 2 23, dat 3 (.lit (.int .i64 v3)), dead, dead, dead, dead, dead, dead, dead, dead, dead, dead, dead, dead, dead, dead, dead, dead, dead, dead, dead, dead, dead, dead, dead, dead, dead, dead, dead, dead, dead, dead, dead], lookB [(2, some ⟨23, .agg [.lit (.int .i64 0), .lit (.int .i64 0)], 0⟩)]⟩ (blockK 0 (seqC P (envOf T4) t29_h N (sub [1, 1] (bodyOf fn)) (finK P fn) ))
theorem t29_lp2_step (N n : Nat) (x0 : D) (v3 : Int) : t29_lp2 Try.prog Try.f29 N (n + 1) x0 v3 =
  bif decide (v3 < ((elemsD x0).length : Int)) then
    bif (decide (0 ≤ v3) && decide (v3 < ((elemsD x0).length : Int))) then
      bif (((intD (fieldD ((elemsD x0).getD (v3).toNat .nil) 0)) == 0) == true) then
        bif (decide (0 ≤ v3) && decide (v3 < ((elemsD x0).length : Int))) then
          bif ((intD (fieldD ((elemsD x0).getD (v3).toNat .nil) 1)) == 0) then
            some (dat 23 (.agg [.lit (.int .i64 0), .lit (.int .i64 0)]))
          else t29_lp2 Try.prog Try.f29 N n x0 (IntKind.wrap .i64 (v3 + 1))
        else none
      else t29_lp2 Try.prog Try.f29 N n x0 (IntKind.wrap .i64 (v3 + 1))
    else none
  else bif oddB (elemsD x0) then
      some (dat 23 (oddD (elemsD x0)))
    else some (dat 23 (.agg [.lit (.int .i64 0), .lit (.int .i64 1)])) := by kernel_rfl
theorem t29 (N : Nat) (x0 : D) : evFn Try.prog (envOf T4) t29_h N Try.f29 [dat 28 x0] =
  t29_lp2 Try.prog Try.f29 N N x0 0 := by kernel_rfl

/- roadbook/roadbookref01.Or -/
def t31_h : Hints := fun i => if i = 2 then some ([1, 4, 5, 6, 7, 8, 9, 10, 11, 12, 13, 14, 15, 16, 17, 18, 19, 20, 21, 22, 23, 24, 25, 26, 27], [2]) else none
def t31_lp2 (P : Program) (fn : Func) (N n : Nat) (x0 : D) (v3 : Int) : Option AV := evLoop (preL t31_h (sub [1, 0, 1, 0, 0] (bodyOf fn))) (evCode P (envOf T4) t31_h N (sub [1, 0, 1, 0, 0] (bodyOf fn))) n ⟨[dat 28 x0, dead, bxp 2 23, dat 3 (.lit (.int .i64 v3)), dead, dead, dead, dead, dead, dead, dead, dead, dead, dead, dead, dead, dead, dead, dead, dead, dead, dead, dead, dead, dead, dead, dead, dead], lookB [(2, some ⟨23, .agg [.lit (.int .i64 0), .lit (.int .i64 0)], 0⟩)]⟩ (blockK 0 (seqC P (envOf T4) t31_h N (sub [1, 1] (bodyOf fn)) (finK P fn) ))
theorem t31_lp2_step (N n : Nat) (x0 : D) (v3 : Int) : t31_lp2 Try.prog Try.f31 N (n + 1) x0 v3 =
  bif decide (v3 < ((elemsD x0).length : Int)) then
    bif (decide (0 ≤ v3) && decide (v3 < ((elemsD x0).length : Int))) then
      bif isTru ((elemsD x0).getD (v3).toNat .nil) then
        some (dat 23 (.agg [.lit (.int .i64 0), .lit (.int .i64 1)]))
      else t31_lp2 Try.prog Try.f31 N n x0 (IntKind.wrap .i64 (v3 + 1))
    else none
  else bif oddB (elemsD x0) then
      some (dat 23 (oddD (elemsD x0)))
    else some (dat 23 (.agg [.lit (.int .i64 0), .lit (.int .i64 0)])) := by kernel_rfl
theorem t31 (N : Nat) (x0 : D) : evFn Try.prog (envOf T4) t31_h N Try.f31 [dat 28 x0] =
  t31_lp2 Try.prog Try.f31 N N x0 0 := by kernel_rfl

/- roadbook/roadbookref01.Sum -/
def t33_h : Hints := fun i => if i = 5 then some ([1, 7, 8, 9, 10, 11, 12, 13, 14, 15, 16, 17, 18, 19, 20, 21, 22, 23, 24, 25, 26, 27, 28, 29, 30, 31, 32, 33, 34, 35, 36, 37, 38, 39, 40, 41, 42, 43, 44, 45, 46, 47, 48, 49, 50, 51, 52, 53, 54, 55, 56, 57, 58, 59, 60, 61, 62, 63, 64, 65, 66], [2]) else none
def t33_lp5 (P : Program) (fn : Func) (N n : Nat) (x0 : D) (v3 : Int) (v4 : Int) (v5 : Int) (v6 : Int) : Option AV := evLoop (preL t33_h (sub [1, 1, 1, 1, 0, 1, 0, 0] (bodyOf fn))) (evCode P (envOf T4) t33_h N (sub [1, 1, 1, 1, 0, 1, 0, 0] (bodyOf fn))) n ⟨[dat 28 x0, dead, bxp 2 23, dat 3 (.lit (.int .i64 v3)), dat 3 (.lit (.int .i64 v4)), dat 3 (.lit (.int .i64 v5)), dat 3 (.lit (.int .i64 v6)), dead, dead, dead, dead, dead, dead, dead, dead, dead, dead, dead, dead, dead, dead, dead, dead, dead, dead, dead, dead, dead, dead, dead, dead, dead, dead, dead, dead, dead, dead, dead, dead, dead, dead, dead, dead, dead, dead, dead, dead, dead, dead, dead, dead, dead, dead, dead, dead, dead, dead, dead, dead, dead, dead, dead, dead, dead, dead, dead, dead], lookB [(2, some ⟨23, .agg [.lit (.int .i64 0), .lit (.int .i64 0)], 0⟩)]⟩ (blockK 0 (seqC P (envOf T4) t33_h N (sub [1, 1, 1, 1, 1] (bodyOf fn)) (finK P fn) ))
theorem t33_lp5_step (N n : Nat) (x0 : D) (v3 : Int) (v4 : Int) (v5 : Int) (v6 : Int) : t33_lp5 Try.prog Try.f33 N (n + 1) x0 v3 v4 v5 v6 =
  bif decide (v6 < ((elemsD x0).length : Int)) then
    bif (decide (0 ≤ v6) && decide (v6 < ((elemsD x0).length : Int))) then
      bif ((intD (fieldD (readD ((elemsD x0).getD (v6).toNat .nil)) 0)) == 2) then
        some (dat 23 (readD ((elemsD x0).getD (v6).toNat .nil)))
      else bif ((intD (fieldD (readD ((elemsD x0).getD (v6).toNat .nil)) 0)) == 0) then
          bif decide ((Int.tmod (intD (fieldD (readD ((elemsD x0).getD (v6).toNat .nil)) 1)) 4294967296) < 0) then
            t33_lp5 Try.prog Try.f33 N n x0 (IntKind.wrap .i64 (v3 + (IntKind.wrap .i64 (Int.tdiv (IntKind.wrap .i64 ((intD (fieldD (readD ((elemsD x0).getD (v6).toNat .nil)) 1)) - (IntKind.wrap .i64 ((Int.tmod (intD (fieldD (readD ((elemsD x0).getD (v6).toNat .nil)) 1)) 4294967296) + 4294967296)))) 4294967296)))) (IntKind.wrap .i64 (v4 + (IntKind.wrap .i64 ((Int.tmod (intD (fieldD (readD ((elemsD x0).getD (v6).toNat .nil)) 1)) 4294967296) + 4294967296)))) (IntKind.wrap .i64 (v5 + 1)) (IntKind.wrap .i64 (v6 + 1))
          else t33_lp5 Try.prog Try.f33 N n x0 (IntKind.wrap .i64 (v3 + (IntKind.wrap .i64 (Int.tdiv (IntKind.wrap .i64 ((intD (fieldD (readD ((elemsD x0).getD (v6).toNat .nil)) 1)) - (Int.tmod (intD (fieldD (readD ((elemsD x0).getD (v6).toNat .nil)) 1)) 4294967296))) 4294967296)))) (IntKind.wrap .i64 (v4 + (Int.tmod (intD (fieldD (readD ((elemsD x0).getD (v6).toNat .nil)) 1)) 4294967296))) (IntKind.wrap .i64 (v5 + 1)) (IntKind.wrap .i64 (v6 + 1))
        else t33_lp5 Try.prog Try.f33 N n x0 v3 v4 v5 (IntKind.wrap .i64 (v6 + 1))
    else none
  else bif (v5 == 0) then
      some (dat 23 (.agg [.lit (.int .i64 1), .lit (.int .i64 0)]))
    else bif ((decide ((IntKind.wrap .i64 (v3 + (IntKind.wrap .i64 (Int.tdiv v4 4294967296)))) > 2147483647)) == false) then
        bif decide ((IntKind.wrap .i64 (v3 + (IntKind.wrap .i64 (Int.tdiv v4 4294967296)))) < (-2147483648)) then
          some (dat 23 (.agg [.lit (.int .i64 2), .lit (.int .i64 0)]))
        else some (dat 23 (.agg [.lit (.int .i64 0), .lit (.int .i64 (IntKind.wrap .i64 ((IntKind.wrap .i64 ((IntKind.wrap .i64 (v3 + (IntKind.wrap .i64 (Int.tdiv v4 4294967296)))) * 4294967296)) + (Int.tmod v4 4294967296))))]))
      else some (dat 23 (.agg [.lit (.int .i64 2), .lit (.int .i64 0)])) := by kernel_rfl
theorem t33 (N : Nat) (x0 : D) : evFn Try.prog (envOf T4) t33_h N Try.f33 [dat 28 x0] =
  t33_lp5 Try.prog Try.f33 N N x0 0 0 0 0 := by kernel_rfl

/- roadbook/val.Sum -/
def t32_h : Hints := fun i => if i = 7 then some ([0, 1, 5, 6, 7, 8, 9, 10, 11, 12, 13, 14, 15, 19, 20, 21, 22, 23, 24, 25, 26, 27, 28, 29, 30, 31, 32, 33, 34, 35, 36, 37, 38, 39, 40, 41, 42, 43, 44, 45, 46, 47, 48], [2]) else none
def t32_lp7 (P : Program) (fn : Func) (N n : Nat) (x0 : D) (v3 : Int) (v4 : Int) (v18 : Int) : Option AV := evLoop (preL t32_h (sub [1, 1, 1, 1, 0, 1, 0, 0] (bodyOf fn))) (evCode P (envOf T4) t32_h N (sub [1, 1, 1, 1, 0, 1, 0, 0] (bodyOf fn))) n ⟨[dead, dead, bxp 2 23, dat 3 (.lit (.int .i64 v3)), dat 3 (.lit (.int .i64 v4)), dead, dead, dead, dead, dead, dead, dead, dead, dead, dead, dead, dat 28 x0, dat 3 (.lit (.int .i64 ((elemsD x0).length : Int))), dat 3 (.lit (.int .i64 v18)), dead, dead, dead, dead, dead, dead, dead, dead, dead, dead, dead, dead, dead, dead, dead, dead, dead, dead, dead, dead, dead, dead, dead, dead, dead, dead, dead, dead, dead, dead], lookB [(2, some ⟨23, .agg [.lit (.int .i64 0), .lit (.int .i64 0)], 0⟩)]⟩ (blockK 0 (seqC P (envOf T4) t32_h N (sub [1, 1, 1, 1, 1] (bodyOf fn)) (finK P fn) ))
theorem t32_lp7_step (N n : Nat) (x0 : D) (v3 : Int) (v4 : Int) (v18 : Int) : t32_lp7 Try.prog Try.f32 N (n + 1) x0 v3 v4 v18 =
  bif decide (v18 < ((elemsD x0).length : Int)) then
    bif (decide (0 ≤ v18) && decide (v18 < ((elemsD x0).length : Int))) then
      bif ((!(addOK v3 (intD (fieldD ((elemsD x0).getD (v18).toNat .nil) 1)))) == true) then
        bif decide ((intD (fieldD ((elemsD x0).getD (v18).toNat .nil) 1)) > 0) then
          t32_lp7 Try.prog Try.f32 N n x0 (IntKind.wrap .i64 (v3 + (intD (fieldD ((elemsD x0).getD (v18).toNat .nil) 1)))) (IntKind.wrap .i64 (v4 + 1)) (IntKind.wrap .i64 (v18 + 1))
        else bif (!(addOK v3 (intD (fieldD ((elemsD x0).getD (v18).toNat .nil) 1)))) then
            t32_lp7 Try.prog Try.f32 N n x0 (IntKind.wrap .i64 (v3 + (intD (fieldD ((elemsD x0).getD (v18).toNat .nil) 1)))) (IntKind.wrap .i64 (v4 - 1)) (IntKind.wrap .i64 (v18 + 1))
          else t32_lp7 Try.prog Try.f32 N n x0 (IntKind.wrap .i64 (v3 + (intD (fieldD ((elemsD x0).getD (v18).toNat .nil) 1)))) v4 (IntKind.wrap .i64 (v18 + 1))
      else bif (!(addOK v3 (intD (fieldD ((elemsD x0).getD (v18).toNat .nil) 1)))) then
          t32_lp7 Try.prog Try.f32 N n x0 (IntKind.wrap .i64 (v3 + (intD (fieldD ((elemsD x0).getD (v18).toNat .nil) 1)))) (IntKind.wrap .i64 (v4 - 1)) (IntKind.wrap .i64 (v18 + 1))
        else t32_lp7 Try.prog Try.f32 N n x0 (IntKind.wrap .i64 (v3 + (intD (fieldD ((elemsD x0).getD (v18).toNat .nil) 1)))) v4 (IntKind.wrap .i64 (v18 + 1))
    else none
  else bif (v4 != 0) then
      some (dat 23 (.agg [.lit (.int .i64 2), .lit (.int .i64 0)]))
    else some (dat 23 (.agg [.lit (.int .i64 0), .lit (.int .i64 v3)])) := by kernel_rfl
theorem t32 (N : Nat) (x0 : D) : evFn Try.prog (envOf T4) t32_h N Try.f32 [dat 28 x0] =
  bif (elemsD x0).any isErr then
    some (dat 23 (.agg [.lit (.int .i64 2), .lit (.int .i64 0)]))
  else bif (!((elemsD x0).any isNum)) then
      some (dat 23 (.agg [.lit (.int .i64 1), .lit (.int .i64 0)]))
    else t32_lp7 Try.prog Try.f32 N N x0 0 0 0 := by kernel_rfl

/- roadbook/roadbookref01.Add -/
def t17_h : Hints := fun _ =>  none
theorem t17 (N : Nat) (x0 : D) (x1 : D) : evFn Try.prog (envOf T4) t17_h N Try.f17 [dat 23 x0, dat 23 x1] =
  bif oddB [x0, x1] then
    some (dat 23 (oddD [x0, x1]))
  else bif ((decide ((intD (fieldD x1 1)) > 0)) == true) then
      bif ((decide ((intD (fieldD x0 1)) > (IntKind.wrap .i64 (9223372036854775807 - (intD (fieldD x1 1)))))) == false) then
        bif ((decide ((intD (fieldD x1 1)) < 0)) == true) then
          bif decide ((intD (fieldD x0 1)) < (IntKind.wrap .i64 ((-9223372036854775808) - (intD (fieldD x1 1))))) then
            some (dat 23 (.agg [.lit (.int .i64 2), .lit (.int .i64 0)]))
          else some (dat 23 (.agg [.lit (.int .i64 0), .lit (.int .i64 (IntKind.wrap .i64 ((intD (fieldD x0 1)) + (intD (fieldD x1 1)))))]))
        else some (dat 23 (.agg [.lit (.int .i64 0), .lit (.int .i64 (IntKind.wrap .i64 ((intD (fieldD x0 1)) + (intD (fieldD x1 1)))))]))
      else some (dat 23 (.agg [.lit (.int .i64 2), .lit (.int .i64 0)]))
    else bif ((decide ((intD (fieldD x1 1)) < 0)) == true) then
        bif decide ((intD (fieldD x0 1)) < (IntKind.wrap .i64 ((-9223372036854775808) - (intD (fieldD x1 1))))) then
          some (dat 23 (.agg [.lit (.int .i64 2), .lit (.int .i64 0)]))
        else some (dat 23 (.agg [.lit (.int .i64 0), .lit (.int .i64 (IntKind.wrap .i64 ((intD (fieldD x0 1)) + (intD (fieldD x1 1)))))]))
      else some (dat 23 (.agg [.lit (.int .i64 0), .lit (.int .i64 (IntKind.wrap .i64 ((intD (fieldD x0 1)) + (intD (fieldD x1 1)))))])) := by kernel_rfl

/- roadbook/roadbookref01.Sub -/
def t19_h : Hints := fun _ =>  none
theorem t19 (N : Nat) (x0 : D) (x1 : D) : evFn Try.prog (envOf T4) t19_h N Try.f19 [dat 23 x0, dat 23 x1] =
  bif oddB [x0, x1] then
    some (dat 23 (oddD [x0, x1]))
  else bif ((decide ((intD (fieldD x1 1)) < 0)) == true) then
      bif ((decide ((intD (fieldD x0 1)) > (IntKind.wrap .i64 (9223372036854775807 + (intD (fieldD x1 1)))))) == false) then
        bif ((decide ((intD (fieldD x1 1)) > 0)) == true) then
          bif decide ((intD (fieldD x0 1)) < (IntKind.wrap .i64 ((-9223372036854775808) + (intD (fieldD x1 1))))) then
            some (dat 23 (.agg [.lit (.int .i64 2), .lit (.int .i64 0)]))
          else some (dat 23 (.agg [.lit (.int .i64 0), .lit (.int .i64 (IntKind.wrap .i64 ((intD (fieldD x0 1)) - (intD (fieldD x1 1)))))]))
        else some (dat 23 (.agg [.lit (.int .i64 0), .lit (.int .i64 (IntKind.wrap .i64 ((intD (fieldD x0 1)) - (intD (fieldD x1 1)))))]))
      else some (dat 23 (.agg [.lit (.int .i64 2), .lit (.int .i64 0)]))
    else bif ((decide ((intD (fieldD x1 1)) > 0)) == true) then
        bif decide ((intD (fieldD x0 1)) < (IntKind.wrap .i64 ((-9223372036854775808) + (intD (fieldD x1 1))))) then
          some (dat 23 (.agg [.lit (.int .i64 2), .lit (.int .i64 0)]))
        else some (dat 23 (.agg [.lit (.int .i64 0), .lit (.int .i64 (IntKind.wrap .i64 ((intD (fieldD x0 1)) - (intD (fieldD x1 1)))))]))
      else some (dat 23 (.agg [.lit (.int .i64 0), .lit (.int .i64 (IntKind.wrap .i64 ((intD (fieldD x0 1)) - (intD (fieldD x1 1)))))])) := by kernel_rfl

/- roadbook/roadbookref01.Mul -/
def t21_h : Hints := fun _ =>  none
theorem t21 (N : Nat) (x0 : D) (x1 : D) : evFn Try.prog (envOf T4) t21_h N Try.f21 [dat 23 x0, dat 23 x1] =
  bif oddB [x0, x1] then
    some (dat 23 (oddD [x0, x1]))
  else bif (((intD (fieldD x0 1)) == 0) == false) then
      bif ((intD (fieldD x1 1)) == 0) then
        some (dat 23 (.agg [.lit (.int .i64 0), .lit (.int .i64 0)]))
      else bif (((intD (fieldD x0 1)) == (-1)) == true) then
          bif (((intD (fieldD x1 1)) == (-9223372036854775808)) == false) then
            bif (((intD (fieldD x1 1)) == (-1)) == true) then
              bif ((intD (fieldD x0 1)) == (-9223372036854775808)) then
                some (dat 23 (.agg [.lit (.int .i64 2), .lit (.int .i64 0)]))
              else bif (!((intD (fieldD x1 1)) == 0)) then
                  bif (((IntKind.wrap .i64 (Int.tdiv (IntKind.wrap .i64 ((intD (fieldD x0 1)) * (intD (fieldD x1 1)))) (intD (fieldD x1 1)))) != (intD (fieldD x0 1))) == false) then
                    bif (!((intD (fieldD x1 1)) == 0)) then
                      bif ((Int.tmod (IntKind.wrap .i64 ((intD (fieldD x0 1)) * (intD (fieldD x1 1)))) (intD (fieldD x1 1))) != 0) then
                        some (dat 23 (.agg [.lit (.int .i64 2), .lit (.int .i64 0)]))
                      else some (dat 23 (.agg [.lit (.int .i64 0), .lit (.int .i64 (IntKind.wrap .i64 ((intD (fieldD x0 1)) * (intD (fieldD x1 1)))))]))
                    else none
                  else some (dat 23 (.agg [.lit (.int .i64 2), .lit (.int .i64 0)]))
                else none
            else bif (!((intD (fieldD x1 1)) == 0)) then
                bif (((IntKind.wrap .i64 (Int.tdiv (IntKind.wrap .i64 ((intD (fieldD x0 1)) * (intD (fieldD x1 1)))) (intD (fieldD x1 1)))) != (intD (fieldD x0 1))) == false) then
                  bif (!((intD (fieldD x1 1)) == 0)) then
                    bif ((Int.tmod (IntKind.wrap .i64 ((intD (fieldD x0 1)) * (intD (fieldD x1 1)))) (intD (fieldD x1 1))) != 0) then
                      some (dat 23 (.agg [.lit (.int .i64 2), .lit (.int .i64 0)]))
                    else some (dat 23 (.agg [.lit (.int .i64 0), .lit (.int .i64 (IntKind.wrap .i64 ((intD (fieldD x0 1)) * (intD (fieldD x1 1)))))]))
                  else none
                else some (dat 23 (.agg [.lit (.int .i64 2), .lit (.int .i64 0)]))
              else none
          else some (dat 23 (.agg [.lit (.int .i64 2), .lit (.int .i64 0)]))
        else bif (((intD (fieldD x1 1)) == (-1)) == true) then
            bif ((intD (fieldD x0 1)) == (-9223372036854775808)) then
              some (dat 23 (.agg [.lit (.int .i64 2), .lit (.int .i64 0)]))
            else bif (!((intD (fieldD x1 1)) == 0)) then
                bif (((IntKind.wrap .i64 (Int.tdiv (IntKind.wrap .i64 ((intD (fieldD x0 1)) * (intD (fieldD x1 1)))) (intD (fieldD x1 1)))) != (intD (fieldD x0 1))) == false) then
                  bif (!((intD (fieldD x1 1)) == 0)) then
                    bif ((Int.tmod (IntKind.wrap .i64 ((intD (fieldD x0 1)) * (intD (fieldD x1 1)))) (intD (fieldD x1 1))) != 0) then
                      some (dat 23 (.agg [.lit (.int .i64 2), .lit (.int .i64 0)]))
                    else some (dat 23 (.agg [.lit (.int .i64 0), .lit (.int .i64 (IntKind.wrap .i64 ((intD (fieldD x0 1)) * (intD (fieldD x1 1)))))]))
                  else none
                else some (dat 23 (.agg [.lit (.int .i64 2), .lit (.int .i64 0)]))
              else none
          else bif (!((intD (fieldD x1 1)) == 0)) then
              bif (((IntKind.wrap .i64 (Int.tdiv (IntKind.wrap .i64 ((intD (fieldD x0 1)) * (intD (fieldD x1 1)))) (intD (fieldD x1 1)))) != (intD (fieldD x0 1))) == false) then
                bif (!((intD (fieldD x1 1)) == 0)) then
                  bif ((Int.tmod (IntKind.wrap .i64 ((intD (fieldD x0 1)) * (intD (fieldD x1 1)))) (intD (fieldD x1 1))) != 0) then
                    some (dat 23 (.agg [.lit (.int .i64 2), .lit (.int .i64 0)]))
                  else some (dat 23 (.agg [.lit (.int .i64 0), .lit (.int .i64 (IntKind.wrap .i64 ((intD (fieldD x0 1)) * (intD (fieldD x1 1)))))]))
                else none
              else some (dat 23 (.agg [.lit (.int .i64 2), .lit (.int .i64 0)]))
            else none
    else some (dat 23 (.agg [.lit (.int .i64 0), .lit (.int .i64 0)])) := by kernel_rfl

/- roadbook/roadbookref01.Div -/
def t23_h : Hints := fun _ =>  none
theorem t23 (N : Nat) (x0 : D) (x1 : D) : evFn Try.prog (envOf T4) t23_h N Try.f23 [dat 23 x0, dat 23 x1] =
  bif oddB [x0, x1] then
    some (dat 23 (oddD [x0, x1]))
  else bif (((intD (fieldD x1 1)) == 0) == false) then
      bif (((intD (fieldD x1 1)) == (-1)) == true) then
        bif ((intD (fieldD x0 1)) == (-9223372036854775808)) then
          some (dat 23 (.agg [.lit (.int .i64 2), .lit (.int .i64 0)]))
        else bif (!((intD (fieldD x1 1)) == 0)) then
            some (dat 23 (.agg [.lit (.int .i64 0), .lit (.int .i64 (IntKind.wrap .i64 (Int.tdiv (intD (fieldD x0 1)) (intD (fieldD x1 1)))))]))
          else none
      else bif (!((intD (fieldD x1 1)) == 0)) then
          some (dat 23 (.agg [.lit (.int .i64 0), .lit (.int .i64 (IntKind.wrap .i64 (Int.tdiv (intD (fieldD x0 1)) (intD (fieldD x1 1)))))]))
        else none
    else some (dat 23 (.agg [.lit (.int .i64 2), .lit (.int .i64 0)])) := by kernel_rfl

/- roadbook/roadbookref01.Eq -/
def t25_h : Hints := fun _ =>  none
theorem t25 (N : Nat) (x0 : D) (x1 : D) : evFn Try.prog (envOf T4) t25_h N Try.f25 [dat 23 x0, dat 23 x1] =
  bif oddB [x0, x1] then
    some (dat 23 (oddD [x0, x1]))
  else some (dat 23 (.agg [.lit (.int .i64 0), .lit (.int .i64 (truthI ((intD (fieldD x0 1)) == (intD (fieldD x1 1)))))])) := by kernel_rfl

/- roadbook/roadbookref01.Lt -/
def t27_h : Hints := fun _ =>  none
theorem t27 (N : Nat) (x0 : D) (x1 : D) : evFn Try.prog (envOf T4) t27_h N Try.f27 [dat 23 x0, dat 23 x1] =
  bif oddB [x0, x1] then
    some (dat 23 (oddD [x0, x1]))
  else some (dat 23 (.agg [.lit (.int .i64 0), .lit (.int .i64 (truthI (decide ((intD (fieldD x0 1)) < (intD (fieldD x1 1))))))])) := by kernel_rfl

/- roadbook/val.reckon -/
def t41_42_h : Hints := fun _ =>  none
theorem t41_42 (N : Nat) (x1 : D) (x2 : D) : evFn Try.prog (envOf T5) t41_42_h N Try.f41 [dat 40 (.held (.func (.func 42) #[] #[])), dat 23 x1, dat 23 x2] =
  bif (!(isNum (ifNum 0 [x1, x2]))) then
    some (dat 23 (ifNum 0 [x1, x2]))
  else bif (!(addOK (intD (fieldD x1 1)) (intD (fieldD x2 1)))) then
      some (dat 23 (.agg [.lit (.int .i64 2), .lit (.int .i64 0)]))
    else some (dat 23 (.agg [.lit (.int .i64 0), .lit (.int .i64 (IntKind.wrap .i64 ((intD (fieldD x1 1)) + (intD (fieldD x2 1)))))])) := by kernel_rfl

/- roadbook/val.reckon -/
def t41_45_h : Hints := fun _ =>  none
theorem t41_45 (N : Nat) (x1 : D) (x2 : D) : evFn Try.prog (envOf T5) t41_45_h N Try.f41 [dat 40 (.held (.func (.func 45) #[] #[])), dat 23 x1, dat 23 x2] =
  bif (!(isNum (ifNum 0 [x1, x2]))) then
    some (dat 23 (ifNum 0 [x1, x2]))
  else bif (!(subOK (intD (fieldD x1 1)) (intD (fieldD x2 1)))) then
      some (dat 23 (.agg [.lit (.int .i64 2), .lit (.int .i64 0)]))
    else some (dat 23 (.agg [.lit (.int .i64 0), .lit (.int .i64 (IntKind.wrap .i64 ((intD (fieldD x1 1)) - (intD (fieldD x2 1)))))])) := by kernel_rfl

/- roadbook/val.reckon -/
def t41_46_h : Hints := fun _ =>  none
theorem t41_46 (N : Nat) (x1 : D) (x2 : D) : evFn Try.prog (envOf T5) t41_46_h N Try.f41 [dat 40 (.held (.func (.func 46) #[] #[])), dat 23 x1, dat 23 x2] =
  bif (!(isNum (ifNum 0 [x1, x2]))) then
    some (dat 23 (ifNum 0 [x1, x2]))
  else bif (!(mulOK (intD (fieldD x1 1)) (intD (fieldD x2 1)))) then
      some (dat 23 (.agg [.lit (.int .i64 2), .lit (.int .i64 0)]))
    else some (dat 23 (.agg [.lit (.int .i64 0), .lit (.int .i64 (IntKind.wrap .i64 ((intD (fieldD x1 1)) * (intD (fieldD x2 1)))))])) := by kernel_rfl

/- roadbook/val.reckon -/
def t41_47_h : Hints := fun _ =>  none
theorem t41_47 (N : Nat) (x1 : D) (x2 : D) : evFn Try.prog (envOf T5) t41_47_h N Try.f41 [dat 40 (.held (.func (.func 47) #[] #[])), dat 23 x1, dat 23 x2] =
  bif (!(isNum (ifNum 0 [x1, x2]))) then
    some (dat 23 (ifNum 0 [x1, x2]))
  else bif (!(divOK (intD (fieldD x1 1)) (intD (fieldD x2 1)))) then
      some (dat 23 (.agg [.lit (.int .i64 2), .lit (.int .i64 0)]))
    else some (dat 23 (.agg [.lit (.int .i64 0), .lit (.int .i64 (divV (intD (fieldD x1 1)) (intD (fieldD x2 1))))])) := by kernel_rfl

/- roadbook/val.Eq -/
def t24_h : Hints := fun _ =>  none
theorem t24 (N : Nat) (x0 : D) (x1 : D) : evFn Try.prog (envOf T5) t24_h N Try.f24 [dat 23 x0, dat 23 x1] =
  some (dat 23 (ifNum (truthI ((intD (fieldD x0 1)) == (intD (fieldD x1 1)))) [x0, x1])) := by kernel_rfl

/- roadbook/val.Lt -/
def t26_h : Hints := fun _ =>  none
theorem t26 (N : Nat) (x0 : D) (x1 : D) : evFn Try.prog (envOf T5) t26_h N Try.f26 [dat 23 x0, dat 23 x1] =
  some (dat 23 (ifNum (truthI (decide ((intD (fieldD x0 1)) < (intD (fieldD x1 1))))) [x0, x1])) := by kernel_rfl

/- roadbook/val.And -/
def t28_h : Hints := fun _ =>  none
theorem t28 (N : Nat) (x0 : D) : evFn Try.prog (envOf T5) t28_h N Try.f28 [dat 28 x0] =
  bif (elemsD x0).any isFal then
    some (dat 23 (.agg [.lit (.int .i64 0), .lit (.int .i64 0)]))
  else some (dat 23 (ifNum 1 (elemsD x0))) := by kernel_rfl

/- roadbook/val.Or -/
def t30_h : Hints := fun _ =>  none
theorem t30 (N : Nat) (x0 : D) : evFn Try.prog (envOf T5) t30_h N Try.f30 [dat 28 x0] =
  bif (elemsD x0).any isTru then
    some (dat 23 (.agg [.lit (.int .i64 0), .lit (.int .i64 1)]))
  else some (dat 23 (ifNum 0 (elemsD x0))) := by kernel_rfl

/- roadbook/val.Not -/
def t34_h : Hints := fun _ =>  none
theorem t34 (N : Nat) (x0 : D) : evFn Try.prog (envOf T5) t34_h N Try.f34 [dat 23 x0] =
  some (dat 23 (ifNum (truthI (isFal x0)) [x0])) := by kernel_rfl

/- roadbook/val.Add -/
def t16_h : Hints := fun _ =>  none
theorem t16 (N : Nat) (x0 : D) (x1 : D) : evFn Try.prog (envOf T6) t16_h N Try.f16 [dat 23 x0, dat 23 x1] =
  some (dat 23 (addD x0 x1)) := by kernel_rfl

/- roadbook/val.Sub -/
def t18_h : Hints := fun _ =>  none
theorem t18 (N : Nat) (x0 : D) (x1 : D) : evFn Try.prog (envOf T6) t18_h N Try.f18 [dat 23 x0, dat 23 x1] =
  some (dat 23 (subD x0 x1)) := by kernel_rfl

/- roadbook/val.Mul -/
def t20_h : Hints := fun _ =>  none
theorem t20 (N : Nat) (x0 : D) (x1 : D) : evFn Try.prog (envOf T6) t20_h N Try.f20 [dat 23 x0, dat 23 x1] =
  some (dat 23 (mulD x0 x1)) := by kernel_rfl

/- roadbook/val.Div -/
def t22_h : Hints := fun _ =>  none
theorem t22 (N : Nat) (x0 : D) (x1 : D) : evFn Try.prog (envOf T6) t22_h N Try.f22 [dat 23 x0, dat 23 x1] =
  some (dat 23 (divD x0 x1)) := by kernel_rfl

/- roadbook/roadbooklaw01.awake -/
def t11_h : Hints := fun _ =>  none
theorem t11 (N : Nat)  : evFn Try.prog (envOf T7) t11_h N Try.f11 [] =
  bif ((((intD (fieldD (divD (.agg [.lit (.int .i64 0), .lit (.int .i64 3)]) (.agg [.lit (.int .i64 0), .lit (.int .i64 0)])) 0)) == 2) && (((intD (fieldD (divD (.agg [.lit (.int .i64 0), .lit (.int .i64 3)]) (.agg [.lit (.int .i64 0), .lit (.int .i64 0)])) 1)) == 0) && true)) == true) then
    bif ((((intD (fieldD (andD [.agg [.lit (.int .i64 1), .lit (.int .i64 0)], .agg [.lit (.int .i64 0), .lit (.int .i64 0)]]) 0)) == 0) && (((intD (fieldD (andD [.agg [.lit (.int .i64 1), .lit (.int .i64 0)], .agg [.lit (.int .i64 0), .lit (.int .i64 0)]]) 1)) == 0) && true)) == true) then
      bif ((((intD (fieldD (addD (.agg [.lit (.int .i64 0), .lit (.int .i64 2)]) (.agg [.lit (.int .i64 0), .lit (.int .i64 3)])) 0)) == 0) && (((intD (fieldD (addD (.agg [.lit (.int .i64 0), .lit (.int .i64 2)]) (.agg [.lit (.int .i64 0), .lit (.int .i64 3)])) 1)) == 5) && true)) == true) then
        some (dat 4 (.lit (.bool true)))
      else some (dat 4 (.lit (.bool false)))
    else some (dat 4 (.lit (.bool false)))
  else some (dat 4 (.lit (.bool false))) := by kernel_rfl

end Go.Proofs.Ytjgpdleibkfadaa
