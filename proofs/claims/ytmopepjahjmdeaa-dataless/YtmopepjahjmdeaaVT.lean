/- What the evaluator comes to, function by function: by the kernel. Nothing here is trusted. -/
import Derived.Test.YtmopepjahjmdeaaV1
import Derived.Test.YtmopepjahjmdeaaRows
namespace Go.Proofs.Ytmopepjahjmdeaa
open Go.Ev
set_option linter.unusedVariables false
def T0 : Tab := []
def e63 : FuncId × TypeId × (List AV → Bool) × (List AV → Option D) := (63, 4, yes, ent [34] (f1 (fun x => some (.lit (.bool (mayB x))))))
def e54 : FuncId × TypeId × (List AV → Bool) × (List AV → Option D) := (54, 4, yes, ent [34] (f1 (fun x => some (.lit (.bool (mayB x))))))
def e60 : FuncId × TypeId × (List AV → Bool) × (List AV → Option D) := (60, 34, yes, ent [3] (f1 (fun x => some (.agg [.lit (.int .i64 0), .lit (.int .i64 (intD x))]))))
def e74 : FuncId × TypeId × (List AV → Bool) × (List AV → Option D) := (74, 34, yes, ent [] (f0 (some (.agg [.lit (.int .i64 2), .lit (.int .i64 0)]))))
def e110 : FuncId × TypeId × (List AV → Bool) × (List AV → Option D) := (110, 3, yes, ent [4] (f1 (fun x => some (.lit (.int .i64 (truthI (boolD x)))))))
def e83 : FuncId × TypeId × (List AV → Bool) × (List AV → Option D) := (83, 4, yes, ent [34] (f1 (fun x => some (.lit (.bool (isTru x))))))
def e76 : FuncId × TypeId × (List AV → Bool) × (List AV → Option D) := (76, 107, yes, ent [3, 3] (f2 (fun x y => some (.agg [.lit (.int .i64 (IntKind.wrap .i64 ((intD x) + (intD y)))), .lit (.bool (addOK (intD x) (intD y)))]))))
def e106 : FuncId × TypeId × (List AV → Bool) × (List AV → Option D) := (106, 107, yes, ent [3, 3] (f2 (fun x y => some (.agg [.lit (.int .i64 (IntKind.wrap .i64 ((intD x) - (intD y)))), .lit (.bool (subOK (intD x) (intD y)))]))))
def e107 : FuncId × TypeId × (List AV → Bool) × (List AV → Option D) := (107, 107, yes, ent [3, 3] (f2 (fun x y => some (.agg [.lit (.int .i64 (IntKind.wrap .i64 ((intD x) * (intD y)))), .lit (.bool (mulOK (intD x) (intD y)))]))))
def e108 : FuncId × TypeId × (List AV → Bool) × (List AV → Option D) := (108, 107, yes, ent [3, 3] (f2 (fun x y => some (.agg [.lit (.int .i64 (divV (intD x) (intD y))), .lit (.bool (divOK (intD x) (intD y)))]))))
def e75 : FuncId × TypeId × (List AV → Bool) × (List AV → Option D) := (75, 4, yes, ent [34] (f1 (fun x => some (.lit (.bool (isNum x))))))
def T1 : Tab := e63 :: e54 :: e60 :: e74 :: e110 :: e83 :: e76 :: e106 :: e107 :: e108 :: e75 :: T0
def e79 : FuncId × TypeId × (List AV → Bool) × (List AV → Option D) := (79, 34, yes, ent [34] (f1 (fun x => some (readD x))))
def e111 : FuncId × TypeId × (List AV → Bool) × (List AV → Option D) := (111, 4, yes, ent [34] (f1 (fun x => some (.lit (.bool (isFal x))))))
def T2 : Tab := e79 :: e111 :: T1
def e73 : FuncId × TypeId × (List AV → Bool) × (List AV → Option D) := (73, 4, yes, ent [34] (f1 (fun x => some (.lit (.bool (isErr x))))))
def e112 : FuncId × TypeId × (List AV → Bool) × (List AV → Option D) := (112, 4, yes, ent [34] (f1 (fun x => some (.lit (.bool (isNul x))))))
def e65 : FuncId × TypeId × (List AV → Bool) × (List AV → Option D) := (65, 4, yes, ent [34, 34] (f2 (fun x y => some (.lit (.bool (lessB x y))))))
def T3 : Tab := e73 :: e112 :: e65 :: T2
def e72 : FuncId × TypeId × (List AV → Bool) × (List AV → Option D) := (72, 4, yes, ent [32, 88] (f2 fun x y => match fnD y with | some 111 => some (.lit (.bool ((elemsD x).any isFal))) | some 83 => some (.lit (.bool ((elemsD x).any isTru))) | some 73 => some (.lit (.bool ((elemsD x).any isErr))) | some 75 => some (.lit (.bool ((elemsD x).any isNum))) | some 112 => some (.lit (.bool ((elemsD x).any isNul))) | _ => none))
def T4 : Tab := e72 :: T3
def e109 : FuncId × TypeId × (List AV → Bool) × (List AV → Option D) := (109, 34, yes, ent [3, 32] (f2 (fun x y => some (ifNum (intD x) (elemsD y)))))
def e61 : FuncId × TypeId × (List AV → Bool) × (List AV → Option D) := (61, 34, yes, ent [32] (f1 (fun x => some (sumD (elemsD x)))))
def T5 : Tab := e109 :: e61 :: T4
def e105 : FuncId × TypeId × (List AV → Bool) × (List AV → Option D) := (105, 34, yes, ent [108, 34, 34] (f3 fun x y z => match fnD x with | some 76 => some (addD y z) | some 106 => some (subD y z) | some 107 => some (mulD y z) | some 108 => some (divD y z) | _ => none))
def e98 : FuncId × TypeId × (List AV → Bool) × (List AV → Option D) := (98, 34, yes, ent [34, 34] (f2 (fun x y => some (eqV x y))))
def e99 : FuncId × TypeId × (List AV → Bool) × (List AV → Option D) := (99, 34, yes, ent [34, 34] (f2 (fun x y => some (ltV x y))))
def e100 : FuncId × TypeId × (List AV → Bool) × (List AV → Option D) := (100, 34, yes, ent [32] (f1 (fun x => some (andD (elemsD x)))))
def e101 : FuncId × TypeId × (List AV → Bool) × (List AV → Option D) := (101, 34, yes, ent [32] (f1 (fun x => some (orD (elemsD x)))))
def e102 : FuncId × TypeId × (List AV → Bool) × (List AV → Option D) := (102, 34, yes, ent [34] (f1 (fun x => some (notD x))))
def T6 : Tab := e105 :: e98 :: e99 :: e100 :: e101 :: e102 :: T5
def e94 : FuncId × TypeId × (List AV → Bool) × (List AV → Option D) := (94, 34, yes, ent [34, 34] (f2 (fun x y => some (addD x y))))
def e95 : FuncId × TypeId × (List AV → Bool) × (List AV → Option D) := (95, 34, yes, ent [34, 34] (f2 (fun x y => some (subD x y))))
def e96 : FuncId × TypeId × (List AV → Bool) × (List AV → Option D) := (96, 34, yes, ent [34, 34] (f2 (fun x y => some (mulD x y))))
def e97 : FuncId × TypeId × (List AV → Bool) × (List AV → Option D) := (97, 34, yes, ent [34, 34] (f2 (fun x y => some (divD x y))))
def T7 : Tab := e94 :: e95 :: e96 :: e97 :: T6
def T8 : Tab := T7
/- roadbook/val.May -/
def t63_h : Hints := fun _ =>  none
theorem t63 (N : Nat) (x0 : D) : evFn Try.prog (envOf T0) t63_h N Try.f63 [dat 34 x0] =
  bif (((intD (fieldD x0 0)) == 0) == false) then
    bif (((intD (fieldD x0 0)) == 1) == false) then
      bif (((intD (fieldD x0 0)) == 2) == true) then
        some (dat 4 (.lit (.bool ((intD (fieldD x0 1)) == 0))))
      else some (dat 4 (.lit (.bool false)))
    else some (dat 4 (.lit (.bool ((intD (fieldD x0 1)) == 0))))
  else some (dat 4 (.lit (.bool true))) := by kernel_rfl

/- roadbook/roadbookref01.May -/
def t54_h : Hints := fun _ =>  none
theorem t54 (N : Nat) (x0 : D) : evFn Try.prog (envOf T0) t54_h N Try.f54 [dat 34 x0] =
  bif (((intD (fieldD x0 0)) == 0) == false) then
    bif (((intD (fieldD x0 0)) == 1) == false) then
      bif (((intD (fieldD x0 0)) == 2) == true) then
        some (dat 4 (.lit (.bool ((intD (fieldD x0 1)) == 0))))
      else some (dat 4 (.lit (.bool false)))
    else some (dat 4 (.lit (.bool ((intD (fieldD x0 1)) == 0))))
  else some (dat 4 (.lit (.bool true))) := by kernel_rfl

/- roadbook/val.Of -/
def t60_h : Hints := fun _ =>  none
theorem t60 (N : Nat) (x0 : Int) : evFn Try.prog (envOf T0) t60_h N Try.f60 [dat 3 (.lit (.int .i64 x0))] =
  some (dat 34 (.agg [.lit (.int .i64 0), .lit (.int .i64 x0)])) := by kernel_rfl

/- roadbook/val.fault -/
def t74_h : Hints := fun _ =>  none
theorem t74 (N : Nat)  : evFn Try.prog (envOf T0) t74_h N Try.f74 [] =
  some (dat 34 (.agg [.lit (.int .i64 2), .lit (.int .i64 0)])) := by kernel_rfl

/- roadbook/val.truth -/
def t110_h : Hints := fun _ =>  none
theorem t110 (N : Nat) (x0 : Bool) : evFn Try.prog (envOf T0) t110_h N Try.f110 [dat 4 (.lit (.bool x0))] =
  bif x0 then
    some (dat 3 (.lit (.int .i64 1)))
  else some (dat 3 (.lit (.int .i64 0))) := by kernel_rfl

/- roadbook/val.True -/
def t83_h : Hints := fun _ =>  none
theorem t83 (N : Nat) (x0 : D) : evFn Try.prog (envOf T0) t83_h N Try.f83 [dat 34 x0] =
  bif (((intD (fieldD x0 0)) == 0) == true) then
    some (dat 4 (.lit (.bool ((intD (fieldD x0 1)) != 0))))
  else some (dat 4 (.lit (.bool false))) := by kernel_rfl

/- roadbook/val.plus -/
def t76_h : Hints := fun _ =>  none
theorem t76 (N : Nat) (x0 : Int) (x1 : Int) : evFn Try.prog (envOf T0) t76_h N Try.f76 [dat 3 (.lit (.int .i64 x0)), dat 3 (.lit (.int .i64 x1))] =
  some (tupA [3, 4] (.agg [.lit (.int .i64 (IntKind.wrap .i64 (x0 + x1))), .lit (.bool ((decide ((IntKind.wrap .i64 (x0 + x1)) < x0)) == (decide (x1 < 0))))])) := by kernel_rfl

/- roadbook/val.minus -/
def t106_h : Hints := fun _ =>  none
theorem t106 (N : Nat) (x0 : Int) (x1 : Int) : evFn Try.prog (envOf T0) t106_h N Try.f106 [dat 3 (.lit (.int .i64 x0)), dat 3 (.lit (.int .i64 x1))] =
  some (tupA [3, 4] (.agg [.lit (.int .i64 (IntKind.wrap .i64 (x0 - x1))), .lit (.bool ((decide ((IntKind.wrap .i64 (x0 - x1)) > x0)) == (decide (x1 < 0))))])) := by kernel_rfl

/- roadbook/val.times -/
def t107_h : Hints := fun _ =>  none
theorem t107 (N : Nat) (x0 : Int) (x1 : Int) : evFn Try.prog (envOf T0) t107_h N Try.f107 [dat 3 (.lit (.int .i64 x0)), dat 3 (.lit (.int .i64 x1))] =
  bif (x0 == 0) then
    some (tupA [3, 4] (.agg [.lit (.int .i64 (IntKind.wrap .i64 (x0 * x1))), .lit (.bool true)]))
  else bif (x0 == (-1)) then
      some (tupA [3, 4] (.agg [.lit (.int .i64 (IntKind.wrap .i64 (x0 * x1))), .lit (.bool (x1 != (-9223372036854775808)))]))
    else bif (!(x0 == 0)) then
        some (tupA [3, 4] (.agg [.lit (.int .i64 (IntKind.wrap .i64 (x0 * x1))), .lit (.bool ((IntKind.wrap .i64 (Int.tdiv (IntKind.wrap .i64 (x0 * x1)) x0)) == x1))]))
      else none := by kernel_rfl

/- roadbook/val.over -/
def t108_h : Hints := fun _ =>  none
theorem t108 (N : Nat) (x0 : Int) (x1 : Int) : evFn Try.prog (envOf T0) t108_h N Try.f108 [dat 3 (.lit (.int .i64 x0)), dat 3 (.lit (.int .i64 x1))] =
  bif ((x1 == 0) == false) then
    bif ((x0 == (-9223372036854775808)) == true) then
      bif (x1 == (-1)) then
        some (tupA [3, 4] (.agg [.lit (.int .i64 0), .lit (.bool false)]))
      else bif (!(x1 == 0)) then
          some (tupA [3, 4] (.agg [.lit (.int .i64 (IntKind.wrap .i64 (Int.tdiv x0 x1))), .lit (.bool true)]))
        else none
    else bif (!(x1 == 0)) then
        some (tupA [3, 4] (.agg [.lit (.int .i64 (IntKind.wrap .i64 (Int.tdiv x0 x1))), .lit (.bool true)]))
      else none
  else some (tupA [3, 4] (.agg [.lit (.int .i64 0), .lit (.bool false)])) := by kernel_rfl

/- roadbook/val.isNumber -/
def t75_h : Hints := fun _ =>  none
theorem t75 (N : Nat) (x0 : D) : evFn Try.prog (envOf T0) t75_h N Try.f75 [dat 34 x0] =
  some (dat 4 (.lit (.bool ((intD (fieldD x0 0)) == 0)))) := by kernel_rfl

/- roadbook/val.read -/
def t79_h : Hints := fun _ =>  none
theorem t79 (N : Nat) (x0 : D) : evFn Try.prog (envOf T1) t79_h N Try.f79 [dat 34 x0] =
  bif mayB x0 then
    some (dat 34 x0)
  else some (dat 34 (.agg [.lit (.int .i64 2), .lit (.int .i64 0)])) := by kernel_rfl

/- roadbook/val.isFalse -/
def t111_h : Hints := fun _ =>  none
theorem t111 (N : Nat) (x0 : D) : evFn Try.prog (envOf T1) t111_h N Try.f111 [dat 34 x0] =
  some (dat 4 (.lit (.bool (((intD (fieldD x0 0)) == 0) && (((intD (fieldD x0 1)) == 0) && true))))) := by kernel_rfl

/- roadbook/val.isError -/
def t73_h : Hints := fun _ =>  none
theorem t73 (N : Nat) (x0 : D) : evFn Try.prog (envOf T2) t73_h N Try.f73 [dat 34 x0] =
  some (dat 4 (.lit (.bool ((intD (fieldD (readD x0) 0)) == 2)))) := by kernel_rfl

/- roadbook/val.isNothing -/
def t112_h : Hints := fun _ =>  none
theorem t112 (N : Nat) (x0 : D) : evFn Try.prog (envOf T2) t112_h N Try.f112 [dat 34 x0] =
  some (dat 4 (.lit (.bool ((intD (fieldD (readD x0) 0)) == 1)))) := by kernel_rfl

/- roadbook/val.Less -/
def t65_h : Hints := fun _ =>  none
theorem t65 (N : Nat) (x0 : D) (x1 : D) : evFn Try.prog (envOf T2) t65_h N Try.f65 [dat 34 x0, dat 34 x1] =
  bif ((decide ((intD (fieldD (readD x0) 0)) < (intD (fieldD (readD x1) 0)))) == false) then
    bif (((intD (fieldD (readD x0) 0)) == (intD (fieldD (readD x1) 0))) == true) then
      some (dat 4 (.lit (.bool (decide ((intD (fieldD (readD x0) 1)) < (intD (fieldD (readD x1) 1)))))))
    else some (dat 4 (.lit (.bool false)))
  else some (dat 4 (.lit (.bool true))) := by kernel_rfl

/- roadbook/val.some[roadbook/api.Val] -/
def t72_111_h : Hints := fun i => if i = 2 then some ([0, 2, 3, 4, 5, 6, 10, 11, 12, 13, 14, 15, 16], [], []) else none
def t72_111_lp2 (P : Program) (fn : Func) (N n : Nat) (x0 : D) (v9 : Int) : Option AV := evLoop (preL t72_111_h (sub [1, 0, 1, 0, 0] (bodyOf fn))) (evCode P (envOf T3) t72_111_h N (sub [1, 0, 1, 0, 0] (bodyOf fn))) n ⟨[dead, dat 88 (.held (.func (.func 111) #[] #[])), dead, dead, dead, dead, dead, dat 32 x0, dat 3 (.lit (.int .i64 ((elemsD x0).length : Int))), dat 3 (.lit (.int .i64 v9)), dead, dead, dead, dead, dead, dead, dead], lookB []⟩ (blockK 0 (seqC P (envOf T3) t72_111_h N (sub [1, 1] (bodyOf fn)) (finK P fn) ))
theorem t72_111_lp2_step (N n : Nat) (x0 : D) (v9 : Int) : t72_111_lp2 Try.prog Try.f72 N (n + 1) x0 v9 =
  bif decide (v9 < ((elemsD x0).length : Int)) then
    bif (decide (0 ≤ v9) && decide (v9 < ((elemsD x0).length : Int))) then
      bif isFal ((elemsD x0).getD (v9).toNat .nil) then
        some (dat 4 (.lit (.bool true)))
      else t72_111_lp2 Try.prog Try.f72 N n x0 (IntKind.wrap .i64 (v9 + 1))
    else none
  else some (dat 4 (.lit (.bool false))) := by kernel_rfl
theorem t72_111 (N : Nat) (x0 : D) : evFn Try.prog (envOf T3) t72_111_h N Try.f72 [dat 32 x0, dat 88 (.held (.func (.func 111) #[] #[]))] =
  t72_111_lp2 Try.prog Try.f72 N N x0 0 := by kernel_rfl

/- roadbook/val.some[roadbook/api.Val] -/
def t72_83_h : Hints := fun i => if i = 2 then some ([0, 2, 3, 4, 5, 6, 10, 11, 12, 13, 14, 15, 16], [], []) else none
def t72_83_lp2 (P : Program) (fn : Func) (N n : Nat) (x0 : D) (v9 : Int) : Option AV := evLoop (preL t72_83_h (sub [1, 0, 1, 0, 0] (bodyOf fn))) (evCode P (envOf T3) t72_83_h N (sub [1, 0, 1, 0, 0] (bodyOf fn))) n ⟨[dead, dat 88 (.held (.func (.func 83) #[] #[])), dead, dead, dead, dead, dead, dat 32 x0, dat 3 (.lit (.int .i64 ((elemsD x0).length : Int))), dat 3 (.lit (.int .i64 v9)), dead, dead, dead, dead, dead, dead, dead], lookB []⟩ (blockK 0 (seqC P (envOf T3) t72_83_h N (sub [1, 1] (bodyOf fn)) (finK P fn) ))
theorem t72_83_lp2_step (N n : Nat) (x0 : D) (v9 : Int) : t72_83_lp2 Try.prog Try.f72 N (n + 1) x0 v9 =
  bif decide (v9 < ((elemsD x0).length : Int)) then
    bif (decide (0 ≤ v9) && decide (v9 < ((elemsD x0).length : Int))) then
      bif isTru ((elemsD x0).getD (v9).toNat .nil) then
        some (dat 4 (.lit (.bool true)))
      else t72_83_lp2 Try.prog Try.f72 N n x0 (IntKind.wrap .i64 (v9 + 1))
    else none
  else some (dat 4 (.lit (.bool false))) := by kernel_rfl
theorem t72_83 (N : Nat) (x0 : D) : evFn Try.prog (envOf T3) t72_83_h N Try.f72 [dat 32 x0, dat 88 (.held (.func (.func 83) #[] #[]))] =
  t72_83_lp2 Try.prog Try.f72 N N x0 0 := by kernel_rfl

/- roadbook/val.some[roadbook/api.Val] -/
def t72_73_h : Hints := fun i => if i = 2 then some ([0, 2, 3, 4, 5, 6, 10, 11, 12, 13, 14, 15, 16], [], []) else none
def t72_73_lp2 (P : Program) (fn : Func) (N n : Nat) (x0 : D) (v9 : Int) : Option AV := evLoop (preL t72_73_h (sub [1, 0, 1, 0, 0] (bodyOf fn))) (evCode P (envOf T3) t72_73_h N (sub [1, 0, 1, 0, 0] (bodyOf fn))) n ⟨[dead, dat 88 (.held (.func (.func 73) #[] #[])), dead, dead, dead, dead, dead, dat 32 x0, dat 3 (.lit (.int .i64 ((elemsD x0).length : Int))), dat 3 (.lit (.int .i64 v9)), dead, dead, dead, dead, dead, dead, dead], lookB []⟩ (blockK 0 (seqC P (envOf T3) t72_73_h N (sub [1, 1] (bodyOf fn)) (finK P fn) ))
theorem t72_73_lp2_step (N n : Nat) (x0 : D) (v9 : Int) : t72_73_lp2 Try.prog Try.f72 N (n + 1) x0 v9 =
  bif decide (v9 < ((elemsD x0).length : Int)) then
    bif (decide (0 ≤ v9) && decide (v9 < ((elemsD x0).length : Int))) then
      bif isErr ((elemsD x0).getD (v9).toNat .nil) then
        some (dat 4 (.lit (.bool true)))
      else t72_73_lp2 Try.prog Try.f72 N n x0 (IntKind.wrap .i64 (v9 + 1))
    else none
  else some (dat 4 (.lit (.bool false))) := by kernel_rfl
theorem t72_73 (N : Nat) (x0 : D) : evFn Try.prog (envOf T3) t72_73_h N Try.f72 [dat 32 x0, dat 88 (.held (.func (.func 73) #[] #[]))] =
  t72_73_lp2 Try.prog Try.f72 N N x0 0 := by kernel_rfl

/- roadbook/val.some[roadbook/api.Val] -/
def t72_75_h : Hints := fun i => if i = 2 then some ([0, 2, 3, 4, 5, 6, 10, 11, 12, 13, 14, 15, 16], [], []) else none
def t72_75_lp2 (P : Program) (fn : Func) (N n : Nat) (x0 : D) (v9 : Int) : Option AV := evLoop (preL t72_75_h (sub [1, 0, 1, 0, 0] (bodyOf fn))) (evCode P (envOf T3) t72_75_h N (sub [1, 0, 1, 0, 0] (bodyOf fn))) n ⟨[dead, dat 88 (.held (.func (.func 75) #[] #[])), dead, dead, dead, dead, dead, dat 32 x0, dat 3 (.lit (.int .i64 ((elemsD x0).length : Int))), dat 3 (.lit (.int .i64 v9)), dead, dead, dead, dead, dead, dead, dead], lookB []⟩ (blockK 0 (seqC P (envOf T3) t72_75_h N (sub [1, 1] (bodyOf fn)) (finK P fn) ))
theorem t72_75_lp2_step (N n : Nat) (x0 : D) (v9 : Int) : t72_75_lp2 Try.prog Try.f72 N (n + 1) x0 v9 =
  bif decide (v9 < ((elemsD x0).length : Int)) then
    bif (decide (0 ≤ v9) && decide (v9 < ((elemsD x0).length : Int))) then
      bif isNum ((elemsD x0).getD (v9).toNat .nil) then
        some (dat 4 (.lit (.bool true)))
      else t72_75_lp2 Try.prog Try.f72 N n x0 (IntKind.wrap .i64 (v9 + 1))
    else none
  else some (dat 4 (.lit (.bool false))) := by kernel_rfl
theorem t72_75 (N : Nat) (x0 : D) : evFn Try.prog (envOf T3) t72_75_h N Try.f72 [dat 32 x0, dat 88 (.held (.func (.func 75) #[] #[]))] =
  t72_75_lp2 Try.prog Try.f72 N N x0 0 := by kernel_rfl

/- roadbook/val.some[roadbook/api.Val] -/
def t72_112_h : Hints := fun i => if i = 2 then some ([0, 2, 3, 4, 5, 6, 10, 11, 12, 13, 14, 15, 16], [], []) else none
def t72_112_lp2 (P : Program) (fn : Func) (N n : Nat) (x0 : D) (v9 : Int) : Option AV := evLoop (preL t72_112_h (sub [1, 0, 1, 0, 0] (bodyOf fn))) (evCode P (envOf T3) t72_112_h N (sub [1, 0, 1, 0, 0] (bodyOf fn))) n ⟨[dead, dat 88 (.held (.func (.func 112) #[] #[])), dead, dead, dead, dead, dead, dat 32 x0, dat 3 (.lit (.int .i64 ((elemsD x0).length : Int))), dat 3 (.lit (.int .i64 v9)), dead, dead, dead, dead, dead, dead, dead], lookB []⟩ (blockK 0 (seqC P (envOf T3) t72_112_h N (sub [1, 1] (bodyOf fn)) (finK P fn) ))
theorem t72_112_lp2_step (N n : Nat) (x0 : D) (v9 : Int) : t72_112_lp2 Try.prog Try.f72 N (n + 1) x0 v9 =
  bif decide (v9 < ((elemsD x0).length : Int)) then
    bif (decide (0 ≤ v9) && decide (v9 < ((elemsD x0).length : Int))) then
      bif isNul ((elemsD x0).getD (v9).toNat .nil) then
        some (dat 4 (.lit (.bool true)))
      else t72_112_lp2 Try.prog Try.f72 N n x0 (IntKind.wrap .i64 (v9 + 1))
    else none
  else some (dat 4 (.lit (.bool false))) := by kernel_rfl
theorem t72_112 (N : Nat) (x0 : D) : evFn Try.prog (envOf T3) t72_112_h N Try.f72 [dat 32 x0, dat 88 (.held (.func (.func 112) #[] #[]))] =
  t72_112_lp2 Try.prog Try.f72 N N x0 0 := by kernel_rfl

/- roadbook/val.ifNumbers -/
def t109_h : Hints := fun _ =>  none
theorem t109 (N : Nat) (x0 : Int) (x1 : D) : evFn Try.prog (envOf T4) t109_h N Try.f109 [dat 3 (.lit (.int .i64 x0)), dat 32 x1] =
  bif (elemsD x1).any isErr then
    some (dat 34 (.agg [.lit (.int .i64 2), .lit (.int .i64 0)]))
  else bif (elemsD x1).any isNul then
      some (dat 34 (.agg [.lit (.int .i64 1), .lit (.int .i64 0)]))
    else some (dat 34 (.agg [.lit (.int .i64 0), .lit (.int .i64 x0)])) := by kernel_rfl

/- roadbook/val.Sum -/
def t61_h : Hints := fun i => if i = 7 then some ([0, 1, 5, 6, 7, 8, 9, 10, 11, 12, 13, 14, 15, 19, 20, 21, 22, 23, 24, 25, 26, 27, 28, 29, 30, 31, 32, 33, 34, 35, 36, 37, 38, 39, 40, 41, 42, 43, 44, 45, 46, 47, 48], [2], []) else none
def t61_lp7 (P : Program) (fn : Func) (N n : Nat) (x0 : D) (v3 : Int) (v4 : Int) (v18 : Int) : Option AV := evLoop (preL t61_h (sub [1, 1, 1, 1, 0, 1, 0, 0] (bodyOf fn))) (evCode P (envOf T4) t61_h N (sub [1, 1, 1, 1, 0, 1, 0, 0] (bodyOf fn))) n ⟨[dead, dead, bxp 2 34, dat 3 (.lit (.int .i64 v3)), dat 3 (.lit (.int .i64 v4)), dead, dead, dead, dead, dead, dead, dead, dead, dead, dead, dead, dat 32 x0, dat 3 (.lit (.int .i64 ((elemsD x0).length : Int))), dat 3 (.lit (.int .i64 v18)), dead, dead, dead, dead, dead, dead, dead, dead, dead, dead, dead, dead, dead, dead, dead, dead, dead, dead, dead, dead, dead, dead, dead, dead, dead, dead, dead, dead, dead, dead], lookB [(2, some ⟨34, .agg [.lit (.int .i64 0), .lit (.int .i64 0)], 0, none⟩)]⟩ (blockK 0 (seqC P (envOf T4) t61_h N (sub [1, 1, 1, 1, 1] (bodyOf fn)) (finK P fn) ))
theorem t61_lp7_step (N n : Nat) (x0 : D) (v3 : Int) (v4 : Int) (v18 : Int) : t61_lp7 Try.prog Try.f61 N (n + 1) x0 v3 v4 v18 =
  bif decide (v18 < ((elemsD x0).length : Int)) then
    bif (decide (0 ≤ v18) && decide (v18 < ((elemsD x0).length : Int))) then
      bif ((!(addOK v3 (intD (fieldD ((elemsD x0).getD (v18).toNat .nil) 1)))) == true) then
        bif decide ((intD (fieldD ((elemsD x0).getD (v18).toNat .nil) 1)) > 0) then
          t61_lp7 Try.prog Try.f61 N n x0 (IntKind.wrap .i64 (v3 + (intD (fieldD ((elemsD x0).getD (v18).toNat .nil) 1)))) (IntKind.wrap .i64 (v4 + 1)) (IntKind.wrap .i64 (v18 + 1))
        else bif (!(addOK v3 (intD (fieldD ((elemsD x0).getD (v18).toNat .nil) 1)))) then
            t61_lp7 Try.prog Try.f61 N n x0 (IntKind.wrap .i64 (v3 + (intD (fieldD ((elemsD x0).getD (v18).toNat .nil) 1)))) (IntKind.wrap .i64 (v4 - 1)) (IntKind.wrap .i64 (v18 + 1))
          else t61_lp7 Try.prog Try.f61 N n x0 (IntKind.wrap .i64 (v3 + (intD (fieldD ((elemsD x0).getD (v18).toNat .nil) 1)))) v4 (IntKind.wrap .i64 (v18 + 1))
      else bif (!(addOK v3 (intD (fieldD ((elemsD x0).getD (v18).toNat .nil) 1)))) then
          t61_lp7 Try.prog Try.f61 N n x0 (IntKind.wrap .i64 (v3 + (intD (fieldD ((elemsD x0).getD (v18).toNat .nil) 1)))) (IntKind.wrap .i64 (v4 - 1)) (IntKind.wrap .i64 (v18 + 1))
        else t61_lp7 Try.prog Try.f61 N n x0 (IntKind.wrap .i64 (v3 + (intD (fieldD ((elemsD x0).getD (v18).toNat .nil) 1)))) v4 (IntKind.wrap .i64 (v18 + 1))
    else none
  else bif (v4 != 0) then
      some (dat 34 (.agg [.lit (.int .i64 2), .lit (.int .i64 0)]))
    else some (dat 34 (.agg [.lit (.int .i64 0), .lit (.int .i64 v3)])) := by kernel_rfl
theorem t61 (N : Nat) (x0 : D) : evFn Try.prog (envOf T4) t61_h N Try.f61 [dat 32 x0] =
  bif (elemsD x0).any isErr then
    some (dat 34 (.agg [.lit (.int .i64 2), .lit (.int .i64 0)]))
  else bif (!((elemsD x0).any isNum)) then
      some (dat 34 (.agg [.lit (.int .i64 1), .lit (.int .i64 0)]))
    else t61_lp7 Try.prog Try.f61 N N x0 0 0 0 := by kernel_rfl

/- roadbook/val.reckon -/
def t105_76_h : Hints := fun _ =>  none
theorem t105_76 (N : Nat) (x1 : D) (x2 : D) : evFn Try.prog (envOf T5) t105_76_h N Try.f105 [dat 108 (.held (.func (.func 76) #[] #[])), dat 34 x1, dat 34 x2] =
  bif (!(isNum (ifNum 0 [x1, x2]))) then
    some (dat 34 (ifNum 0 [x1, x2]))
  else bif (!(addOK (intD (fieldD x1 1)) (intD (fieldD x2 1)))) then
      some (dat 34 (.agg [.lit (.int .i64 2), .lit (.int .i64 0)]))
    else some (dat 34 (.agg [.lit (.int .i64 0), .lit (.int .i64 (IntKind.wrap .i64 ((intD (fieldD x1 1)) + (intD (fieldD x2 1)))))])) := by kernel_rfl

/- roadbook/val.reckon -/
def t105_106_h : Hints := fun _ =>  none
theorem t105_106 (N : Nat) (x1 : D) (x2 : D) : evFn Try.prog (envOf T5) t105_106_h N Try.f105 [dat 108 (.held (.func (.func 106) #[] #[])), dat 34 x1, dat 34 x2] =
  bif (!(isNum (ifNum 0 [x1, x2]))) then
    some (dat 34 (ifNum 0 [x1, x2]))
  else bif (!(subOK (intD (fieldD x1 1)) (intD (fieldD x2 1)))) then
      some (dat 34 (.agg [.lit (.int .i64 2), .lit (.int .i64 0)]))
    else some (dat 34 (.agg [.lit (.int .i64 0), .lit (.int .i64 (IntKind.wrap .i64 ((intD (fieldD x1 1)) - (intD (fieldD x2 1)))))])) := by kernel_rfl

/- roadbook/val.reckon -/
def t105_107_h : Hints := fun _ =>  none
theorem t105_107 (N : Nat) (x1 : D) (x2 : D) : evFn Try.prog (envOf T5) t105_107_h N Try.f105 [dat 108 (.held (.func (.func 107) #[] #[])), dat 34 x1, dat 34 x2] =
  bif (!(isNum (ifNum 0 [x1, x2]))) then
    some (dat 34 (ifNum 0 [x1, x2]))
  else bif (!(mulOK (intD (fieldD x1 1)) (intD (fieldD x2 1)))) then
      some (dat 34 (.agg [.lit (.int .i64 2), .lit (.int .i64 0)]))
    else some (dat 34 (.agg [.lit (.int .i64 0), .lit (.int .i64 (IntKind.wrap .i64 ((intD (fieldD x1 1)) * (intD (fieldD x2 1)))))])) := by kernel_rfl

/- roadbook/val.reckon -/
def t105_108_h : Hints := fun _ =>  none
theorem t105_108 (N : Nat) (x1 : D) (x2 : D) : evFn Try.prog (envOf T5) t105_108_h N Try.f105 [dat 108 (.held (.func (.func 108) #[] #[])), dat 34 x1, dat 34 x2] =
  bif (!(isNum (ifNum 0 [x1, x2]))) then
    some (dat 34 (ifNum 0 [x1, x2]))
  else bif (!(divOK (intD (fieldD x1 1)) (intD (fieldD x2 1)))) then
      some (dat 34 (.agg [.lit (.int .i64 2), .lit (.int .i64 0)]))
    else some (dat 34 (.agg [.lit (.int .i64 0), .lit (.int .i64 (divV (intD (fieldD x1 1)) (intD (fieldD x2 1))))])) := by kernel_rfl

/- roadbook/val.Eq -/
def t98_h : Hints := fun _ =>  none
theorem t98 (N : Nat) (x0 : D) (x1 : D) : evFn Try.prog (envOf T5) t98_h N Try.f98 [dat 34 x0, dat 34 x1] =
  some (dat 34 (ifNum (truthI ((intD (fieldD x0 1)) == (intD (fieldD x1 1)))) [x0, x1])) := by kernel_rfl

/- roadbook/val.Lt -/
def t99_h : Hints := fun _ =>  none
theorem t99 (N : Nat) (x0 : D) (x1 : D) : evFn Try.prog (envOf T5) t99_h N Try.f99 [dat 34 x0, dat 34 x1] =
  some (dat 34 (ifNum (truthI (decide ((intD (fieldD x0 1)) < (intD (fieldD x1 1))))) [x0, x1])) := by kernel_rfl

/- roadbook/val.And -/
def t100_h : Hints := fun _ =>  none
theorem t100 (N : Nat) (x0 : D) : evFn Try.prog (envOf T5) t100_h N Try.f100 [dat 32 x0] =
  bif (elemsD x0).any isFal then
    some (dat 34 (.agg [.lit (.int .i64 0), .lit (.int .i64 0)]))
  else some (dat 34 (ifNum 1 (elemsD x0))) := by kernel_rfl

/- roadbook/val.Or -/
def t101_h : Hints := fun _ =>  none
theorem t101 (N : Nat) (x0 : D) : evFn Try.prog (envOf T5) t101_h N Try.f101 [dat 32 x0] =
  bif (elemsD x0).any isTru then
    some (dat 34 (.agg [.lit (.int .i64 0), .lit (.int .i64 1)]))
  else some (dat 34 (ifNum 0 (elemsD x0))) := by kernel_rfl

/- roadbook/val.Not -/
def t102_h : Hints := fun _ =>  none
theorem t102 (N : Nat) (x0 : D) : evFn Try.prog (envOf T5) t102_h N Try.f102 [dat 34 x0] =
  some (dat 34 (ifNum (truthI (isFal x0)) [x0])) := by kernel_rfl

/- roadbook/val.Add -/
def t94_h : Hints := fun _ =>  none
theorem t94 (N : Nat) (x0 : D) (x1 : D) : evFn Try.prog (envOf T6) t94_h N Try.f94 [dat 34 x0, dat 34 x1] =
  some (dat 34 (addD x0 x1)) := by kernel_rfl

/- roadbook/val.Sub -/
def t95_h : Hints := fun _ =>  none
theorem t95 (N : Nat) (x0 : D) (x1 : D) : evFn Try.prog (envOf T6) t95_h N Try.f95 [dat 34 x0, dat 34 x1] =
  some (dat 34 (subD x0 x1)) := by kernel_rfl

/- roadbook/val.Mul -/
def t96_h : Hints := fun _ =>  none
theorem t96 (N : Nat) (x0 : D) (x1 : D) : evFn Try.prog (envOf T6) t96_h N Try.f96 [dat 34 x0, dat 34 x1] =
  some (dat 34 (mulD x0 x1)) := by kernel_rfl

/- roadbook/val.Div -/
def t97_h : Hints := fun _ =>  none
theorem t97 (N : Nat) (x0 : D) (x1 : D) : evFn Try.prog (envOf T6) t97_h N Try.f97 [dat 34 x0, dat 34 x1] =
  some (dat 34 (divD x0 x1)) := by kernel_rfl

end Go.Proofs.Ytmopepjahjmdeaa
