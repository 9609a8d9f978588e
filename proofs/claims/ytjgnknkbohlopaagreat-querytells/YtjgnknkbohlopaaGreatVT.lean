/- What the evaluator comes to, function by function: by the kernel. Nothing here is trusted. -/
import Derived.Test.YtjgnknkbohlopaaGreatV1
import Derived.Test.YtjgnknkbohlopaaGreatRows
namespace Go.Proofs.YtjgnknkbohlopaaGreat
open Go.Ev
set_option linter.unusedVariables false
def T0 : Tab := []
def e66 : FuncId × TypeId × (List AV → Bool) × (List AV → Option D) := (66, 4, yes, ent [33] (f1 (fun x => some (.lit (.bool (mayB x))))))
def e95 : FuncId × TypeId × (List AV → Bool) × (List AV → Option D) := (95, 4, yes, ent [33] (f1 (fun x => some (.lit (.bool (mayB x))))))
def e67 : FuncId × TypeId × (List AV → Bool) × (List AV → Option D) := (67, 33, yes, ent [3] (f1 (fun x => some (.agg [.lit (.int .i64 0), .lit (.int .i64 (intD x))]))))
def e115 : FuncId × TypeId × (List AV → Bool) × (List AV → Option D) := (115, 33, yes, ent [] (f0 (some (.agg [.lit (.int .i64 2), .lit (.int .i64 0)]))))
def e109 : FuncId × TypeId × (List AV → Bool) × (List AV → Option D) := (109, 3, yes, ent [4] (f1 (fun x => some (.lit (.int .i64 (truthI (boolD x)))))))
def e112 : FuncId × TypeId × (List AV → Bool) × (List AV → Option D) := (112, 4, yes, ent [33] (f1 (fun x => some (.lit (.bool (isTru x))))))
def e104 : FuncId × TypeId × (List AV → Bool) × (List AV → Option D) := (104, 97, yes, ent [3, 3] (f2 (fun x y => some (.agg [.lit (.int .i64 (IntKind.wrap .i64 ((intD x) + (intD y)))), .lit (.bool (addOK (intD x) (intD y)))]))))
def e105 : FuncId × TypeId × (List AV → Bool) × (List AV → Option D) := (105, 97, yes, ent [3, 3] (f2 (fun x y => some (.agg [.lit (.int .i64 (IntKind.wrap .i64 ((intD x) - (intD y)))), .lit (.bool (subOK (intD x) (intD y)))]))))
def e106 : FuncId × TypeId × (List AV → Bool) × (List AV → Option D) := (106, 97, yes, ent [3, 3] (f2 (fun x y => some (.agg [.lit (.int .i64 (IntKind.wrap .i64 ((intD x) * (intD y)))), .lit (.bool (mulOK (intD x) (intD y)))]))))
def e107 : FuncId × TypeId × (List AV → Bool) × (List AV → Option D) := (107, 97, yes, ent [3, 3] (f2 (fun x y => some (.agg [.lit (.int .i64 (divV (intD x) (intD y))), .lit (.bool (divOK (intD x) (intD y)))]))))
def e114 : FuncId × TypeId × (List AV → Bool) × (List AV → Option D) := (114, 4, yes, ent [33] (f1 (fun x => some (.lit (.bool (isNum x))))))
def T1 : Tab := e66 :: e95 :: e67 :: e115 :: e109 :: e112 :: e104 :: e105 :: e106 :: e107 :: e114 :: T0
def e118 : FuncId × TypeId × (List AV → Bool) × (List AV → Option D) := (118, 33, yes, ent [33] (f1 (fun x => some (readD x))))
def e111 : FuncId × TypeId × (List AV → Bool) × (List AV → Option D) := (111, 4, yes, ent [33] (f1 (fun x => some (.lit (.bool (isFal x))))))
def T2 : Tab := e118 :: e111 :: T1
def e116 : FuncId × TypeId × (List AV → Bool) × (List AV → Option D) := (116, 4, yes, ent [33] (f1 (fun x => some (.lit (.bool (isErr x))))))
def e117 : FuncId × TypeId × (List AV → Bool) × (List AV → Option D) := (117, 4, yes, ent [33] (f1 (fun x => some (.lit (.bool (isNul x))))))
def T3 : Tab := e116 :: e117 :: T2
def e110 : FuncId × TypeId × (List AV → Bool) × (List AV → Option D) := (110, 4, yes, ent [72, 81] (f2 fun x y => match fnD y with | some 111 => some (.lit (.bool ((elemsD x).any isFal))) | some 112 => some (.lit (.bool ((elemsD x).any isTru))) | some 116 => some (.lit (.bool ((elemsD x).any isErr))) | some 114 => some (.lit (.bool ((elemsD x).any isNum))) | some 117 => some (.lit (.bool ((elemsD x).any isNul))) | _ => none))
def T4 : Tab := e110 :: T3
def e108 : FuncId × TypeId × (List AV → Bool) × (List AV → Option D) := (108, 33, yes, ent [3, 72] (f2 (fun x y => some (ifNum (intD x) (elemsD y)))))
def T5 : Tab := e108 :: T4
def e103 : FuncId × TypeId × (List AV → Bool) × (List AV → Option D) := (103, 33, yes, ent [111, 33, 33] (f3 fun x y z => match fnD x with | some 104 => some (addD y z) | some 105 => some (subD y z) | some 106 => some (mulD y z) | some 107 => some (divD y z) | _ => none))
def e89 : FuncId × TypeId × (List AV → Bool) × (List AV → Option D) := (89, 33, yes, ent [33, 33] (f2 (fun x y => some (eqV x y))))
def e90 : FuncId × TypeId × (List AV → Bool) × (List AV → Option D) := (90, 33, yes, ent [33, 33] (f2 (fun x y => some (ltV x y))))
def e91 : FuncId × TypeId × (List AV → Bool) × (List AV → Option D) := (91, 33, yes, ent [72] (f1 (fun x => some (andD (elemsD x)))))
def e92 : FuncId × TypeId × (List AV → Bool) × (List AV → Option D) := (92, 33, yes, ent [72] (f1 (fun x => some (orD (elemsD x)))))
def e93 : FuncId × TypeId × (List AV → Bool) × (List AV → Option D) := (93, 33, yes, ent [33] (f1 (fun x => some (notD x))))
def T6 : Tab := e103 :: e89 :: e90 :: e91 :: e92 :: e93 :: T5
def e85 : FuncId × TypeId × (List AV → Bool) × (List AV → Option D) := (85, 33, yes, ent [33, 33] (f2 (fun x y => some (addD x y))))
def e86 : FuncId × TypeId × (List AV → Bool) × (List AV → Option D) := (86, 33, yes, ent [33, 33] (f2 (fun x y => some (subD x y))))
def e87 : FuncId × TypeId × (List AV → Bool) × (List AV → Option D) := (87, 33, yes, ent [33, 33] (f2 (fun x y => some (mulD x y))))
def e88 : FuncId × TypeId × (List AV → Bool) × (List AV → Option D) := (88, 33, yes, ent [33, 33] (f2 (fun x y => some (divD x y))))
def T7 : Tab := e85 :: e86 :: e87 :: e88 :: T6
def T8 : Tab := T7
/- roadbook/val.May -/
def t66_h : Hints := fun _ =>  none
theorem t66 (N : Nat) (x0 : D) : evFn Tryz.prog (envOf T0) t66_h N Tryz.f66 [dat 33 x0] =
  bif (((intD (fieldD x0 0)) == 0) == false) then
    bif (((intD (fieldD x0 0)) == 1) == false) then
      bif (((intD (fieldD x0 0)) == 2) == true) then
        some (dat 4 (.lit (.bool ((intD (fieldD x0 1)) == 0))))
      else some (dat 4 (.lit (.bool false)))
    else some (dat 4 (.lit (.bool ((intD (fieldD x0 1)) == 0))))
  else some (dat 4 (.lit (.bool true))) := by kernel_rfl

/- roadbook/roadbookref01.May -/
def t95_h : Hints := fun _ =>  none
theorem t95 (N : Nat) (x0 : D) : evFn Tryz.prog (envOf T0) t95_h N Tryz.f95 [dat 33 x0] =
  bif (((intD (fieldD x0 0)) == 0) == false) then
    bif (((intD (fieldD x0 0)) == 1) == false) then
      bif (((intD (fieldD x0 0)) == 2) == true) then
        some (dat 4 (.lit (.bool ((intD (fieldD x0 1)) == 0))))
      else some (dat 4 (.lit (.bool false)))
    else some (dat 4 (.lit (.bool ((intD (fieldD x0 1)) == 0))))
  else some (dat 4 (.lit (.bool true))) := by kernel_rfl

/- roadbook/val.Of -/
def t67_h : Hints := fun _ =>  none
theorem t67 (N : Nat) (x0 : Int) : evFn Tryz.prog (envOf T0) t67_h N Tryz.f67 [dat 3 (.lit (.int .i64 x0))] =
  some (dat 33 (.agg [.lit (.int .i64 0), .lit (.int .i64 x0)])) := by kernel_rfl

/- roadbook/val.fault -/
def t115_h : Hints := fun _ =>  none
theorem t115 (N : Nat)  : evFn Tryz.prog (envOf T0) t115_h N Tryz.f115 [] =
  some (dat 33 (.agg [.lit (.int .i64 2), .lit (.int .i64 0)])) := by kernel_rfl

/- roadbook/val.truth -/
def t109_h : Hints := fun _ =>  none
theorem t109 (N : Nat) (x0 : Bool) : evFn Tryz.prog (envOf T0) t109_h N Tryz.f109 [dat 4 (.lit (.bool x0))] =
  bif x0 then
    some (dat 3 (.lit (.int .i64 1)))
  else some (dat 3 (.lit (.int .i64 0))) := by kernel_rfl

/- roadbook/val.True -/
def t112_h : Hints := fun _ =>  none
theorem t112 (N : Nat) (x0 : D) : evFn Tryz.prog (envOf T0) t112_h N Tryz.f112 [dat 33 x0] =
  bif (((intD (fieldD x0 0)) == 0) == true) then
    some (dat 4 (.lit (.bool ((intD (fieldD x0 1)) != 0))))
  else some (dat 4 (.lit (.bool false))) := by kernel_rfl

/- roadbook/val.plus -/
def t104_h : Hints := fun _ =>  none
theorem t104 (N : Nat) (x0 : Int) (x1 : Int) : evFn Tryz.prog (envOf T0) t104_h N Tryz.f104 [dat 3 (.lit (.int .i64 x0)), dat 3 (.lit (.int .i64 x1))] =
  some (tupA [3, 4] (.agg [.lit (.int .i64 (IntKind.wrap .i64 (x0 + x1))), .lit (.bool ((decide ((IntKind.wrap .i64 (x0 + x1)) < x0)) == (decide (x1 < 0))))])) := by kernel_rfl

/- roadbook/val.minus -/
def t105_h : Hints := fun _ =>  none
theorem t105 (N : Nat) (x0 : Int) (x1 : Int) : evFn Tryz.prog (envOf T0) t105_h N Tryz.f105 [dat 3 (.lit (.int .i64 x0)), dat 3 (.lit (.int .i64 x1))] =
  some (tupA [3, 4] (.agg [.lit (.int .i64 (IntKind.wrap .i64 (x0 - x1))), .lit (.bool ((decide ((IntKind.wrap .i64 (x0 - x1)) > x0)) == (decide (x1 < 0))))])) := by kernel_rfl

/- roadbook/val.times -/
def t106_h : Hints := fun _ =>  none
theorem t106 (N : Nat) (x0 : Int) (x1 : Int) : evFn Tryz.prog (envOf T0) t106_h N Tryz.f106 [dat 3 (.lit (.int .i64 x0)), dat 3 (.lit (.int .i64 x1))] =
  bif (x0 == 0) then
    some (tupA [3, 4] (.agg [.lit (.int .i64 (IntKind.wrap .i64 (x0 * x1))), .lit (.bool true)]))
  else bif (x0 == (-1)) then
      some (tupA [3, 4] (.agg [.lit (.int .i64 (IntKind.wrap .i64 (x0 * x1))), .lit (.bool (x1 != (-9223372036854775808)))]))
    else bif (!(x0 == 0)) then
        some (tupA [3, 4] (.agg [.lit (.int .i64 (IntKind.wrap .i64 (x0 * x1))), .lit (.bool ((IntKind.wrap .i64 (Int.tdiv (IntKind.wrap .i64 (x0 * x1)) x0)) == x1))]))
      else none := by kernel_rfl

/- roadbook/val.over -/
def t107_h : Hints := fun _ =>  none
theorem t107 (N : Nat) (x0 : Int) (x1 : Int) : evFn Tryz.prog (envOf T0) t107_h N Tryz.f107 [dat 3 (.lit (.int .i64 x0)), dat 3 (.lit (.int .i64 x1))] =
  bif ((x1 == 0) == false) then
    bif ((x0 == (-9223372036854775808)) == true) then
      bif (x1 == (-1)) then
        some (tupA [3, 4] (.agg [.lit (.int .i64 0), .lit (.bool false)]))
      else bif (!(x1 == 0)) then
          some (tupA [3, 4] (.agg [.lit (.int .i64 (IntKind.wrap .i64 (Int.tdiv x0 x1))), .lit (.bool true)]))
        else none
    else bif (!(x1 == 0)) then
        some (tupA [3, 4] (.agg [.lit (.int .i64 (IntKind.wrap .i64 (Int.tdiv x0 x1))), .lit (.bool true)]))
      else none
  else some (tupA [3, 4] (.agg [.lit (.int .i64 0), .lit (.bool false)])) := by kernel_rfl

/- roadbook/val.isNumber -/
def t114_h : Hints := fun _ =>  none
theorem t114 (N : Nat) (x0 : D) : evFn Tryz.prog (envOf T0) t114_h N Tryz.f114 [dat 33 x0] =
  some (dat 4 (.lit (.bool ((intD (fieldD x0 0)) == 0)))) := by kernel_rfl

/- roadbook/val.read -/
def t118_h : Hints := fun _ =>  none
theorem t118 (N : Nat) (x0 : D) : evFn Tryz.prog (envOf T1) t118_h N Tryz.f118 [dat 33 x0] =
  bif mayB x0 then
    some (dat 33 x0)
  else some (dat 33 (.agg [.lit (.int .i64 2), .lit (.int .i64 0)])) := by kernel_rfl

/- roadbook/val.isFalse -/
def t111_h : Hints := fun _ =>  none
theorem t111 (N : Nat) (x0 : D) : evFn Tryz.prog (envOf T1) t111_h N Tryz.f111 [dat 33 x0] =
  some (dat 4 (.lit (.bool (((intD (fieldD x0 0)) == 0) && (((intD (fieldD x0 1)) == 0) && true))))) := by kernel_rfl

/- roadbook/val.isError -/
def t116_h : Hints := fun _ =>  none
theorem t116 (N : Nat) (x0 : D) : evFn Tryz.prog (envOf T2) t116_h N Tryz.f116 [dat 33 x0] =
  some (dat 4 (.lit (.bool ((intD (fieldD (readD x0) 0)) == 2)))) := by kernel_rfl

/- roadbook/val.isNothing -/
def t117_h : Hints := fun _ =>  none
theorem t117 (N : Nat) (x0 : D) : evFn Tryz.prog (envOf T2) t117_h N Tryz.f117 [dat 33 x0] =
  some (dat 4 (.lit (.bool ((intD (fieldD (readD x0) 0)) == 1)))) := by kernel_rfl

/- roadbook/val.some[roadbook/api.Val] -/
def t110_111_h : Hints := fun i => if i = 2 then some ([0, 2, 3, 4, 5, 6, 10, 11, 12, 13, 14, 15, 16], [], []) else none
def t110_111_lp2 (P : Program) (fn : Func) (N n : Nat) (x0 : D) (v9 : Int) : Option AV := evLoop (preL t110_111_h (sub [1, 0, 1, 0, 0] (bodyOf fn))) (evCode P (envOf T3) t110_111_h N (sub [1, 0, 1, 0, 0] (bodyOf fn))) n ⟨[dead, dat 81 (.held (.func (.func 111) #[] #[])), dead, dead, dead, dead, dead, dat 72 x0, dat 3 (.lit (.int .i64 ((elemsD x0).length : Int))), dat 3 (.lit (.int .i64 v9)), dead, dead, dead, dead, dead, dead, dead], lookB []⟩ (blockK 0 (seqC P (envOf T3) t110_111_h N (sub [1, 1] (bodyOf fn)) (finK P fn) ))
theorem t110_111_lp2_step (N n : Nat) (x0 : D) (v9 : Int) : t110_111_lp2 Tryz.prog Tryz.f110 N (n + 1) x0 v9 =
  bif decide (v9 < ((elemsD x0).length : Int)) then
    bif (decide (0 ≤ v9) && decide (v9 < ((elemsD x0).length : Int))) then
      bif isFal ((elemsD x0).getD (v9).toNat .nil) then
        some (dat 4 (.lit (.bool true)))
      else t110_111_lp2 Tryz.prog Tryz.f110 N n x0 (IntKind.wrap .i64 (v9 + 1))
    else none
  else some (dat 4 (.lit (.bool false))) := by kernel_rfl
theorem t110_111 (N : Nat) (x0 : D) : evFn Tryz.prog (envOf T3) t110_111_h N Tryz.f110 [dat 72 x0, dat 81 (.held (.func (.func 111) #[] #[]))] =
  t110_111_lp2 Tryz.prog Tryz.f110 N N x0 0 := by kernel_rfl

/- roadbook/val.some[roadbook/api.Val] -/
def t110_112_h : Hints := fun i => if i = 2 then some ([0, 2, 3, 4, 5, 6, 10, 11, 12, 13, 14, 15, 16], [], []) else none
def t110_112_lp2 (P : Program) (fn : Func) (N n : Nat) (x0 : D) (v9 : Int) : Option AV := evLoop (preL t110_112_h (sub [1, 0, 1, 0, 0] (bodyOf fn))) (evCode P (envOf T3) t110_112_h N (sub [1, 0, 1, 0, 0] (bodyOf fn))) n ⟨[dead, dat 81 (.held (.func (.func 112) #[] #[])), dead, dead, dead, dead, dead, dat 72 x0, dat 3 (.lit (.int .i64 ((elemsD x0).length : Int))), dat 3 (.lit (.int .i64 v9)), dead, dead, dead, dead, dead, dead, dead], lookB []⟩ (blockK 0 (seqC P (envOf T3) t110_112_h N (sub [1, 1] (bodyOf fn)) (finK P fn) ))
theorem t110_112_lp2_step (N n : Nat) (x0 : D) (v9 : Int) : t110_112_lp2 Tryz.prog Tryz.f110 N (n + 1) x0 v9 =
  bif decide (v9 < ((elemsD x0).length : Int)) then
    bif (decide (0 ≤ v9) && decide (v9 < ((elemsD x0).length : Int))) then
      bif isTru ((elemsD x0).getD (v9).toNat .nil) then
        some (dat 4 (.lit (.bool true)))
      else t110_112_lp2 Tryz.prog Tryz.f110 N n x0 (IntKind.wrap .i64 (v9 + 1))
    else none
  else some (dat 4 (.lit (.bool false))) := by kernel_rfl
theorem t110_112 (N : Nat) (x0 : D) : evFn Tryz.prog (envOf T3) t110_112_h N Tryz.f110 [dat 72 x0, dat 81 (.held (.func (.func 112) #[] #[]))] =
  t110_112_lp2 Tryz.prog Tryz.f110 N N x0 0 := by kernel_rfl

/- roadbook/val.some[roadbook/api.Val] -/
def t110_116_h : Hints := fun i => if i = 2 then some ([0, 2, 3, 4, 5, 6, 10, 11, 12, 13, 14, 15, 16], [], []) else none
def t110_116_lp2 (P : Program) (fn : Func) (N n : Nat) (x0 : D) (v9 : Int) : Option AV := evLoop (preL t110_116_h (sub [1, 0, 1, 0, 0] (bodyOf fn))) (evCode P (envOf T3) t110_116_h N (sub [1, 0, 1, 0, 0] (bodyOf fn))) n ⟨[dead, dat 81 (.held (.func (.func 116) #[] #[])), dead, dead, dead, dead, dead, dat 72 x0, dat 3 (.lit (.int .i64 ((elemsD x0).length : Int))), dat 3 (.lit (.int .i64 v9)), dead, dead, dead, dead, dead, dead, dead], lookB []⟩ (blockK 0 (seqC P (envOf T3) t110_116_h N (sub [1, 1] (bodyOf fn)) (finK P fn) ))
theorem t110_116_lp2_step (N n : Nat) (x0 : D) (v9 : Int) : t110_116_lp2 Tryz.prog Tryz.f110 N (n + 1) x0 v9 =
  bif decide (v9 < ((elemsD x0).length : Int)) then
    bif (decide (0 ≤ v9) && decide (v9 < ((elemsD x0).length : Int))) then
      bif isErr ((elemsD x0).getD (v9).toNat .nil) then
        some (dat 4 (.lit (.bool true)))
      else t110_116_lp2 Tryz.prog Tryz.f110 N n x0 (IntKind.wrap .i64 (v9 + 1))
    else none
  else some (dat 4 (.lit (.bool false))) := by kernel_rfl
theorem t110_116 (N : Nat) (x0 : D) : evFn Tryz.prog (envOf T3) t110_116_h N Tryz.f110 [dat 72 x0, dat 81 (.held (.func (.func 116) #[] #[]))] =
  t110_116_lp2 Tryz.prog Tryz.f110 N N x0 0 := by kernel_rfl

/- roadbook/val.some[roadbook/api.Val] -/
def t110_114_h : Hints := fun i => if i = 2 then some ([0, 2, 3, 4, 5, 6, 10, 11, 12, 13, 14, 15, 16], [], []) else none
def t110_114_lp2 (P : Program) (fn : Func) (N n : Nat) (x0 : D) (v9 : Int) : Option AV := evLoop (preL t110_114_h (sub [1, 0, 1, 0, 0] (bodyOf fn))) (evCode P (envOf T3) t110_114_h N (sub [1, 0, 1, 0, 0] (bodyOf fn))) n ⟨[dead, dat 81 (.held (.func (.func 114) #[] #[])), dead, dead, dead, dead, dead, dat 72 x0, dat 3 (.lit (.int .i64 ((elemsD x0).length : Int))), dat 3 (.lit (.int .i64 v9)), dead, dead, dead, dead, dead, dead, dead], lookB []⟩ (blockK 0 (seqC P (envOf T3) t110_114_h N (sub [1, 1] (bodyOf fn)) (finK P fn) ))
theorem t110_114_lp2_step (N n : Nat) (x0 : D) (v9 : Int) : t110_114_lp2 Tryz.prog Tryz.f110 N (n + 1) x0 v9 =
  bif decide (v9 < ((elemsD x0).length : Int)) then
    bif (decide (0 ≤ v9) && decide (v9 < ((elemsD x0).length : Int))) then
      bif isNum ((elemsD x0).getD (v9).toNat .nil) then
        some (dat 4 (.lit (.bool true)))
      else t110_114_lp2 Tryz.prog Tryz.f110 N n x0 (IntKind.wrap .i64 (v9 + 1))
    else none
  else some (dat 4 (.lit (.bool false))) := by kernel_rfl
theorem t110_114 (N : Nat) (x0 : D) : evFn Tryz.prog (envOf T3) t110_114_h N Tryz.f110 [dat 72 x0, dat 81 (.held (.func (.func 114) #[] #[]))] =
  t110_114_lp2 Tryz.prog Tryz.f110 N N x0 0 := by kernel_rfl

/- roadbook/val.some[roadbook/api.Val] -/
def t110_117_h : Hints := fun i => if i = 2 then some ([0, 2, 3, 4, 5, 6, 10, 11, 12, 13, 14, 15, 16], [], []) else none
def t110_117_lp2 (P : Program) (fn : Func) (N n : Nat) (x0 : D) (v9 : Int) : Option AV := evLoop (preL t110_117_h (sub [1, 0, 1, 0, 0] (bodyOf fn))) (evCode P (envOf T3) t110_117_h N (sub [1, 0, 1, 0, 0] (bodyOf fn))) n ⟨[dead, dat 81 (.held (.func (.func 117) #[] #[])), dead, dead, dead, dead, dead, dat 72 x0, dat 3 (.lit (.int .i64 ((elemsD x0).length : Int))), dat 3 (.lit (.int .i64 v9)), dead, dead, dead, dead, dead, dead, dead], lookB []⟩ (blockK 0 (seqC P (envOf T3) t110_117_h N (sub [1, 1] (bodyOf fn)) (finK P fn) ))
theorem t110_117_lp2_step (N n : Nat) (x0 : D) (v9 : Int) : t110_117_lp2 Tryz.prog Tryz.f110 N (n + 1) x0 v9 =
  bif decide (v9 < ((elemsD x0).length : Int)) then
    bif (decide (0 ≤ v9) && decide (v9 < ((elemsD x0).length : Int))) then
      bif isNul ((elemsD x0).getD (v9).toNat .nil) then
        some (dat 4 (.lit (.bool true)))
      else t110_117_lp2 Tryz.prog Tryz.f110 N n x0 (IntKind.wrap .i64 (v9 + 1))
    else none
  else some (dat 4 (.lit (.bool false))) := by kernel_rfl
theorem t110_117 (N : Nat) (x0 : D) : evFn Tryz.prog (envOf T3) t110_117_h N Tryz.f110 [dat 72 x0, dat 81 (.held (.func (.func 117) #[] #[]))] =
  t110_117_lp2 Tryz.prog Tryz.f110 N N x0 0 := by kernel_rfl

/- roadbook/val.ifNumbers -/
def t108_h : Hints := fun _ =>  none
theorem t108 (N : Nat) (x0 : Int) (x1 : D) : evFn Tryz.prog (envOf T4) t108_h N Tryz.f108 [dat 3 (.lit (.int .i64 x0)), dat 72 x1] =
  bif (elemsD x1).any isErr then
    some (dat 33 (.agg [.lit (.int .i64 2), .lit (.int .i64 0)]))
  else bif (elemsD x1).any isNul then
      some (dat 33 (.agg [.lit (.int .i64 1), .lit (.int .i64 0)]))
    else some (dat 33 (.agg [.lit (.int .i64 0), .lit (.int .i64 x0)])) := by kernel_rfl

/- roadbook/val.reckon -/
def t103_104_h : Hints := fun _ =>  none
theorem t103_104 (N : Nat) (x1 : D) (x2 : D) : evFn Tryz.prog (envOf T5) t103_104_h N Tryz.f103 [dat 111 (.held (.func (.func 104) #[] #[])), dat 33 x1, dat 33 x2] =
  bif (!(isNum (ifNum 0 [x1, x2]))) then
    some (dat 33 (ifNum 0 [x1, x2]))
  else bif (!(addOK (intD (fieldD x1 1)) (intD (fieldD x2 1)))) then
      some (dat 33 (.agg [.lit (.int .i64 2), .lit (.int .i64 0)]))
    else some (dat 33 (.agg [.lit (.int .i64 0), .lit (.int .i64 (IntKind.wrap .i64 ((intD (fieldD x1 1)) + (intD (fieldD x2 1)))))])) := by kernel_rfl

/- roadbook/val.reckon -/
def t103_105_h : Hints := fun _ =>  none
theorem t103_105 (N : Nat) (x1 : D) (x2 : D) : evFn Tryz.prog (envOf T5) t103_105_h N Tryz.f103 [dat 111 (.held (.func (.func 105) #[] #[])), dat 33 x1, dat 33 x2] =
  bif (!(isNum (ifNum 0 [x1, x2]))) then
    some (dat 33 (ifNum 0 [x1, x2]))
  else bif (!(subOK (intD (fieldD x1 1)) (intD (fieldD x2 1)))) then
      some (dat 33 (.agg [.lit (.int .i64 2), .lit (.int .i64 0)]))
    else some (dat 33 (.agg [.lit (.int .i64 0), .lit (.int .i64 (IntKind.wrap .i64 ((intD (fieldD x1 1)) - (intD (fieldD x2 1)))))])) := by kernel_rfl

/- roadbook/val.reckon -/
def t103_106_h : Hints := fun _ =>  none
theorem t103_106 (N : Nat) (x1 : D) (x2 : D) : evFn Tryz.prog (envOf T5) t103_106_h N Tryz.f103 [dat 111 (.held (.func (.func 106) #[] #[])), dat 33 x1, dat 33 x2] =
  bif (!(isNum (ifNum 0 [x1, x2]))) then
    some (dat 33 (ifNum 0 [x1, x2]))
  else bif (!(mulOK (intD (fieldD x1 1)) (intD (fieldD x2 1)))) then
      some (dat 33 (.agg [.lit (.int .i64 2), .lit (.int .i64 0)]))
    else some (dat 33 (.agg [.lit (.int .i64 0), .lit (.int .i64 (IntKind.wrap .i64 ((intD (fieldD x1 1)) * (intD (fieldD x2 1)))))])) := by kernel_rfl

/- roadbook/val.reckon -/
def t103_107_h : Hints := fun _ =>  none
theorem t103_107 (N : Nat) (x1 : D) (x2 : D) : evFn Tryz.prog (envOf T5) t103_107_h N Tryz.f103 [dat 111 (.held (.func (.func 107) #[] #[])), dat 33 x1, dat 33 x2] =
  bif (!(isNum (ifNum 0 [x1, x2]))) then
    some (dat 33 (ifNum 0 [x1, x2]))
  else bif (!(divOK (intD (fieldD x1 1)) (intD (fieldD x2 1)))) then
      some (dat 33 (.agg [.lit (.int .i64 2), .lit (.int .i64 0)]))
    else some (dat 33 (.agg [.lit (.int .i64 0), .lit (.int .i64 (divV (intD (fieldD x1 1)) (intD (fieldD x2 1))))])) := by kernel_rfl

/- roadbook/val.Eq -/
def t89_h : Hints := fun _ =>  none
theorem t89 (N : Nat) (x0 : D) (x1 : D) : evFn Tryz.prog (envOf T5) t89_h N Tryz.f89 [dat 33 x0, dat 33 x1] =
  some (dat 33 (ifNum (truthI ((intD (fieldD x0 1)) == (intD (fieldD x1 1)))) [x0, x1])) := by kernel_rfl

/- roadbook/val.Lt -/
def t90_h : Hints := fun _ =>  none
theorem t90 (N : Nat) (x0 : D) (x1 : D) : evFn Tryz.prog (envOf T5) t90_h N Tryz.f90 [dat 33 x0, dat 33 x1] =
  some (dat 33 (ifNum (truthI (decide ((intD (fieldD x0 1)) < (intD (fieldD x1 1))))) [x0, x1])) := by kernel_rfl

/- roadbook/val.And -/
def t91_h : Hints := fun _ =>  none
theorem t91 (N : Nat) (x0 : D) : evFn Tryz.prog (envOf T5) t91_h N Tryz.f91 [dat 72 x0] =
  bif (elemsD x0).any isFal then
    some (dat 33 (.agg [.lit (.int .i64 0), .lit (.int .i64 0)]))
  else some (dat 33 (ifNum 1 (elemsD x0))) := by kernel_rfl

/- roadbook/val.Or -/
def t92_h : Hints := fun _ =>  none
theorem t92 (N : Nat) (x0 : D) : evFn Tryz.prog (envOf T5) t92_h N Tryz.f92 [dat 72 x0] =
  bif (elemsD x0).any isTru then
    some (dat 33 (.agg [.lit (.int .i64 0), .lit (.int .i64 1)]))
  else some (dat 33 (ifNum 0 (elemsD x0))) := by kernel_rfl

/- roadbook/val.Not -/
def t93_h : Hints := fun _ =>  none
theorem t93 (N : Nat) (x0 : D) : evFn Tryz.prog (envOf T5) t93_h N Tryz.f93 [dat 33 x0] =
  some (dat 33 (ifNum (truthI (isFal x0)) [x0])) := by kernel_rfl

/- roadbook/val.Add -/
def t85_h : Hints := fun _ =>  none
theorem t85 (N : Nat) (x0 : D) (x1 : D) : evFn Tryz.prog (envOf T6) t85_h N Tryz.f85 [dat 33 x0, dat 33 x1] =
  some (dat 33 (addD x0 x1)) := by kernel_rfl

/- roadbook/val.Sub -/
def t86_h : Hints := fun _ =>  none
theorem t86 (N : Nat) (x0 : D) (x1 : D) : evFn Tryz.prog (envOf T6) t86_h N Tryz.f86 [dat 33 x0, dat 33 x1] =
  some (dat 33 (subD x0 x1)) := by kernel_rfl

/- roadbook/val.Mul -/
def t87_h : Hints := fun _ =>  none
theorem t87 (N : Nat) (x0 : D) (x1 : D) : evFn Tryz.prog (envOf T6) t87_h N Tryz.f87 [dat 33 x0, dat 33 x1] =
  some (dat 33 (mulD x0 x1)) := by kernel_rfl

/- roadbook/val.Div -/
def t88_h : Hints := fun _ =>  none
theorem t88 (N : Nat) (x0 : D) (x1 : D) : evFn Tryz.prog (envOf T6) t88_h N Tryz.f88 [dat 33 x0, dat 33 x1] =
  some (dat 33 (divD x0 x1)) := by kernel_rfl

end Go.Proofs.YtjgnknkbohlopaaGreat
