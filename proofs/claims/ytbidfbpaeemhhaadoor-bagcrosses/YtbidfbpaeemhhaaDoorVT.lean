/- What the evaluator comes to, function by function: by the kernel. Nothing here is trusted. -/
import Derived.Test.YtbidfbpaeemhhaaDoorV1
import Derived.Test.YtbidfbpaeemhhaaDoorRows
namespace Go.Proofs.YtbidfbpaeemhhaaDoor
open Go.Ev
set_option linter.unusedVariables false
def T0 : Tab := []
def e42 : FuncId × TypeId × (List AV → Bool) × (List AV → Option D) := (42, 4, yes, ent [39] (f1 (fun x => some (.lit (.bool (mayB x))))))
def e51 : FuncId × TypeId × (List AV → Bool) × (List AV → Option D) := (51, 39, yes, ent [3] (f1 (fun x => some (.agg [.lit (.int .i64 0), .lit (.int .i64 (intD x))]))))
def e61 : FuncId × TypeId × (List AV → Bool) × (List AV → Option D) := (61, 39, yes, ent [] (f0 (some (.agg [.lit (.int .i64 2), .lit (.int .i64 0)]))))
def e63 : FuncId × TypeId × (List AV → Bool) × (List AV → Option D) := (63, 88, yes, ent [3, 3] (f2 (fun x y => some (.agg [.lit (.int .i64 (IntKind.wrap .i64 ((intD x) + (intD y)))), .lit (.bool (addOK (intD x) (intD y)))]))))
def e62 : FuncId × TypeId × (List AV → Bool) × (List AV → Option D) := (62, 4, yes, ent [39] (f1 (fun x => some (.lit (.bool (isNum x))))))
def T1 : Tab := e42 :: e51 :: e61 :: e63 :: e62 :: T0
def e56 : FuncId × TypeId × (List AV → Bool) × (List AV → Option D) := (56, 39, yes, ent [39] (f1 (fun x => some (readD x))))
def T2 : Tab := e56 :: T1
def e60 : FuncId × TypeId × (List AV → Bool) × (List AV → Option D) := (60, 4, yes, ent [39] (f1 (fun x => some (.lit (.bool (isErr x))))))
def e44 : FuncId × TypeId × (List AV → Bool) × (List AV → Option D) := (44, 4, yes, ent [39, 39] (f2 (fun x y => some (.lit (.bool (lessB x y))))))
def T3 : Tab := e60 :: e44 :: T2
def e59 : FuncId × TypeId × (List AV → Bool) × (List AV → Option D) := (59, 4, yes, ent [34, 68] (f2 fun x y => match fnD y with | some 60 => some (.lit (.bool ((elemsD x).any isErr))) | some 62 => some (.lit (.bool ((elemsD x).any isNum))) | _ => none))
def T4 : Tab := e59 :: T3
def e52 : FuncId × TypeId × (List AV → Bool) × (List AV → Option D) := (52, 39, yes, ent [34] (f1 (fun x => some (sumD (elemsD x)))))
def T5 : Tab := e52 :: T4
def T6 : Tab := T5
def T7 : Tab := T6
def T8 : Tab := T7
/- roadbook/val.May -/
def t42_h : Hints := fun _ =>  none
theorem t42 (N : Nat) (x0 : D) : evFn Tryd.prog (envOf T0) t42_h N Tryd.f42 [dat 39 x0] =
  bif (((intD (fieldD x0 0)) == 0) == false) then
    bif (((intD (fieldD x0 0)) == 1) == false) then
      bif (((intD (fieldD x0 0)) == 2) == true) then
        some (dat 4 (.lit (.bool ((intD (fieldD x0 1)) == 0))))
      else some (dat 4 (.lit (.bool false)))
    else some (dat 4 (.lit (.bool ((intD (fieldD x0 1)) == 0))))
  else some (dat 4 (.lit (.bool true))) := by kernel_rfl

/- roadbook/val.Of -/
def t51_h : Hints := fun _ =>  none
theorem t51 (N : Nat) (x0 : Int) : evFn Tryd.prog (envOf T0) t51_h N Tryd.f51 [dat 3 (.lit (.int .i64 x0))] =
  some (dat 39 (.agg [.lit (.int .i64 0), .lit (.int .i64 x0)])) := by kernel_rfl

/- roadbook/val.fault -/
def t61_h : Hints := fun _ =>  none
theorem t61 (N : Nat)  : evFn Tryd.prog (envOf T0) t61_h N Tryd.f61 [] =
  some (dat 39 (.agg [.lit (.int .i64 2), .lit (.int .i64 0)])) := by kernel_rfl

/- roadbook/val.plus -/
def t63_h : Hints := fun _ =>  none
theorem t63 (N : Nat) (x0 : Int) (x1 : Int) : evFn Tryd.prog (envOf T0) t63_h N Tryd.f63 [dat 3 (.lit (.int .i64 x0)), dat 3 (.lit (.int .i64 x1))] =
  some (tupA [3, 4] (.agg [.lit (.int .i64 (IntKind.wrap .i64 (x0 + x1))), .lit (.bool ((decide ((IntKind.wrap .i64 (x0 + x1)) < x0)) == (decide (x1 < 0))))])) := by kernel_rfl

/- roadbook/val.isNumber -/
def t62_h : Hints := fun _ =>  none
theorem t62 (N : Nat) (x0 : D) : evFn Tryd.prog (envOf T0) t62_h N Tryd.f62 [dat 39 x0] =
  some (dat 4 (.lit (.bool ((intD (fieldD x0 0)) == 0)))) := by kernel_rfl

/- roadbook/val.read -/
def t56_h : Hints := fun _ =>  none
theorem t56 (N : Nat) (x0 : D) : evFn Tryd.prog (envOf T1) t56_h N Tryd.f56 [dat 39 x0] =
  bif mayB x0 then
    some (dat 39 x0)
  else some (dat 39 (.agg [.lit (.int .i64 2), .lit (.int .i64 0)])) := by kernel_rfl

/- roadbook/val.isError -/
def t60_h : Hints := fun _ =>  none
theorem t60 (N : Nat) (x0 : D) : evFn Tryd.prog (envOf T2) t60_h N Tryd.f60 [dat 39 x0] =
  some (dat 4 (.lit (.bool ((intD (fieldD (readD x0) 0)) == 2)))) := by kernel_rfl

/- roadbook/val.Less -/
def t44_h : Hints := fun _ =>  none
theorem t44 (N : Nat) (x0 : D) (x1 : D) : evFn Tryd.prog (envOf T2) t44_h N Tryd.f44 [dat 39 x0, dat 39 x1] =
  bif ((decide ((intD (fieldD (readD x0) 0)) < (intD (fieldD (readD x1) 0)))) == false) then
    bif (((intD (fieldD (readD x0) 0)) == (intD (fieldD (readD x1) 0))) == true) then
      some (dat 4 (.lit (.bool (decide ((intD (fieldD (readD x0) 1)) < (intD (fieldD (readD x1) 1)))))))
    else some (dat 4 (.lit (.bool false)))
  else some (dat 4 (.lit (.bool true))) := by kernel_rfl

/- roadbook/val.some[roadbook/api.Val] -/
def t59_60_h : Hints := fun i => if i = 2 then some ([0, 2, 3, 4, 5, 6, 10, 11, 12, 13, 14, 15, 16], [], []) else none
def t59_60_lp2 (P : Program) (fn : Func) (N n : Nat) (x0 : D) (v9 : Int) : Option AV := evLoop (preL t59_60_h (sub [1, 0, 1, 0, 0] (bodyOf fn))) (evCode P (envOf T3) t59_60_h N (sub [1, 0, 1, 0, 0] (bodyOf fn))) n ⟨[dead, dat 68 (.held (.func (.func 60) #[] #[])), dead, dead, dead, dead, dead, dat 34 x0, dat 3 (.lit (.int .i64 ((elemsD x0).length : Int))), dat 3 (.lit (.int .i64 v9)), dead, dead, dead, dead, dead, dead, dead], lookB []⟩ (blockK 0 (seqC P (envOf T3) t59_60_h N (sub [1, 1] (bodyOf fn)) (finK P fn) ))
theorem t59_60_lp2_step (N n : Nat) (x0 : D) (v9 : Int) : t59_60_lp2 Tryd.prog Tryd.f59 N (n + 1) x0 v9 =
  bif decide (v9 < ((elemsD x0).length : Int)) then
    bif (decide (0 ≤ v9) && decide (v9 < ((elemsD x0).length : Int))) then
      bif isErr ((elemsD x0).getD (v9).toNat .nil) then
        some (dat 4 (.lit (.bool true)))
      else t59_60_lp2 Tryd.prog Tryd.f59 N n x0 (IntKind.wrap .i64 (v9 + 1))
    else none
  else some (dat 4 (.lit (.bool false))) := by kernel_rfl
theorem t59_60 (N : Nat) (x0 : D) : evFn Tryd.prog (envOf T3) t59_60_h N Tryd.f59 [dat 34 x0, dat 68 (.held (.func (.func 60) #[] #[]))] =
  t59_60_lp2 Tryd.prog Tryd.f59 N N x0 0 := by kernel_rfl

/- roadbook/val.some[roadbook/api.Val] -/
def t59_62_h : Hints := fun i => if i = 2 then some ([0, 2, 3, 4, 5, 6, 10, 11, 12, 13, 14, 15, 16], [], []) else none
def t59_62_lp2 (P : Program) (fn : Func) (N n : Nat) (x0 : D) (v9 : Int) : Option AV := evLoop (preL t59_62_h (sub [1, 0, 1, 0, 0] (bodyOf fn))) (evCode P (envOf T3) t59_62_h N (sub [1, 0, 1, 0, 0] (bodyOf fn))) n ⟨[dead, dat 68 (.held (.func (.func 62) #[] #[])), dead, dead, dead, dead, dead, dat 34 x0, dat 3 (.lit (.int .i64 ((elemsD x0).length : Int))), dat 3 (.lit (.int .i64 v9)), dead, dead, dead, dead, dead, dead, dead], lookB []⟩ (blockK 0 (seqC P (envOf T3) t59_62_h N (sub [1, 1] (bodyOf fn)) (finK P fn) ))
theorem t59_62_lp2_step (N n : Nat) (x0 : D) (v9 : Int) : t59_62_lp2 Tryd.prog Tryd.f59 N (n + 1) x0 v9 =
  bif decide (v9 < ((elemsD x0).length : Int)) then
    bif (decide (0 ≤ v9) && decide (v9 < ((elemsD x0).length : Int))) then
      bif isNum ((elemsD x0).getD (v9).toNat .nil) then
        some (dat 4 (.lit (.bool true)))
      else t59_62_lp2 Tryd.prog Tryd.f59 N n x0 (IntKind.wrap .i64 (v9 + 1))
    else none
  else some (dat 4 (.lit (.bool false))) := by kernel_rfl
theorem t59_62 (N : Nat) (x0 : D) : evFn Tryd.prog (envOf T3) t59_62_h N Tryd.f59 [dat 34 x0, dat 68 (.held (.func (.func 62) #[] #[]))] =
  t59_62_lp2 Tryd.prog Tryd.f59 N N x0 0 := by kernel_rfl

/- roadbook/val.Sum -/
def t52_h : Hints := fun i => if i = 7 then some ([0, 1, 5, 6, 7, 8, 9, 10, 11, 12, 13, 14, 15, 19, 20, 21, 22, 23, 24, 25, 26, 27, 28, 29, 30, 31, 32, 33, 34, 35, 36, 37, 38, 39, 40, 41, 42, 43, 44, 45, 46, 47, 48], [2], []) else none
def t52_lp7 (P : Program) (fn : Func) (N n : Nat) (x0 : D) (v3 : Int) (v4 : Int) (v18 : Int) : Option AV := evLoop (preL t52_h (sub [1, 1, 1, 1, 0, 1, 0, 0] (bodyOf fn))) (evCode P (envOf T4) t52_h N (sub [1, 1, 1, 1, 0, 1, 0, 0] (bodyOf fn))) n ⟨[dead, dead, bxp 2 39, dat 3 (.lit (.int .i64 v3)), dat 3 (.lit (.int .i64 v4)), dead, dead, dead, dead, dead, dead, dead, dead, dead, dead, dead, dat 34 x0, dat 3 (.lit (.int .i64 ((elemsD x0).length : Int))), dat 3 (.lit (.int .i64 v18)), dead, dead, dead, dead, dead, dead, dead, dead, dead, dead, dead, dead, dead, dead, dead, dead, dead, dead, dead, dead, dead, dead, dead, dead, dead, dead, dead, dead, dead, dead], lookB [(2, some ⟨39, .agg [.lit (.int .i64 0), .lit (.int .i64 0)], 0, none⟩)]⟩ (blockK 0 (seqC P (envOf T4) t52_h N (sub [1, 1, 1, 1, 1] (bodyOf fn)) (finK P fn) ))
theorem t52_lp7_step (N n : Nat) (x0 : D) (v3 : Int) (v4 : Int) (v18 : Int) : t52_lp7 Tryd.prog Tryd.f52 N (n + 1) x0 v3 v4 v18 =
  bif decide (v18 < ((elemsD x0).length : Int)) then
    bif (decide (0 ≤ v18) && decide (v18 < ((elemsD x0).length : Int))) then
      bif ((!(addOK v3 (intD (fieldD ((elemsD x0).getD (v18).toNat .nil) 1)))) == true) then
        bif decide ((intD (fieldD ((elemsD x0).getD (v18).toNat .nil) 1)) > 0) then
          t52_lp7 Tryd.prog Tryd.f52 N n x0 (IntKind.wrap .i64 (v3 + (intD (fieldD ((elemsD x0).getD (v18).toNat .nil) 1)))) (IntKind.wrap .i64 (v4 + 1)) (IntKind.wrap .i64 (v18 + 1))
        else bif (!(addOK v3 (intD (fieldD ((elemsD x0).getD (v18).toNat .nil) 1)))) then
            t52_lp7 Tryd.prog Tryd.f52 N n x0 (IntKind.wrap .i64 (v3 + (intD (fieldD ((elemsD x0).getD (v18).toNat .nil) 1)))) (IntKind.wrap .i64 (v4 - 1)) (IntKind.wrap .i64 (v18 + 1))
          else t52_lp7 Tryd.prog Tryd.f52 N n x0 (IntKind.wrap .i64 (v3 + (intD (fieldD ((elemsD x0).getD (v18).toNat .nil) 1)))) v4 (IntKind.wrap .i64 (v18 + 1))
      else bif (!(addOK v3 (intD (fieldD ((elemsD x0).getD (v18).toNat .nil) 1)))) then
          t52_lp7 Tryd.prog Tryd.f52 N n x0 (IntKind.wrap .i64 (v3 + (intD (fieldD ((elemsD x0).getD (v18).toNat .nil) 1)))) (IntKind.wrap .i64 (v4 - 1)) (IntKind.wrap .i64 (v18 + 1))
        else t52_lp7 Tryd.prog Tryd.f52 N n x0 (IntKind.wrap .i64 (v3 + (intD (fieldD ((elemsD x0).getD (v18).toNat .nil) 1)))) v4 (IntKind.wrap .i64 (v18 + 1))
    else none
  else bif (v4 != 0) then
      some (dat 39 (.agg [.lit (.int .i64 2), .lit (.int .i64 0)]))
    else some (dat 39 (.agg [.lit (.int .i64 0), .lit (.int .i64 v3)])) := by kernel_rfl
theorem t52 (N : Nat) (x0 : D) : evFn Tryd.prog (envOf T4) t52_h N Tryd.f52 [dat 34 x0] =
  bif (elemsD x0).any isErr then
    some (dat 39 (.agg [.lit (.int .i64 2), .lit (.int .i64 0)]))
  else bif (!((elemsD x0).any isNum)) then
      some (dat 39 (.agg [.lit (.int .i64 1), .lit (.int .i64 0)]))
    else t52_lp7 Tryd.prog Tryd.f52 N N x0 0 0 0 := by kernel_rfl

end Go.Proofs.YtbidfbpaeemhhaaDoor
