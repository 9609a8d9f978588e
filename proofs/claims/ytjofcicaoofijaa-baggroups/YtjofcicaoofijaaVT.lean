/- What the evaluator comes to, function by function: by the kernel. Nothing here is trusted. -/
import Derived.Test.YtjofcicaoofijaaVS
import Derived.Test.YtjofcicaoofijaaRows
namespace Go.Proofs.Ytjofcicaoofijaa
open Go.Ev
set_option linter.unusedVariables false
def T0 : Tab := []
def e33 : FuncId × TypeId × (List AV → Bool) × (List AV → Option D) := (33, 4, yes, ent [34] (f1 (fun x => some (.lit (.bool (mayB x))))))
def e30 : FuncId × TypeId × (List AV → Bool) × (List AV → Option D) := (30, 34, yes, ent [3] (f1 (fun x => some (.agg [.lit (.int .i64 0), .lit (.int .i64 (intD x))]))))
def e39 : FuncId × TypeId × (List AV → Bool) × (List AV → Option D) := (39, 34, yes, ent [] (f0 (some (.agg [.lit (.int .i64 2), .lit (.int .i64 0)]))))
def e41 : FuncId × TypeId × (List AV → Bool) × (List AV → Option D) := (41, 68, yes, ent [3, 3] (f2 (fun x y => some (.agg [.lit (.int .i64 (IntKind.wrap .i64 ((intD x) + (intD y)))), .lit (.bool (addOK (intD x) (intD y)))]))))
def e40 : FuncId × TypeId × (List AV → Bool) × (List AV → Option D) := (40, 4, yes, ent [34] (f1 (fun x => some (.lit (.bool (isNum x))))))
def T1 : Tab := e33 :: e30 :: e39 :: e41 :: e40 :: T0
def e44 : FuncId × TypeId × (List AV → Bool) × (List AV → Option D) := (44, 34, yes, ent [34] (f1 (fun x => some (readD x))))
def T2 : Tab := e44 :: T1
def e38 : FuncId × TypeId × (List AV → Bool) × (List AV → Option D) := (38, 4, yes, ent [34] (f1 (fun x => some (.lit (.bool (isErr x))))))
def e35 : FuncId × TypeId × (List AV → Bool) × (List AV → Option D) := (35, 4, yes, ent [34, 34] (f2 (fun x y => some (.lit (.bool (lessB x y))))))
def T3 : Tab := e38 :: e35 :: T2
def e37 : FuncId × TypeId × (List AV → Bool) × (List AV → Option D) := (37, 4, yes, ent [32, 62] (f2 fun x y => match fnD y with | some 38 => some (.lit (.bool ((elemsD x).any isErr))) | some 40 => some (.lit (.bool ((elemsD x).any isNum))) | _ => none))
def T4 : Tab := e37 :: T3
def e31 : FuncId × TypeId × (List AV → Bool) × (List AV → Option D) := (31, 34, yes, ent [32] (f1 (fun x => some (sumD (elemsD x)))))
def T5 : Tab := e31 :: T4
def T6 : Tab := T5
def T7 : Tab := T6
def T8 : Tab := T7
/- roadbook/val.May -/
def t33_h : Hints := fun _ =>  none
theorem t33 (N : Nat) (x0 : D) : evFn Try.prog (envOf T0) t33_h N Try.f33 [dat 34 x0] =
  bif (((intD (fieldD x0 0)) == 0) == false) then
    bif (((intD (fieldD x0 0)) == 1) == false) then
      bif (((intD (fieldD x0 0)) == 2) == true) then
        some (dat 4 (.lit (.bool ((intD (fieldD x0 1)) == 0))))
      else some (dat 4 (.lit (.bool false)))
    else some (dat 4 (.lit (.bool ((intD (fieldD x0 1)) == 0))))
  else some (dat 4 (.lit (.bool true))) := by kernel_rfl

/- roadbook/val.Of -/
def t30_h : Hints := fun _ =>  none
theorem t30 (N : Nat) (x0 : Int) : evFn Try.prog (envOf T0) t30_h N Try.f30 [dat 3 (.lit (.int .i64 x0))] =
  some (dat 34 (.agg [.lit (.int .i64 0), .lit (.int .i64 x0)])) := by kernel_rfl

/- roadbook/val.fault -/
def t39_h : Hints := fun _ =>  none
theorem t39 (N : Nat)  : evFn Try.prog (envOf T0) t39_h N Try.f39 [] =
  some (dat 34 (.agg [.lit (.int .i64 2), .lit (.int .i64 0)])) := by kernel_rfl

/- roadbook/val.plus -/
def t41_h : Hints := fun _ =>  none
theorem t41 (N : Nat) (x0 : Int) (x1 : Int) : evFn Try.prog (envOf T0) t41_h N Try.f41 [dat 3 (.lit (.int .i64 x0)), dat 3 (.lit (.int .i64 x1))] =
  some (tupA [3, 4] (.agg [.lit (.int .i64 (IntKind.wrap .i64 (x0 + x1))), .lit (.bool ((decide ((IntKind.wrap .i64 (x0 + x1)) < x0)) == (decide (x1 < 0))))])) := by kernel_rfl

/- roadbook/val.isNumber -/
def t40_h : Hints := fun _ =>  none
theorem t40 (N : Nat) (x0 : D) : evFn Try.prog (envOf T0) t40_h N Try.f40 [dat 34 x0] =
  some (dat 4 (.lit (.bool ((intD (fieldD x0 0)) == 0)))) := by kernel_rfl

/- roadbook/val.read -/
def t44_h : Hints := fun _ =>  none
theorem t44 (N : Nat) (x0 : D) : evFn Try.prog (envOf T1) t44_h N Try.f44 [dat 34 x0] =
  bif mayB x0 then
    some (dat 34 x0)
  else some (dat 34 (.agg [.lit (.int .i64 2), .lit (.int .i64 0)])) := by kernel_rfl

/- roadbook/val.isError -/
def t38_h : Hints := fun _ =>  none
theorem t38 (N : Nat) (x0 : D) : evFn Try.prog (envOf T2) t38_h N Try.f38 [dat 34 x0] =
  some (dat 4 (.lit (.bool ((intD (fieldD (readD x0) 0)) == 2)))) := by kernel_rfl

/- roadbook/val.Less -/
def t35_h : Hints := fun _ =>  none
theorem t35 (N : Nat) (x0 : D) (x1 : D) : evFn Try.prog (envOf T2) t35_h N Try.f35 [dat 34 x0, dat 34 x1] =
  bif ((decide ((intD (fieldD (readD x0) 0)) < (intD (fieldD (readD x1) 0)))) == false) then
    bif (((intD (fieldD (readD x0) 0)) == (intD (fieldD (readD x1) 0))) == true) then
      some (dat 4 (.lit (.bool (decide ((intD (fieldD (readD x0) 1)) < (intD (fieldD (readD x1) 1)))))))
    else some (dat 4 (.lit (.bool false)))
  else some (dat 4 (.lit (.bool true))) := by kernel_rfl

/- roadbook/val.some[roadbook/api.Val] -/
def t37_38_h : Hints := fun i => if i = 2 then some ([0, 2, 3, 4, 5, 6, 10, 11, 12, 13, 14, 15, 16], [], []) else none
def t37_38_lp2 (P : Program) (fn : Func) (N n : Nat) (x0 : D) (v9 : Int) : Option AV := evLoop (preL t37_38_h (sub [1, 0, 1, 0, 0] (bodyOf fn))) (evCode P (envOf T3) t37_38_h N (sub [1, 0, 1, 0, 0] (bodyOf fn))) n ⟨[dead, dat 62 (.held (.func (.func 38) #[] #[])), dead, dead, dead, dead, dead, dat 32 x0, dat 3 (.lit (.int .i64 ((elemsD x0).length : Int))), dat 3 (.lit (.int .i64 v9)), dead, dead, dead, dead, dead, dead, dead], lookB []⟩ (blockK 0 (seqC P (envOf T3) t37_38_h N (sub [1, 1] (bodyOf fn)) (finK P fn) ))
theorem t37_38_lp2_step (N n : Nat) (x0 : D) (v9 : Int) : t37_38_lp2 Try.prog Try.f37 N (n + 1) x0 v9 =
  bif decide (v9 < ((elemsD x0).length : Int)) then
    bif (decide (0 ≤ v9) && decide (v9 < ((elemsD x0).length : Int))) then
      bif isErr ((elemsD x0).getD (v9).toNat .nil) then
        some (dat 4 (.lit (.bool true)))
      else t37_38_lp2 Try.prog Try.f37 N n x0 (IntKind.wrap .i64 (v9 + 1))
    else none
  else some (dat 4 (.lit (.bool false))) := by kernel_rfl
theorem t37_38 (N : Nat) (x0 : D) : evFn Try.prog (envOf T3) t37_38_h N Try.f37 [dat 32 x0, dat 62 (.held (.func (.func 38) #[] #[]))] =
  t37_38_lp2 Try.prog Try.f37 N N x0 0 := by kernel_rfl

/- roadbook/val.some[roadbook/api.Val] -/
def t37_40_h : Hints := fun i => if i = 2 then some ([0, 2, 3, 4, 5, 6, 10, 11, 12, 13, 14, 15, 16], [], []) else none
def t37_40_lp2 (P : Program) (fn : Func) (N n : Nat) (x0 : D) (v9 : Int) : Option AV := evLoop (preL t37_40_h (sub [1, 0, 1, 0, 0] (bodyOf fn))) (evCode P (envOf T3) t37_40_h N (sub [1, 0, 1, 0, 0] (bodyOf fn))) n ⟨[dead, dat 62 (.held (.func (.func 40) #[] #[])), dead, dead, dead, dead, dead, dat 32 x0, dat 3 (.lit (.int .i64 ((elemsD x0).length : Int))), dat 3 (.lit (.int .i64 v9)), dead, dead, dead, dead, dead, dead, dead], lookB []⟩ (blockK 0 (seqC P (envOf T3) t37_40_h N (sub [1, 1] (bodyOf fn)) (finK P fn) ))
theorem t37_40_lp2_step (N n : Nat) (x0 : D) (v9 : Int) : t37_40_lp2 Try.prog Try.f37 N (n + 1) x0 v9 =
  bif decide (v9 < ((elemsD x0).length : Int)) then
    bif (decide (0 ≤ v9) && decide (v9 < ((elemsD x0).length : Int))) then
      bif isNum ((elemsD x0).getD (v9).toNat .nil) then
        some (dat 4 (.lit (.bool true)))
      else t37_40_lp2 Try.prog Try.f37 N n x0 (IntKind.wrap .i64 (v9 + 1))
    else none
  else some (dat 4 (.lit (.bool false))) := by kernel_rfl
theorem t37_40 (N : Nat) (x0 : D) : evFn Try.prog (envOf T3) t37_40_h N Try.f37 [dat 32 x0, dat 62 (.held (.func (.func 40) #[] #[]))] =
  t37_40_lp2 Try.prog Try.f37 N N x0 0 := by kernel_rfl

/- roadbook/val.Sum -/
def t31_h : Hints := fun i => if i = 7 then some ([0, 1, 5, 6, 7, 8, 9, 10, 11, 12, 13, 14, 15, 19, 20, 21, 22, 23, 24, 25, 26, 27, 28, 29, 30, 31, 32, 33, 34, 35, 36, 37, 38, 39, 40, 41, 42, 43, 44, 45, 46, 47, 48], [2], []) else none
def t31_lp7 (P : Program) (fn : Func) (N n : Nat) (x0 : D) (v3 : Int) (v4 : Int) (v18 : Int) : Option AV := evLoop (preL t31_h (sub [1, 1, 1, 1, 0, 1, 0, 0] (bodyOf fn))) (evCode P (envOf T4) t31_h N (sub [1, 1, 1, 1, 0, 1, 0, 0] (bodyOf fn))) n ⟨[dead, dead, bxp 2 34, dat 3 (.lit (.int .i64 v3)), dat 3 (.lit (.int .i64 v4)), dead, dead, dead, dead, dead, dead, dead, dead, dead, dead, dead, dat 32 x0, dat 3 (.lit (.int .i64 ((elemsD x0).length : Int))), dat 3 (.lit (.int .i64 v18)), dead, dead, dead, dead, dead, dead, dead, dead, dead, dead, dead, dead, dead, dead, dead, dead, dead, dead, dead, dead, dead, dead, dead, dead, dead, dead, dead, dead, dead, dead], lookB [(2, some ⟨34, .agg [.lit (.int .i64 0), .lit (.int .i64 0)], 0, none⟩)]⟩ (blockK 0 (seqC P (envOf T4) t31_h N (sub [1, 1, 1, 1, 1] (bodyOf fn)) (finK P fn) ))
theorem t31_lp7_step (N n : Nat) (x0 : D) (v3 : Int) (v4 : Int) (v18 : Int) : t31_lp7 Try.prog Try.f31 N (n + 1) x0 v3 v4 v18 =
  bif decide (v18 < ((elemsD x0).length : Int)) then
    bif (decide (0 ≤ v18) && decide (v18 < ((elemsD x0).length : Int))) then
      bif ((!(addOK v3 (intD (fieldD ((elemsD x0).getD (v18).toNat .nil) 1)))) == true) then
        bif decide ((intD (fieldD ((elemsD x0).getD (v18).toNat .nil) 1)) > 0) then
          t31_lp7 Try.prog Try.f31 N n x0 (IntKind.wrap .i64 (v3 + (intD (fieldD ((elemsD x0).getD (v18).toNat .nil) 1)))) (IntKind.wrap .i64 (v4 + 1)) (IntKind.wrap .i64 (v18 + 1))
        else bif (!(addOK v3 (intD (fieldD ((elemsD x0).getD (v18).toNat .nil) 1)))) then
            t31_lp7 Try.prog Try.f31 N n x0 (IntKind.wrap .i64 (v3 + (intD (fieldD ((elemsD x0).getD (v18).toNat .nil) 1)))) (IntKind.wrap .i64 (v4 - 1)) (IntKind.wrap .i64 (v18 + 1))
          else t31_lp7 Try.prog Try.f31 N n x0 (IntKind.wrap .i64 (v3 + (intD (fieldD ((elemsD x0).getD (v18).toNat .nil) 1)))) v4 (IntKind.wrap .i64 (v18 + 1))
      else bif (!(addOK v3 (intD (fieldD ((elemsD x0).getD (v18).toNat .nil) 1)))) then
          t31_lp7 Try.prog Try.f31 N n x0 (IntKind.wrap .i64 (v3 + (intD (fieldD ((elemsD x0).getD (v18).toNat .nil) 1)))) (IntKind.wrap .i64 (v4 - 1)) (IntKind.wrap .i64 (v18 + 1))
        else t31_lp7 Try.prog Try.f31 N n x0 (IntKind.wrap .i64 (v3 + (intD (fieldD ((elemsD x0).getD (v18).toNat .nil) 1)))) v4 (IntKind.wrap .i64 (v18 + 1))
    else none
  else bif (v4 != 0) then
      some (dat 34 (.agg [.lit (.int .i64 2), .lit (.int .i64 0)]))
    else some (dat 34 (.agg [.lit (.int .i64 0), .lit (.int .i64 v3)])) := by kernel_rfl
theorem t31 (N : Nat) (x0 : D) : evFn Try.prog (envOf T4) t31_h N Try.f31 [dat 32 x0] =
  bif (elemsD x0).any isErr then
    some (dat 34 (.agg [.lit (.int .i64 2), .lit (.int .i64 0)]))
  else bif (!((elemsD x0).any isNum)) then
      some (dat 34 (.agg [.lit (.int .i64 1), .lit (.int .i64 0)]))
    else t31_lp7 Try.prog Try.f31 N N x0 0 0 0 := by kernel_rfl

end Go.Proofs.Ytjofcicaoofijaa
