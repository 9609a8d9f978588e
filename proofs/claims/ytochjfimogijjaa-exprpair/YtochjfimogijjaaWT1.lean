/- What the evaluator comes to, function by function: by the kernel. Nothing here is trusted. -/
import Derived.Test.YtochjfimogijjaaVQ4
import Derived.Test.YtochjfimogijjaaVX
namespace Go.Proofs.Ytochjfimogijjaa
open Go.Ev
set_option linter.unusedVariables false
/- slices.Index[[]int,int] -/
def t51_h : Hints := fun i => if i = 2 then some ([2, 3, 4, 5, 6, 9, 10, 11, 12, 13, 14, 15, 16, 17, 18], [], []) else none
def t51_lp2 (P : Program) (fn : Func) (N n : Nat) (x0 : D) (x1 : Int) (v8 : Int) : Option AV := evLoop (preL t51_h (sub [1, 0, 1, 0, 0] (bodyOf fn))) (evCode P (envH T7 []) t51_h N (sub [1, 0, 1, 0, 0] (bodyOf fn))) n ⟨[dat 27 x0, dat 3 (.lit (.int .i64 x1)), dead, dead, dead, dead, dead, dat 3 (.lit (.int .i64 ((elemsD x0).length : Int))), dat 3 (.lit (.int .i64 v8)), dead, dead, dead, dead, dead, dead, dead, dead, dead, dead], lookB []⟩ (blockK 0 (seqC P (envH T7 []) t51_h N (sub [1, 1] (bodyOf fn)) (finK P fn) ))
theorem t51_lp2_step  (N n : Nat) (x0 : D) (x1 : Int) (v8 : Int) : t51_lp2 Try.prog Try.f51 N (n + 1) x0 x1 v8 =
  bif decide (v8 < ((elemsD x0).length : Int)) then
    bif (decide (0 ≤ v8) && decide (v8 < ((elemsD x0).length : Int))) then
      bif (x1 == (intD ((elemsD x0).getD (v8).toNat .nil))) then
        some (dat 3 (.lit (.int .i64 v8)))
      else t51_lp2 Try.prog Try.f51 N n x0 x1 (IntKind.wrap .i64 (v8 + 1))
    else none
  else some (dat 3 (.lit (.int .i64 (-1)))) := by kernel_rfl
theorem t51 (N : Nat) (x0 : D) (x1 : Int) : evFn Try.prog (envH T7 []) t51_h N Try.f51 [dat 27 x0, dat 3 (.lit (.int .i64 x1))] =
  t51_lp2 Try.prog Try.f51 N N x0 x1 0 := by kernel_rfl

/- roadbook/expr.formOf -/
def t39_h : Hints := fun _ =>  none
theorem t39 (N : Nat) (x0 : Int) : evFn Try.prog (envH T7 []) t39_h N Try.f39 [dat 3 (.lit (.int .i64 x0))] =
  bif (decide (0 ≤ x0) && decide (x0 < (11 : Int))) then
    some (dat 56 (fieldD (.agg [.agg [.held .nilFunc, .held .nilFunc, .held .nilFunc], .agg [.held .nilFunc, .held .nilFunc, .held .nilFunc], .agg [.held .nilFunc, .held (.func (.func 52) #[] #[]), .held .nilFunc], .agg [.held .nilFunc, .held (.func (.func 53) #[] #[]), .held .nilFunc], .agg [.held .nilFunc, .held (.func (.func 54) #[] #[]), .held .nilFunc], .agg [.held .nilFunc, .held (.func (.func 55) #[] #[]), .held .nilFunc], .agg [.held .nilFunc, .held (.func (.func 56) #[] #[]), .held .nilFunc], .agg [.held .nilFunc, .held (.func (.func 57) #[] #[]), .held .nilFunc], .agg [.held .nilFunc, .held .nilFunc, .held (.func (.func 58) #[] #[])], .agg [.held .nilFunc, .held .nilFunc, .held (.func (.func 59) #[] #[])], .agg [.held (.func (.func 60) #[] #[]), .held .nilFunc, .held .nilFunc]]) (x0).toNat))
  else none := by kernel_rfl

/- (roadbook/expr.form).takes -/
def t46_h : Hints := fun _ =>  none
theorem t46 (N : Nat) (x0 : D) (x1 : Int) : evFn Try.prog (envH T7 []) t46_h N Try.f46 [dat 56 x0, dat 3 (.lit (.int .i64 x1))] =
  bif (!(isNilF (fieldD x0 0))) then
    some (dat 4 (.lit (.bool (x1 == 1))))
  else bif (!(isNilF (fieldD x0 1))) then
      some (dat 4 (.lit (.bool (x1 == 2))))
    else bif (!(isNilF (fieldD x0 2))) then
        some (dat 4 (.lit (.bool (decide (x1 ≤ 4)))))
      else some (dat 4 (.lit (.bool (x1 == 0)))) := by kernel_rfl

/- roadbook/roadbookref02.Ints -/
def t16_h : Hints := fun i => if i = 4 then some ([2, 3, 4, 6, 7, 8, 9, 10, 11, 12, 13, 14, 15, 16, 17, 18, 19, 20, 21, 22, 23, 24, 25], [], []) else none
def t16_lp4 (P : Program) (fn : Func) (N n : Nat) (x0 : D) (x1 : D) (v5 : Int) : Option AV := evLoop (preL t16_h (sub [1, 1, 0, 1, 0, 0] (bodyOf fn))) (evCode P (envH T7 []) t16_h N (sub [1, 1, 0, 1, 0, 0] (bodyOf fn))) n ⟨[dat 27 x0, dat 27 x1, dead, dead, dead, dat 3 (.lit (.int .i64 v5)), dead, dead, dead, dead, dead, dead, dead, dead, dead, dead, dead, dead, dead, dead, dead, dead, dead, dead, dead, dead], lookB []⟩ (blockK 0 (seqC P (envH T7 []) t16_h N (sub [1, 1, 1] (bodyOf fn)) (finK P fn) ))
theorem t16_lp4_step  (N n : Nat) (x0 : D) (x1 : D) (v5 : Int) : t16_lp4 Try.prog Try.f16 N (n + 1) x0 x1 v5 =
  bif decide (v5 < ((elemsD x0).length : Int)) then
    bif (decide (0 ≤ v5) && decide (v5 < ((elemsD x0).length : Int))) then
      bif (decide (0 ≤ v5) && decide (v5 < ((elemsD x1).length : Int))) then
        bif ((intD ((elemsD x0).getD (v5).toNat .nil)) != (intD ((elemsD x1).getD (v5).toNat .nil))) then
          some (dat 4 (.lit (.bool false)))
        else t16_lp4 Try.prog Try.f16 N n x0 x1 (IntKind.wrap .i64 (v5 + 1))
      else none
    else none
  else some (dat 4 (.lit (.bool true))) := by kernel_rfl
theorem t16 (N : Nat) (x0 : D) (x1 : D) : evFn Try.prog (envH T7 []) t16_h N Try.f16 [dat 27 x0, dat 27 x1] =
  bif (((elemsD x0).length : Int) != ((elemsD x1).length : Int)) then
    some (dat 4 (.lit (.bool false)))
  else t16_lp4 Try.prog Try.f16 N N x0 x1 0 := by kernel_rfl

/- (roadbook/expr.form).come -/
def t40_2_h : Hints := fun _ =>  none
theorem t40_2 (N : Nat) (x1 : D) : evFn Try.prog (envH T7 []) t40_2_h N Try.f40 [dat 56 (.agg [.held .nilFunc, .held (.func (.func 52) #[] #[]), .held .nilFunc]), dat 28 x1] =
  bif (decide (0 ≤ (0 : Int)) && decide ((0 : Int) < ((elemsD x1).length : Int))) then
    bif (decide (0 ≤ (1 : Int)) && decide ((1 : Int) < ((elemsD x1).length : Int))) then
      some (dat 23 (addD ((elemsD x1).getD 0 .nil) ((elemsD x1).getD 1 .nil)))
    else none
  else none := by kernel_rfl

/- (roadbook/expr.form).come -/
def t40_3_h : Hints := fun _ =>  none
theorem t40_3 (N : Nat) (x1 : D) : evFn Try.prog (envH T7 []) t40_3_h N Try.f40 [dat 56 (.agg [.held .nilFunc, .held (.func (.func 53) #[] #[]), .held .nilFunc]), dat 28 x1] =
  bif (decide (0 ≤ (0 : Int)) && decide ((0 : Int) < ((elemsD x1).length : Int))) then
    bif (decide (0 ≤ (1 : Int)) && decide ((1 : Int) < ((elemsD x1).length : Int))) then
      some (dat 23 (subD ((elemsD x1).getD 0 .nil) ((elemsD x1).getD 1 .nil)))
    else none
  else none := by kernel_rfl

/- (roadbook/expr.form).come -/
def t40_4_h : Hints := fun _ =>  none
theorem t40_4 (N : Nat) (x1 : D) : evFn Try.prog (envH T7 []) t40_4_h N Try.f40 [dat 56 (.agg [.held .nilFunc, .held (.func (.func 54) #[] #[]), .held .nilFunc]), dat 28 x1] =
  bif (decide (0 ≤ (0 : Int)) && decide ((0 : Int) < ((elemsD x1).length : Int))) then
    bif (decide (0 ≤ (1 : Int)) && decide ((1 : Int) < ((elemsD x1).length : Int))) then
      some (dat 23 (mulD ((elemsD x1).getD 0 .nil) ((elemsD x1).getD 1 .nil)))
    else none
  else none := by kernel_rfl

/- (roadbook/expr.form).come -/
def t40_5_h : Hints := fun _ =>  none
theorem t40_5 (N : Nat) (x1 : D) : evFn Try.prog (envH T7 []) t40_5_h N Try.f40 [dat 56 (.agg [.held .nilFunc, .held (.func (.func 55) #[] #[]), .held .nilFunc]), dat 28 x1] =
  bif (decide (0 ≤ (0 : Int)) && decide ((0 : Int) < ((elemsD x1).length : Int))) then
    bif (decide (0 ≤ (1 : Int)) && decide ((1 : Int) < ((elemsD x1).length : Int))) then
      some (dat 23 (divD ((elemsD x1).getD 0 .nil) ((elemsD x1).getD 1 .nil)))
    else none
  else none := by kernel_rfl

/- (roadbook/expr.form).come -/
def t40_6_h : Hints := fun _ =>  none
theorem t40_6 (N : Nat) (x1 : D) : evFn Try.prog (envH T7 []) t40_6_h N Try.f40 [dat 56 (.agg [.held .nilFunc, .held (.func (.func 56) #[] #[]), .held .nilFunc]), dat 28 x1] =
  bif (decide (0 ≤ (0 : Int)) && decide ((0 : Int) < ((elemsD x1).length : Int))) then
    bif (decide (0 ≤ (1 : Int)) && decide ((1 : Int) < ((elemsD x1).length : Int))) then
      some (dat 23 (eqV ((elemsD x1).getD 0 .nil) ((elemsD x1).getD 1 .nil)))
    else none
  else none := by kernel_rfl

/- (roadbook/expr.form).come -/
def t40_7_h : Hints := fun _ =>  none
theorem t40_7 (N : Nat) (x1 : D) : evFn Try.prog (envH T7 []) t40_7_h N Try.f40 [dat 56 (.agg [.held .nilFunc, .held (.func (.func 57) #[] #[]), .held .nilFunc]), dat 28 x1] =
  bif (decide (0 ≤ (0 : Int)) && decide ((0 : Int) < ((elemsD x1).length : Int))) then
    bif (decide (0 ≤ (1 : Int)) && decide ((1 : Int) < ((elemsD x1).length : Int))) then
      some (dat 23 (ltV ((elemsD x1).getD 0 .nil) ((elemsD x1).getD 1 .nil)))
    else none
  else none := by kernel_rfl

/- (roadbook/expr.form).come -/
def t40_8_h : Hints := fun _ =>  none
theorem t40_8 (N : Nat) (x1 : D) : evFn Try.prog (envH T7 []) t40_8_h N Try.f40 [dat 56 (.agg [.held .nilFunc, .held .nilFunc, .held (.func (.func 58) #[] #[])]), dat 28 x1] =
  some (dat 23 (andD (elemsD x1))) := by kernel_rfl

/- (roadbook/expr.form).come -/
def t40_9_h : Hints := fun _ =>  none
theorem t40_9 (N : Nat) (x1 : D) : evFn Try.prog (envH T7 []) t40_9_h N Try.f40 [dat 56 (.agg [.held .nilFunc, .held .nilFunc, .held (.func (.func 59) #[] #[])]), dat 28 x1] =
  some (dat 23 (orD (elemsD x1))) := by kernel_rfl

/- (roadbook/expr.form).come -/
def t40_10_h : Hints := fun _ =>  none
theorem t40_10 (N : Nat) (x1 : D) : evFn Try.prog (envH T7 []) t40_10_h N Try.f40 [dat 56 (.agg [.held (.func (.func 60) #[] #[]), .held .nilFunc, .held .nilFunc]), dat 28 x1] =
  bif (decide (0 ≤ (0 : Int)) && decide ((0 : Int) < ((elemsD x1).length : Int))) then
    some (dat 23 (notD ((elemsD x1).getD 0 .nil)))
  else none := by kernel_rfl

end Go.Proofs.Ytochjfimogijjaa
