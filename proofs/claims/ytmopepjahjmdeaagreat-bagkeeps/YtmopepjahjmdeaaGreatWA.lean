/- What the evaluator comes to, function by function: by the kernel. Nothing here is trusted. -/
import Derived.Test.YtmopepjahjmdeaaGreatVQ
import Derived.Test.YtmopepjahjmdeaaGreatVX
import Derived.Test.YtmopepjahjmdeaaGreatV1
import Derived.Test.YtmopepjahjmdeaaGreatTryShelf
namespace Go.Proofs.YtmopepjahjmdeaaGreat
namespace X
open Go.Ev
set_option linter.unusedVariables false
/- slices.Index[[]int,int] -/
def t35_h : Hints := fun i => if i = 2 then some ([2, 3, 4, 5, 6, 9, 10, 11, 12, 13, 14, 15, 16, 17, 18], [], []) else none
def t35_lp2 (P : Program) (fn : Func) (N n : Nat) (x0 : D) (x1 : Int) (v8 : Int) : Option AV := evLoop (preL t35_h (sub [1, 0, 1, 0, 0] (bodyOf fn))) (evCode P (envH T7 []) t35_h N (sub [1, 0, 1, 0, 0] (bodyOf fn))) n ⟨[dat 22 x0, dat 3 (.lit (.int .i64 x1)), dead, dead, dead, dead, dead, dat 3 (.lit (.int .i64 ((elemsD x0).length : Int))), dat 3 (.lit (.int .i64 v8)), dead, dead, dead, dead, dead, dead, dead, dead, dead, dead], lookB []⟩ (blockK 0 (seqC P (envH T7 []) t35_h N (sub [1, 1] (bodyOf fn)) (finK P fn) ))
theorem t35_lp2_step  (N n : Nat) (x0 : D) (x1 : Int) (v8 : Int) : t35_lp2 Tryz.prog Tryz.f35 N (n + 1) x0 x1 v8 =
  bif decide (v8 < ((elemsD x0).length : Int)) then
    bif (decide (0 ≤ v8) && decide (v8 < ((elemsD x0).length : Int))) then
      bif (x1 == (intD ((elemsD x0).getD (v8).toNat .nil))) then
        some (dat 3 (.lit (.int .i64 v8)))
      else t35_lp2 Tryz.prog Tryz.f35 N n x0 x1 (IntKind.wrap .i64 (v8 + 1))
    else none
  else some (dat 3 (.lit (.int .i64 (-1)))) := by kernel_rfl
theorem t35 (N : Nat) (x0 : D) (x1 : Int) : evFn Tryz.prog (envH T7 []) t35_h N Tryz.f35 [dat 22 x0, dat 3 (.lit (.int .i64 x1))] =
  t35_lp2 Tryz.prog Tryz.f35 N N x0 x1 0 := by kernel_rfl

/- roadbook/expr.formOf -/
def t68_h : Hints := fun _ =>  none
theorem t68 (N : Nat) (x0 : Int) : evFn Tryz.prog (envH T7 []) t68_h N Tryz.f68 [dat 3 (.lit (.int .i64 x0))] =
  bif (decide (0 ≤ x0) && decide (x0 < (11 : Int))) then
    some (dat 98 (fieldD (.agg [.agg [.held .nilFunc, .held .nilFunc, .held .nilFunc], .agg [.held .nilFunc, .held .nilFunc, .held .nilFunc], .agg [.held .nilFunc, .held (.func (.func 93) #[] #[]), .held .nilFunc], .agg [.held .nilFunc, .held (.func (.func 94) #[] #[]), .held .nilFunc], .agg [.held .nilFunc, .held (.func (.func 95) #[] #[]), .held .nilFunc], .agg [.held .nilFunc, .held (.func (.func 96) #[] #[]), .held .nilFunc], .agg [.held .nilFunc, .held (.func (.func 97) #[] #[]), .held .nilFunc], .agg [.held .nilFunc, .held (.func (.func 98) #[] #[]), .held .nilFunc], .agg [.held .nilFunc, .held .nilFunc, .held (.func (.func 99) #[] #[])], .agg [.held .nilFunc, .held .nilFunc, .held (.func (.func 100) #[] #[])], .agg [.held (.func (.func 101) #[] #[]), .held .nilFunc, .held .nilFunc]]) (x0).toNat))
  else none := by kernel_rfl

/- (roadbook/expr.form).takes -/
def t69_h : Hints := fun _ =>  none
theorem t69 (N : Nat) (x0 : D) (x1 : Int) : evFn Tryz.prog (envH T7 []) t69_h N Tryz.f69 [dat 98 x0, dat 3 (.lit (.int .i64 x1))] =
  bif (!(isNilF (fieldD x0 0))) then
    some (dat 4 (.lit (.bool (x1 == 1))))
  else bif (!(isNilF (fieldD x0 1))) then
      some (dat 4 (.lit (.bool (x1 == 2))))
    else bif (!(isNilF (fieldD x0 2))) then
        some (dat 4 (.lit (.bool (decide (x1 ≤ 4)))))
      else some (dat 4 (.lit (.bool (x1 == 0)))) := by kernel_rfl

/- roadbook/roadbookref02.Ints -/
def t23_h : Hints := fun i => if i = 4 then some ([2, 3, 4, 6, 7, 8, 9, 10, 11, 12, 13, 14, 15, 16, 17, 18, 19, 20, 21, 22, 23, 24, 25], [], []) else none
def t23_lp4 (P : Program) (fn : Func) (N n : Nat) (x0 : D) (x1 : D) (v5 : Int) : Option AV := evLoop (preL t23_h (sub [1, 1, 0, 1, 0, 0] (bodyOf fn))) (evCode P (envH T7 []) t23_h N (sub [1, 1, 0, 1, 0, 0] (bodyOf fn))) n ⟨[dat 22 x0, dat 22 x1, dead, dead, dead, dat 3 (.lit (.int .i64 v5)), dead, dead, dead, dead, dead, dead, dead, dead, dead, dead, dead, dead, dead, dead, dead, dead, dead, dead, dead, dead], lookB []⟩ (blockK 0 (seqC P (envH T7 []) t23_h N (sub [1, 1, 1] (bodyOf fn)) (finK P fn) ))
theorem t23_lp4_step  (N n : Nat) (x0 : D) (x1 : D) (v5 : Int) : t23_lp4 Tryz.prog Tryz.f23 N (n + 1) x0 x1 v5 =
  bif decide (v5 < ((elemsD x0).length : Int)) then
    bif (decide (0 ≤ v5) && decide (v5 < ((elemsD x0).length : Int))) then
      bif (decide (0 ≤ v5) && decide (v5 < ((elemsD x1).length : Int))) then
        bif ((intD ((elemsD x0).getD (v5).toNat .nil)) != (intD ((elemsD x1).getD (v5).toNat .nil))) then
          some (dat 4 (.lit (.bool false)))
        else t23_lp4 Tryz.prog Tryz.f23 N n x0 x1 (IntKind.wrap .i64 (v5 + 1))
      else none
    else none
  else some (dat 4 (.lit (.bool true))) := by kernel_rfl
theorem t23 (N : Nat) (x0 : D) (x1 : D) : evFn Tryz.prog (envH T7 []) t23_h N Tryz.f23 [dat 22 x0, dat 22 x1] =
  bif (((elemsD x0).length : Int) != ((elemsD x1).length : Int)) then
    some (dat 4 (.lit (.bool false)))
  else t23_lp4 Tryz.prog Tryz.f23 N N x0 x1 0 := by kernel_rfl

/- (roadbook/expr.form).come -/
def t92_2_h : Hints := fun _ =>  none
theorem t92_2 (N : Nat) (x1 : D) : evFn Tryz.prog (envH T7 []) t92_2_h N Tryz.f92 [dat 98 (.agg [.held .nilFunc, .held (.func (.func 93) #[] #[]), .held .nilFunc]), dat 46 x1] =
  bif (decide (0 ≤ (0 : Int)) && decide ((0 : Int) < ((elemsD x1).length : Int))) then
    bif (decide (0 ≤ (1 : Int)) && decide ((1 : Int) < ((elemsD x1).length : Int))) then
      some (dat 34 (addD ((elemsD x1).getD 0 .nil) ((elemsD x1).getD 1 .nil)))
    else none
  else none := by kernel_rfl

/- (roadbook/expr.form).come -/
def t92_3_h : Hints := fun _ =>  none
theorem t92_3 (N : Nat) (x1 : D) : evFn Tryz.prog (envH T7 []) t92_3_h N Tryz.f92 [dat 98 (.agg [.held .nilFunc, .held (.func (.func 94) #[] #[]), .held .nilFunc]), dat 46 x1] =
  bif (decide (0 ≤ (0 : Int)) && decide ((0 : Int) < ((elemsD x1).length : Int))) then
    bif (decide (0 ≤ (1 : Int)) && decide ((1 : Int) < ((elemsD x1).length : Int))) then
      some (dat 34 (subD ((elemsD x1).getD 0 .nil) ((elemsD x1).getD 1 .nil)))
    else none
  else none := by kernel_rfl

/- (roadbook/expr.form).come -/
def t92_4_h : Hints := fun _ =>  none
theorem t92_4 (N : Nat) (x1 : D) : evFn Tryz.prog (envH T7 []) t92_4_h N Tryz.f92 [dat 98 (.agg [.held .nilFunc, .held (.func (.func 95) #[] #[]), .held .nilFunc]), dat 46 x1] =
  bif (decide (0 ≤ (0 : Int)) && decide ((0 : Int) < ((elemsD x1).length : Int))) then
    bif (decide (0 ≤ (1 : Int)) && decide ((1 : Int) < ((elemsD x1).length : Int))) then
      some (dat 34 (mulD ((elemsD x1).getD 0 .nil) ((elemsD x1).getD 1 .nil)))
    else none
  else none := by kernel_rfl

/- (roadbook/expr.form).come -/
def t92_5_h : Hints := fun _ =>  none
theorem t92_5 (N : Nat) (x1 : D) : evFn Tryz.prog (envH T7 []) t92_5_h N Tryz.f92 [dat 98 (.agg [.held .nilFunc, .held (.func (.func 96) #[] #[]), .held .nilFunc]), dat 46 x1] =
  bif (decide (0 ≤ (0 : Int)) && decide ((0 : Int) < ((elemsD x1).length : Int))) then
    bif (decide (0 ≤ (1 : Int)) && decide ((1 : Int) < ((elemsD x1).length : Int))) then
      some (dat 34 (divD ((elemsD x1).getD 0 .nil) ((elemsD x1).getD 1 .nil)))
    else none
  else none := by kernel_rfl

/- (roadbook/expr.form).come -/
def t92_6_h : Hints := fun _ =>  none
theorem t92_6 (N : Nat) (x1 : D) : evFn Tryz.prog (envH T7 []) t92_6_h N Tryz.f92 [dat 98 (.agg [.held .nilFunc, .held (.func (.func 97) #[] #[]), .held .nilFunc]), dat 46 x1] =
  bif (decide (0 ≤ (0 : Int)) && decide ((0 : Int) < ((elemsD x1).length : Int))) then
    bif (decide (0 ≤ (1 : Int)) && decide ((1 : Int) < ((elemsD x1).length : Int))) then
      some (dat 34 (eqV ((elemsD x1).getD 0 .nil) ((elemsD x1).getD 1 .nil)))
    else none
  else none := by kernel_rfl

/- (roadbook/expr.form).come -/
def t92_7_h : Hints := fun _ =>  none
theorem t92_7 (N : Nat) (x1 : D) : evFn Tryz.prog (envH T7 []) t92_7_h N Tryz.f92 [dat 98 (.agg [.held .nilFunc, .held (.func (.func 98) #[] #[]), .held .nilFunc]), dat 46 x1] =
  bif (decide (0 ≤ (0 : Int)) && decide ((0 : Int) < ((elemsD x1).length : Int))) then
    bif (decide (0 ≤ (1 : Int)) && decide ((1 : Int) < ((elemsD x1).length : Int))) then
      some (dat 34 (ltV ((elemsD x1).getD 0 .nil) ((elemsD x1).getD 1 .nil)))
    else none
  else none := by kernel_rfl

/- (roadbook/expr.form).come -/
def t92_8_h : Hints := fun _ =>  none
theorem t92_8 (N : Nat) (x1 : D) : evFn Tryz.prog (envH T7 []) t92_8_h N Tryz.f92 [dat 98 (.agg [.held .nilFunc, .held .nilFunc, .held (.func (.func 99) #[] #[])]), dat 46 x1] =
  some (dat 34 (andD (elemsD x1))) := by kernel_rfl

/- (roadbook/expr.form).come -/
def t92_9_h : Hints := fun _ =>  none
theorem t92_9 (N : Nat) (x1 : D) : evFn Tryz.prog (envH T7 []) t92_9_h N Tryz.f92 [dat 98 (.agg [.held .nilFunc, .held .nilFunc, .held (.func (.func 100) #[] #[])]), dat 46 x1] =
  some (dat 34 (orD (elemsD x1))) := by kernel_rfl

/- (roadbook/expr.form).come -/
def t92_10_h : Hints := fun _ =>  none
theorem t92_10 (N : Nat) (x1 : D) : evFn Tryz.prog (envH T7 []) t92_10_h N Tryz.f92 [dat 98 (.agg [.held (.func (.func 101) #[] #[]), .held .nilFunc, .held .nilFunc]), dat 46 x1] =
  bif (decide (0 ≤ (0 : Int)) && decide ((0 : Int) < ((elemsD x1).length : Int))) then
    some (dat 34 (notD ((elemsD x1).getD 0 .nil)))
  else none := by kernel_rfl

end X
end Go.Proofs.YtmopepjahjmdeaaGreat

namespace Go.Proofs.YtmopepjahjmdeaaGreat
namespace X
open Go.Ev
set_option linter.unusedVariables false
set_option linter.unusedSimpArgs false

theorem n27 (x : D) : normD Tryz.prog 22 x = x := by kernel_rfl
theorem n26 (x : D) : normD Tryz.prog 36 x = x := by kernel_rfl
theorem n56 (x : D) : normD Tryz.prog 98 x = x := by kernel_rfl
theorem m56 (x : D) : mkRes Tryz.prog 98 x = dat 98 x := by kernel_rfl
theorem m27 (x : D) : mkRes Tryz.prog 22 x = dat 22 x := by kernel_rfl
theorem u27 : Tryz.prog.underlying 22 = some (.slice 3) := by kernel_rfl
theorem u24 : Tryz.prog.underlying 26 = some (.slice 36) := by kernel_rfl

theorem ty27 {n : Nat} {x : D} (h : Ty Tryz.prog n 22 x) : ∃ es, x = .slice es [] ∧ es.length ≤ maxLen ∧ ∀ y ∈ es, ∃ z, y = litI z ∧ inR z = true := by
  cases n with
  | zero => exact h.elim
  | succ n =>
    unfold Ty at h
    rw [u27] at h
    split at h <;> try (exact h.elim)
    all_goals try (simp_all; done)
    rename_i e es sp heq
    cases heq
    obtain ⟨rfl, hl, hp⟩ := h
    exact ⟨es, rfl, hl, fun y hy => ty3' (hp y hy)⟩

theorem len27 {n : Nat} {x : D} (hx : Ty Tryz.prog n 22 x) : (elemsD x).length ≤ maxLen := by
  obtain ⟨es, rfl, hl, _⟩ := ty27 hx
  exact hl

theorem wrap_step {i n : Nat} (hn : n ≤ maxLen) (h : i < n) : IntKind.wrap .i64 ((i : Int) + 1) = ((i + 1 : Nat) : Int) := by
  rw [wrap_in]
  · omega
  · rw [inR_iff]; unfold maxLen at hn; omega

theorem getD_lt {l : List D} {i : Nat} (h : i < l.length) : l.getD i .nil = l[i] := by simp [List.getD, h]

/-! ### slices.Index -/
theorem idx_loop {N : Nat} {x0 : D} {x1 : Int} (hl : (elemsD x0).length ≤ maxLen) : ∀ (n i : Nat), i ≤ (elemsD x0).length → (elemsD x0).length - i < n →
    t35_lp2 Tryz.prog Tryz.f35 N n x0 x1 (i : Int) = some (dat 3 (.lit (.int .i64 (Lib.idxFrom (((elemsD x0).drop i).map intD) x1 i))))
  | 0, i, _, h => by omega
  | n + 1, i, hi, h => by
    rw [t35_lp2_step]
    by_cases hlt : i < (elemsD x0).length
    · have h1 : decide ((i : Int) < ((elemsD x0).length : Int)) = true := by simpa using hlt
      rw [idx_ok hlt, h1, cond_true, cond_true, List.drop_eq_getElem_cons hlt, List.map_cons, Int.toNat_natCast, getD_lt hlt, Lib.idxFrom]
      rw [wrap_step hl hlt, idx_loop hl n (i + 1) (by omega) (by omega)]
      by_cases he : intD (elemsD x0)[i] = x1
      · have : (x1 == intD (elemsD x0)[i]) = true := by simp [he]
        rw [this, cond_true, if_pos he]
      · have : (x1 == intD (elemsD x0)[i]) = false := by
          rw [beq_eq_false_iff_ne]; exact fun hh => he hh.symm
        rw [this, cond_false, if_neg he]
    · have h1 : decide ((i : Int) < ((elemsD x0).length : Int)) = false := by simpa using hlt
      have h2 : (elemsD x0).drop i = [] := List.drop_of_length_le (by omega)
      rw [h1, h2, cond_false]
      rfl

def e35 : FuncId × TypeId × (List AV → Bool) × (List AV → Option D) := (35, 3, yes, ent [22, 3] (f2 fun x y => some (.lit (.int .i64 (Lib.idxOf ((elemsD x).map intD) (intD y))))))
theorem k35 : FnOK Tryz.prog 35 Tryz.f35 := ⟨Tryz.func35, rfl, by kernel_rfl⟩
theorem c35 : ∀ args d, e35.2.2.2 args = some d → CallOK Tryz.prog 35 args (mkRes Tryz.prog 3 d) :=
  ent2 k35 fun x y d h ⟨_, hx⟩ _ => by
    cases h
    rw [n27, n3]
    refine fn_ok hm env7 k35 ((t35 ((elemsD x).length + 1) x (intD y)).trans ?_)
    rw [m3]
    have := idx_loop (N := (elemsD x).length + 1) (x1 := intD y) (len27 hx) ((elemsD x).length + 1) 0 (Nat.zero_le _) (by omega)
    simpa [Lib.idxOf, intD] using this

/-! ### roadbookref02.Ints -/
theorem ints_loop {N : Nat} {x0 x1 : D} (hl : (elemsD x0).length ≤ maxLen) (hs : (elemsD x0).length = (elemsD x1).length) : ∀ (n i : Nat), i ≤ (elemsD x0).length → (elemsD x0).length - i < n →
    t23_lp4 Tryz.prog Tryz.f23 N n x0 x1 (i : Int) = some (dat 4 (.lit (.bool (intsB ((elemsD x0).drop i) ((elemsD x1).drop i)))))
  | 0, i, _, h => by omega
  | n + 1, i, hi, h => by
    rw [t23_lp4_step]
    by_cases hlt : i < (elemsD x0).length
    · have hlt1 : i < (elemsD x1).length := by omega
      have h1 : decide ((i : Int) < ((elemsD x0).length : Int)) = true := by simpa using hlt
      rw [idx_ok hlt, idx_ok hlt1, h1, cond_true, cond_true, cond_true, List.drop_eq_getElem_cons hlt, List.drop_eq_getElem_cons hlt1, Int.toNat_natCast, getD_lt hlt, getD_lt hlt1]
      rw [wrap_step hl hlt, ints_loop hl hs n (i + 1) (by omega) (by omega)]
      unfold intsB
      simp only [List.map_cons]
      by_cases he : intD (elemsD x0)[i] = intD (elemsD x1)[i]
      · have : (intD (elemsD x0)[i] != intD (elemsD x1)[i]) = false := by simp [he]
        rw [this, cond_false]
        simp [he]
      · have : (intD (elemsD x0)[i] != intD (elemsD x1)[i]) = true := by simp [he]
        rw [this, cond_true]
        have : (intD (elemsD x0)[i] :: ((elemsD x0).drop (i + 1)).map intD == intD (elemsD x1)[i] :: ((elemsD x1).drop (i + 1)).map intD) = false := by
          rw [beq_eq_false_iff_ne]
          intro hh
          injection hh with hh _
          exact he hh
        rw [this]
    · have h1 : decide ((i : Int) < ((elemsD x0).length : Int)) = false := by simpa using hlt
      have h2 : (elemsD x0).drop i = [] := List.drop_of_length_le (by omega)
      have h3 : (elemsD x1).drop i = [] := List.drop_of_length_le (by omega)
      rw [h1, h2, h3, cond_false]
      rfl

def e23 : FuncId × TypeId × (List AV → Bool) × (List AV → Option D) := (23, 4, yes, ent [22, 22] (f2 fun x y => some (.lit (.bool (intsB (elemsD x) (elemsD y))))))
theorem k23 : FnOK Tryz.prog 23 Tryz.f23 := ⟨Tryz.func23, rfl, by kernel_rfl⟩
theorem c23 : ∀ args d, e23.2.2.2 args = some d → CallOK Tryz.prog 23 args (mkRes Tryz.prog 4 d) :=
  ent2 k23 fun x y d h ⟨_, hx⟩ _ => by
    cases h
    rw [n27, n27]
    refine fn_ok hm env7 k23 ((t23 ((elemsD x).length + 1) x y).trans ?_)
    rw [m4]
    by_cases hs : (elemsD x).length = (elemsD y).length
    · have : (((elemsD x).length : Int) != ((elemsD y).length : Int)) = false := by simp [hs]
      rw [this, cond_false]
      have := ints_loop (N := (elemsD x).length + 1) (len27 hx) hs ((elemsD x).length + 1) 0 (Nat.zero_le _) (by omega)
      simpa [boolD] using this
    · have : (((elemsD x).length : Int) != ((elemsD y).length : Int)) = true := by simp; omega
      rw [this, cond_true]
      have h2 : intsB (elemsD x) (elemsD y) = false := by
        unfold intsB
        rw [beq_eq_false_iff_ne]
        intro hh
        have := congrArg List.length hh
        simp at this
        exact hs this
      rw [h2]
      rfl

/-! ### Forms -/
def fm (k : Nat) (f : FuncId) : D := .agg ((List.range 3).map fun j => .held (if j = k then .func (.func f) #[] #[] else .nilFunc))
def formL : List D := [fm 3 0, fm 3 0, fm 1 93, fm 1 94, fm 1 95, fm 1 96, fm 1 97, fm 1 98, fm 2 99, fm 2 100, fm 0 101]
def formT (n : Int) : D := fieldD (.agg formL) n.toNat
def e68 : FuncId × TypeId × (List AV → Bool) × (List AV → Option D) := (68, 98, fun xs => decide (0 ≤ intD (xs.getD 0 dead).d) && decide (intD (xs.getD 0 dead).d < 11), ent [3] (f1 fun x => some (formT (intD x))))
theorem k68 : FnOK Tryz.prog 68 Tryz.f68 := ⟨Tryz.func68, rfl, by kernel_rfl⟩
theorem c68 : ∀ args d, e68.2.2.1 args = true → e68.2.2.2 args = some d → CallOK Tryz.prog 68 args (mkRes Tryz.prog 98 d) := by
  intro args d hp hd
  have key : ∀ args d, ent [3] (f1 fun x => if (decide (0 ≤ intD x) && decide (intD x < 11)) = true then some (formT (intD x)) else none) args = some d → CallOK Tryz.prog 68 args (mkRes Tryz.prog 98 d) :=
    ent1 k68 fun x d h _ => by
      split at h
      · rename_i hc
        cases h
        rw [n3]
        refine fn_ok hm env7 k68 ((t68 1 (intD x)).trans ?_)
        rw [hc, m56]
        rfl
      · cases h
  refine key args d ?_
  unfold e68 ent at hd hp
  unfold ent
  simp only at hd hp
  split at hd
  · rename_i hs
    rw [if_pos hs]
    unfold shapeOK at hs
    match args, hs, hp, hd with
    | [x], _, hp, hd =>
      simp only [List.map_cons, List.map_nil, f1] at hd ⊢
      have hp' : (decide (0 ≤ intD x.d) && decide (intD x.d < 11)) = true := hp
      rw [if_pos hp']
      exact hd
    | [], hs, _, _ => simp at hs
    | _ :: _ :: _, hs, _, _ => simp at hs
  · cases hd

def e69 : FuncId × TypeId × (List AV → Bool) × (List AV → Option D) := (69, 4, yes, ent [98, 3] (f2 fun x y => some (.lit (.bool (takesB x (intD y))))))
theorem k69 : FnOK Tryz.prog 69 Tryz.f69 := ⟨Tryz.func69, rfl, by kernel_rfl⟩
theorem c69 : ∀ args d, e69.2.2.2 args = some d → CallOK Tryz.prog 69 args (mkRes Tryz.prog 4 d) :=
  ent2 k69 fun x y d h _ _ => by
    cases h
    rw [n56, n3]
    refine fn_ok hm env7 k69 ((t69 1 x (intD y)).trans ?_)
    rw [m4]
    unfold takesB
    cases isNilF (fieldD x 0) <;> cases isNilF (fieldD x 1) <;> cases isNilF (fieldD x 2) <;> rfl

/-! ### What forms come to -/
def isFn (f : FuncId) : D → Bool
  | .held (.func (.func g) _ _) => g == f
  | _ => false
/-- Is it the form of an op? -/
def isForm (k : Nat) (f : FuncId) (x : D) : Bool := (List.range 3).all fun j => if j = k then isFn f (fieldD x j) else isNilF (fieldD x j)
def comeK : List (Int × Nat × FuncId) := [(2, 1, 93), (3, 1, 94), (4, 1, 95), (5, 1, 96), (6, 1, 97), (7, 1, 98), (8, 2, 99), (9, 2, 100), (10, 0, 101)]
def opOf (x : D) : Int := ((comeK.find? fun c => isForm c.2.1 c.2.2 x).map (·.1)).getD 0
def comeD (x l : D) : D := opV (opOf x) (elemsD l)
def comeOK (x l : D) : Bool := comeK.any (fun c => isForm c.2.1 c.2.2 x) && takesB x ((elemsD l).length : Int)
def e92 : FuncId × TypeId × (List AV → Bool) × (List AV → Option D) := (92, 34, fun xs => comeOK (xs.getD 0 dead).d (xs.getD 1 dead).d, ent [98, 46] (f2 fun x y => some (comeD x y)))
theorem k92 : FnOK Tryz.prog 92 Tryz.f92 := ⟨Tryz.func92, rfl, by kernel_rfl⟩

theorem u56 : ∃ f g h : Field, Tryz.prog.underlying 98 = some (.struct #[f, g, h]) ∧ f.type = 95 ∧ g.type = 96 ∧ h.type = 89 := ⟨_, _, _, Tryz.underlying98, rfl, rfl, rfl⟩
theorem uf52 : ∃ a b c, Tryz.prog.underlying 95 = some (.func a b c) := ⟨_, _, _, Tryz.underlying95⟩
theorem uf53 : ∃ a b c, Tryz.prog.underlying 96 = some (.func a b c) := ⟨_, _, _, Tryz.underlying96⟩
theorem uf54 : ∃ a b c, Tryz.prog.underlying 89 = some (.func a b c) := ⟨_, _, _, Tryz.underlying89⟩
theorem tyF {n : Nat} {t : TypeId} {x : D} (hu : ∃ a b c, Tryz.prog.underlying t = some (.func a b c)) (h : Ty Tryz.prog n t x) : x = .held .nilFunc ∨ ∃ f, x = .held (.func (.func f) #[] #[]) := by
  obtain ⟨a, b, c, hu⟩ := hu
  cases n with
  | zero => exact h.elim
  | succ n =>
    unfold Ty at h
    rw [hu] at h
    split at h <;> try (exact h.elim)
    all_goals simp_all
theorem ty56 {n : Nat} {x : D} (h : Ty Tryz.prog n 98 x) : ∃ a b c, x = .agg [a, b, c] ∧ (∀ y ∈ [a, b, c], y = .held .nilFunc ∨ ∃ f, y = .held (.func (.func f) #[] #[])) := by
  obtain ⟨f, g, h', hu, hf, hg, hh⟩ := u56
  cases n with
  | zero => exact h.elim
  | succ n =>
    unfold Ty at h
    rw [hu] at h
    split at h <;> try (exact h.elim)
    all_goals try (simp_all; done)
    rename_i fs ps heq
    cases heq
    obtain ⟨hlen, hp⟩ := h
    match ps, hlen with
    | [a, b, c], _ =>
      have h0 := hp 0 f rfl
      have h1 := hp 1 g rfl
      have h2 := hp 2 h' rfl
      rw [hf] at h0
      rw [hg] at h1
      rw [hh] at h2
      refine ⟨a, b, c, rfl, fun y hy => ?_⟩
      simp only [List.mem_cons, List.not_mem_nil, or_false] at hy
      rcases hy with rfl | rfl | rfl
      · exact tyF uf52 h0
      · exact tyF uf53 h1
      · exact tyF uf54 h2

theorem isForm_eq {n : Nat} {x : D} (h : Ty Tryz.prog n 98 x) {k : Nat} {f : FuncId} (hk : k < 3) (hf : isForm k f x = true) : x = fm k f := by
  obtain ⟨a, b, c, rfl, hall⟩ := ty56 h
  have ha := hall a (by simp)
  have hb := hall b (by simp)
  have hc := hall c (by simp)
  unfold isForm at hf
  rw [List.all_eq_true] at hf
  have h0 := hf 0 (by simp)
  have h1 := hf 1 (by simp)
  have h2 := hf 2 (by simp)
  have key : ∀ (j : Nat) (y : D), (y = .held .nilFunc ∨ ∃ f, y = .held (.func (.func f) #[] #[])) → (if j = k then isFn f y else isNilF y) = true → y = .held (if j = k then .func (.func f) #[] #[] else .nilFunc) := by
    intro j y hy hh
    by_cases hj : j = k
    · rw [if_pos hj] at hh ⊢
      rcases hy with rfl | ⟨g, rfl⟩
      · simp [isFn] at hh
      · simp only [isFn, beq_iff_eq] at hh
        rw [hh]
    · rw [if_neg hj] at hh ⊢
      rcases hy with rfl | ⟨g, rfl⟩
      · rfl
      · simp [isNilF] at hh
  have e0 := key 0 a ha h0
  have e1 := key 1 b hb h1
  have e2 := key 2 c hc h2
  rw [e0, e1, e2]
  rfl

theorem find_form (k : Nat) (f : FuncId) (op : Int) (h : ((comeK.find? fun c => isForm c.2.1 c.2.2 (fm k f)).map (·.1)).getD 0 = op) : opOf (fm k f) = op := h

theorem c92 : ∀ args d, e92.2.2.1 args = true → e92.2.2.2 args = some d → CallOK Tryz.prog 92 args (mkRes Tryz.prog 34 d) := by
  intro args d hp hd
  have key : ∀ args d, ent [98, 46] (f2 fun x y => if comeOK x y = true then some (comeD x y) else none) args = some d → CallOK Tryz.prog 92 args (mkRes Tryz.prog 34 d) :=
    ent2 k92 fun x y d h ⟨_, hx⟩ _ => by
      split at h
      · rename_i hc
        cases h
        rw [n56, n28, m23]
        unfold comeOK at hc
        rw [Bool.and_eq_true, List.any_eq_true] at hc
        obtain ⟨⟨c, hcm, hform⟩, htake⟩ := hc
        have two : ∀ (l : List D), (((l.length : Int)) == 2) = true → ∀ (r : AV), (bif (decide (0 ≤ (0 : Int)) && decide ((0 : Int) < (l.length : Int))) then bif (decide (0 ≤ (1 : Int)) && decide ((1 : Int) < (l.length : Int))) then some r else none else none) = some r := by
          intro l hl r
          rw [beq_iff_eq] at hl
          rw [hl]
          rfl
        have fin : ∀ r, evFn Tryz.prog (envH T7 []) (fun _ => none) 1 Tryz.f92 [dat 98 x, dat 46 y] = some r → r = mkRes Tryz.prog 34 (comeD x y) → CallOK Tryz.prog 92 [dat 98 x, dat 46 y] (dat 34 (comeD x y)) := by
          intro r h1 h2
          have := fn_ok hm env7 k92 (h1.trans (by rw [h2]))
          rw [m23] at this
          exact this
        simp only [comeK, List.mem_cons, List.not_mem_nil, or_false] at hcm
        rcases hcm with rfl | rfl | rfl | rfl | rfl | rfl | rfl | rfl | rfl
        · have hxe := isForm_eq hx (by decide) hform; subst hxe
          exact fin _ ((t92_2 1 y).trans (two _ htake _)) (by rw [m23]; rfl)
        · have hxe := isForm_eq hx (by decide) hform; subst hxe
          exact fin _ ((t92_3 1 y).trans (two _ htake _)) (by rw [m23]; rfl)
        · have hxe := isForm_eq hx (by decide) hform; subst hxe
          exact fin _ ((t92_4 1 y).trans (two _ htake _)) (by rw [m23]; rfl)
        · have hxe := isForm_eq hx (by decide) hform; subst hxe
          exact fin _ ((t92_5 1 y).trans (two _ htake _)) (by rw [m23]; rfl)
        · have hxe := isForm_eq hx (by decide) hform; subst hxe
          exact fin _ ((t92_6 1 y).trans (two _ htake _)) (by rw [m23]; rfl)
        · have hxe := isForm_eq hx (by decide) hform; subst hxe
          exact fin _ ((t92_7 1 y).trans (two _ htake _)) (by rw [m23]; rfl)
        · have hxe := isForm_eq hx (by decide) hform; subst hxe
          exact fin _ (t92_8 1 y) (by rw [m23]; rfl)
        · have hxe := isForm_eq hx (by decide) hform; subst hxe
          exact fin _ (t92_9 1 y) (by rw [m23]; rfl)
        · have hxe := isForm_eq hx (by decide) hform; subst hxe
          refine fin (dat 34 (notD ((elemsD y).getD 0 .nil))) ((t92_10 1 y).trans ?_) (by rw [m23]; rfl)
          have hl : (elemsD y).length = 1 := by
            have : ((elemsD y).length : Int) = 1 := by simpa [takesB, fm, fieldD, partsD, isNilF] using htake
            omega
          rw [hl]
          rfl
      · cases h
  refine key args d ?_
  unfold e92 ent at hd hp
  unfold ent
  simp only at hd hp
  split at hd
  · rename_i hs
    rw [if_pos hs]
    unfold shapeOK at hs
    match args, hs, hp, hd with
    | [x, y], _, hp, hd =>
      simp only [List.map_cons, List.map_nil, f2] at hd ⊢
      have hp' : comeOK x.d y.d = true := hp
      rw [if_pos hp']
      exact hd
    | [], hs, _, _ => simp at hs
    | [_], hs, _, _ => simp at hs
    | _ :: _ :: _ :: _, hs, _, _ => simp at hs
  · cases hd

def U1 : Tab := e35 :: e23 :: e68 :: e69 :: e92 :: T7
theorem envU1 : EnvOK Tryz.prog (envH U1 []) := envOK_cons (envOK_cons (envOK_cons' (envOK_cons (envOK_cons' env7 c92) c69) c68) c23) c35

/-- An op's form takes as many as it must. -/
theorem takes_form {op : Int} (h0 : 0 ≤ op) (h1 : op < 11) (n : Int) : takesB (formT op) n = takesN op n := by
  have : op = 0 ∨ op = 1 ∨ op = 2 ∨ op = 3 ∨ op = 4 ∨ op = 5 ∨ op = 6 ∨ op = 7 ∨ op = 8 ∨ op = 9 ∨ op = 10 := by omega
  rcases this with rfl | rfl | rfl | rfl | rfl | rfl | rfl | rfl | rfl | rfl | rfl <;> rfl
theorem op_form {op : Int} (h0 : 2 ≤ op) (h1 : op < 11) : opOf (formT op) = op ∧ comeK.any (fun c => isForm c.2.1 c.2.2 (formT op)) = true := by
  have : op = 2 ∨ op = 3 ∨ op = 4 ∨ op = 5 ∨ op = 6 ∨ op = 7 ∨ op = 8 ∨ op = 9 ∨ op = 10 := by omega
  rcases this with rfl | rfl | rfl | rfl | rfl | rfl | rfl | rfl | rfl <;> exact ⟨rfl, rfl⟩

end X
end Go.Proofs.YtmopepjahjmdeaaGreat

namespace Go.Proofs.YtmopepjahjmdeaaGreat
namespace X
open Go.Ev
set_option linter.unusedVariables false
/- roadbook/expr.at -/
def t91_h : Hints := fun _ =>  none
theorem t91 (N : Nat) (x0 : Int) (x1 : D) (x2 : D) : evFn Tryz.prog (envH U1 []) t91_h N Tryz.f91 [dat 3 (.lit (.int .i64 x0)), dat 22 x1, dat 46 x2] =
  bif ((decide ((Lib.idxOf ((elemsD x1).map intD) x0) < 0)) == false) then
    bif ((decide ((Lib.idxOf ((elemsD x1).map intD) x0) ≥ ((elemsD x2).length : Int))) == false) then
      bif (decide (0 ≤ (Lib.idxOf ((elemsD x1).map intD) x0)) && decide ((Lib.idxOf ((elemsD x1).map intD) x0) < ((elemsD x2).length : Int))) then
        bif (!(mayB ((elemsD x2).getD (Lib.idxOf ((elemsD x1).map intD) x0).toNat .nil))) then
          some (dat 34 (.agg [.lit (.int .i64 2), .lit (.int .i64 0)]))
        else bif (decide (0 ≤ (Lib.idxOf ((elemsD x1).map intD) x0)) && decide ((Lib.idxOf ((elemsD x1).map intD) x0) < ((elemsD x2).length : Int))) then
            some (dat 34 ((elemsD x2).getD (Lib.idxOf ((elemsD x1).map intD) x0).toNat .nil))
          else none
      else none
    else some (dat 34 (.agg [.lit (.int .i64 2), .lit (.int .i64 0)]))
  else some (dat 34 (.agg [.lit (.int .i64 2), .lit (.int .i64 0)])) := by kernel_rfl

/- roadbook/expr.fits -/
def t51_h : Hints := fun _ =>  none
theorem t51 (N : Nat) (x0 : D) : evFn Tryz.prog (envH U1 []) t51_h N Tryz.f51 [dat 36 x0] =
  bif ((decide ((intD (fieldD x0 0)) < 0)) == false) then
    bif ((decide ((intD (fieldD x0 0)) ≥ 11)) == false) then
      bif ((decide ((intD (fieldD x0 1)) < 0)) == false) then
        bif ((decide ((intD (fieldD x0 1)) > 15)) == false) then
          bif (!(mayB (fieldD x0 2))) then
            some (dat 4 (.lit (.bool false)))
          else bif (((intD (fieldD x0 1)) != 0) == true) then
              bif (((intD (fieldD x0 0)) != 1) == false) then
                bif ((!(((intD (fieldD (fieldD x0 2) 0)) == 0) && (((intD (fieldD (fieldD x0 2) 1)) == 0) && true))) == true) then
                  bif ((intD (fieldD x0 0)) != 0) then
                    some (dat 4 (.lit (.bool false)))
                  else bif (decide (0 ≤ (intD (fieldD x0 0))) && decide ((intD (fieldD x0 0)) < 11)) then
                      some (dat 4 (.lit (.bool (takesB (formT (intD (fieldD x0 0))) ((elemsD (fieldD x0 3)).length : Int)))))
                    else none
                else bif (decide (0 ≤ (intD (fieldD x0 0))) && decide ((intD (fieldD x0 0)) < 11)) then
                    some (dat 4 (.lit (.bool (takesB (formT (intD (fieldD x0 0))) ((elemsD (fieldD x0 3)).length : Int)))))
                  else none
              else some (dat 4 (.lit (.bool false)))
            else bif ((!(((intD (fieldD (fieldD x0 2) 0)) == 0) && (((intD (fieldD (fieldD x0 2) 1)) == 0) && true))) == true) then
                bif ((intD (fieldD x0 0)) != 0) then
                  some (dat 4 (.lit (.bool false)))
                else bif (decide (0 ≤ (intD (fieldD x0 0))) && decide ((intD (fieldD x0 0)) < 11)) then
                    some (dat 4 (.lit (.bool (takesB (formT (intD (fieldD x0 0))) ((elemsD (fieldD x0 3)).length : Int)))))
                  else none
              else bif (decide (0 ≤ (intD (fieldD x0 0))) && decide ((intD (fieldD x0 0)) < 11)) then
                  some (dat 4 (.lit (.bool (takesB (formT (intD (fieldD x0 0))) ((elemsD (fieldD x0 3)).length : Int)))))
                else none
        else some (dat 4 (.lit (.bool false)))
      else some (dat 4 (.lit (.bool false)))
    else some (dat 4 (.lit (.bool false)))
  else some (dat 4 (.lit (.bool false))) := by kernel_rfl

end X
end Go.Proofs.YtmopepjahjmdeaaGreat

namespace Go.Proofs.YtmopepjahjmdeaaGreat
namespace X
open Go.Ev
set_option linter.unusedVariables false
set_option linter.unusedSimpArgs false

theorem u26 : ∃ f g h k : Field, Tryz.prog.underlying 36 = some (.struct #[f, g, h, k]) ∧ f.type = 3 ∧ g.type = 3 ∧ h.type = 34 ∧ k.type = 26 := ⟨_, _, _, _, Tryz.underlying36, rfl, rfl, rfl, rfl⟩
theorem ty26 {n : Nat} {x : D} (h : Ty Tryz.prog n 36 x) : ∃ a b c d m, n = m + 1 ∧ x = .agg [.lit (.int .i64 a), .lit (.int .i64 b), c, d] ∧ inR a = true ∧ inR b = true ∧ Ty Tryz.prog m 34 c ∧ Ty Tryz.prog m 26 d := by
  obtain ⟨f, g, h', k, hu, hf, hg, hh, hk⟩ := u26
  cases n with
  | zero => exact h.elim
  | succ n =>
    unfold Ty at h
    rw [hu] at h
    split at h <;> try (exact h.elim)
    all_goals try (simp_all; done)
    rename_i fs ps heq
    cases heq
    obtain ⟨hlen, hp⟩ := h
    match ps, hlen with
    | [a, b, c, d], _ =>
      have h0 := hp 0 f rfl
      have h1 := hp 1 g rfl
      have h2 := hp 2 h' rfl
      have h3 := hp 3 k rfl
      rw [hf] at h0
      rw [hg] at h1
      rw [hh] at h2
      rw [hk] at h3
      obtain ⟨z, ea, hz⟩ := ty3' h0
      obtain ⟨y, eb, hy⟩ := ty3' h1
      simp at ea eb
      subst ea eb
      exact ⟨z, y, c, d, n, rfl, rfl, hz, hy, h2, h3⟩
theorem ty24 {n : Nat} {x : D} (h : Ty Tryz.prog n 26 x) : ∃ es m, n = m + 1 ∧ x = .slice es [] ∧ es.length ≤ maxLen ∧ ∀ y ∈ es, Ty Tryz.prog m 36 y := by
  cases n with
  | zero => exact h.elim
  | succ n =>
    unfold Ty at h
    rw [u24] at h
    split at h <;> try (exact h.elim)
    all_goals simp_all
/-- Parts of an expression. -/
theorem ty_kids {n : Nat} {x : D} (h : Ty Tryz.prog n 36 x) : (kids x).length ≤ maxLen ∧ ∀ y ∈ kids x, ∃ m, Ty Tryz.prog m 36 y := by
  obtain ⟨a, b, c, d, m, rfl, rfl, _, _, _, hd⟩ := ty26 h
  obtain ⟨es, k, rfl, rfl, hl, hall⟩ := ty24 hd
  exact ⟨hl, fun y hy => ⟨k, hall y hy⟩⟩
theorem ty_cols {n : Nat} {x : D} (h : Ty Tryz.prog n 36 x) : inR (opI x) = true ∧ inR (colI x) = true := by
  obtain ⟨a, b, c, d, m, rfl, rfl, ha, hb, _, _⟩ := ty26 h
  exact ⟨ha, hb⟩
theorem ty_val {n : Nat} {x : D} (h : Ty Tryz.prog n 36 x) : ∃ k m, fieldD x 2 = vv k m ∧ inR k = true ∧ inR m = true := by
  obtain ⟨a, b, c, d, m, rfl, rfl, ha, hb, hc, _⟩ := ty26 h
  exact ty23 hc

theorem fits_tree (x0 : D) : (bif ((decide ((intD (fieldD x0 0)) < 0)) == false) then
    bif ((decide ((intD (fieldD x0 0)) ≥ 11)) == false) then
      bif ((decide ((intD (fieldD x0 1)) < 0)) == false) then
        bif ((decide ((intD (fieldD x0 1)) > 15)) == false) then
          bif (!(mayB (fieldD x0 2))) then
            some (dat 4 (.lit (.bool false)))
          else bif (((intD (fieldD x0 1)) != 0) == true) then
              bif (((intD (fieldD x0 0)) != 1) == false) then
                bif ((!(((intD (fieldD (fieldD x0 2) 0)) == 0) && (((intD (fieldD (fieldD x0 2) 1)) == 0) && true))) == true) then
                  bif ((intD (fieldD x0 0)) != 0) then
                    some (dat 4 (.lit (.bool false)))
                  else bif (decide (0 ≤ (intD (fieldD x0 0))) && decide ((intD (fieldD x0 0)) < 11)) then
                      some (dat 4 (.lit (.bool (takesB (formT (intD (fieldD x0 0))) ((elemsD (fieldD x0 3)).length : Int)))))
                    else none
                else bif (decide (0 ≤ (intD (fieldD x0 0))) && decide ((intD (fieldD x0 0)) < 11)) then
                    some (dat 4 (.lit (.bool (takesB (formT (intD (fieldD x0 0))) ((elemsD (fieldD x0 3)).length : Int)))))
                  else none
              else some (dat 4 (.lit (.bool false)))
            else bif ((!(((intD (fieldD (fieldD x0 2) 0)) == 0) && (((intD (fieldD (fieldD x0 2) 1)) == 0) && true))) == true) then
                bif ((intD (fieldD x0 0)) != 0) then
                  some (dat 4 (.lit (.bool false)))
                else bif (decide (0 ≤ (intD (fieldD x0 0))) && decide ((intD (fieldD x0 0)) < 11)) then
                    some (dat 4 (.lit (.bool (takesB (formT (intD (fieldD x0 0))) ((elemsD (fieldD x0 3)).length : Int)))))
                  else none
              else bif (decide (0 ≤ (intD (fieldD x0 0))) && decide ((intD (fieldD x0 0)) < 11)) then
                  some (dat 4 (.lit (.bool (takesB (formT (intD (fieldD x0 0))) ((elemsD (fieldD x0 3)).length : Int)))))
                else none
        else some (dat 4 (.lit (.bool false)))
      else some (dat 4 (.lit (.bool false)))
    else some (dat 4 (.lit (.bool false)))
  else some (dat 4 (.lit (.bool false))) : Option AV) = some (dat 4 (.lit (.bool (fitsB x0)))) := by
  unfold fitsB opI colI kids kk nn
  generalize hop : intD (fieldD x0 0) = op
  generalize intD (fieldD x0 1) = col
  generalize (elemsD (fieldD x0 3)).length = len
  generalize mayB (fieldD x0 2) = b5
  generalize (intD (fieldD (fieldD x0 2) 0) == 0) = b6
  generalize (intD (fieldD (fieldD x0 2) 1) == 0) = b7
  have e1 : decide (op < 0) = !decide (0 ≤ op) := by by_cases h : 0 ≤ op <;> simp [h] <;> omega
  have e2 : decide (op ≥ 11) = !decide (op < 11) := by by_cases h : op < 11 <;> simp [h] <;> omega
  have e3 : decide (col < 0) = !decide (0 ≤ col) := by by_cases h : 0 ≤ col <;> simp [h] <;> omega
  have e4 : decide (col > 15) = !decide (col ≤ 15) := by by_cases h : col ≤ 15 <;> simp [h] <;> omega
  have e5 : (col != 0) = !(col == 0) := rfl
  have e6 : (op != 1) = !(op == 1) := rfl
  have e7 : (op != 0) = !(op == 0) := rfl
  rw [e1, e2, e3, e4, e5, e6, e7]
  by_cases h0 : 0 ≤ op
  · by_cases h1 : op < 11
    · rw [takes_form h0 h1]
      have d1 : decide (0 ≤ op) = true := by simpa using h0
      have d2 : decide (op < 11) = true := by simpa using h1
      rw [d1, d2]
      generalize takesN op (len : Int) = b8
      generalize decide (0 ≤ col) = b1
      generalize decide (col ≤ 15) = b2
      generalize (col == 0) = b3
      generalize (op == 1) = b4
      generalize (op == 0) = b9
      cases b1 <;> cases b2 <;> cases b3 <;> cases b4 <;> cases b5 <;> cases b6 <;> cases b7 <;> cases b8 <;> cases b9 <;> rfl
    · have d1 : decide (0 ≤ op) = true := by simpa using h0
      have d2 : decide (op < 11) = false := by simpa using h1
      rw [d1, d2]
      rfl
  · have d1 : decide (0 ≤ op) = false := by simpa using h0
    rw [d1]
    rfl

def e51 : FuncId × TypeId × (List AV → Bool) × (List AV → Option D) := (51, 4, yes, ent [36] (f1 fun x => some (.lit (.bool (fitsB x)))))
theorem k51 : FnOK Tryz.prog 51 Tryz.f51 := ⟨Tryz.func51, rfl, by kernel_rfl⟩
theorem c51 : ∀ args d, e51.2.2.2 args = some d → CallOK Tryz.prog 51 args (mkRes Tryz.prog 4 d) :=
  ent1 k51 fun x d h _ => by
    cases h
    rw [n26]
    refine fn_ok hm envU1 k51 ((t51 1 x).trans ?_)
    rw [m4]
    exact fits_tree x

def e91 : FuncId × TypeId × (List AV → Bool) × (List AV → Option D) := (91, 34, yes, ent [3, 22, 46] (f3 fun x y z => some (atD (intD x) (elemsD y) (elemsD z))))
theorem k91 : FnOK Tryz.prog 91 Tryz.f91 := ⟨Tryz.func91, rfl, by kernel_rfl⟩
theorem c91 : ∀ args d, e91.2.2.2 args = some d → CallOK Tryz.prog 91 args (mkRes Tryz.prog 34 d) :=
  ent3 k91 fun x y z d h _ _ _ => by
    cases h
    rw [n3, n27, n28]
    refine fn_ok hm envU1 k91 ((t91 1 (intD x) y z).trans ?_)
    rw [m23]
    unfold atD
    generalize Lib.idxOf ((elemsD y).map intD) (intD x) = q
    generalize hn : ((elemsD z).length : Int) = n
    have hv : (.agg [.lit (.int .i64 2), .lit (.int .i64 0)] : D) = vv 2 0 := rfl
    rw [hv]
    by_cases h1 : q < 0
    · have d1 : decide (q < 0) = true := by simpa using h1
      rw [d1]
      rfl
    · have d1 : decide (q < 0) = false := by simpa using h1
      have d2 : decide (0 ≤ q) = true := by simp; omega
      by_cases h2 : q < n
      · have d3 : decide (q < n) = true := by simpa using h2
        have d4 : decide (q ≥ n) = false := by simp; omega
        rw [d1, d2, d3, d4]
        cases mayB ((elemsD z).getD q.toNat .nil) <;> rfl
      · have d4 : decide (q ≥ n) = true := by simp; omega
        rw [d1, d4]
        rfl

def U2 : Tab := e91 :: e51 :: U1
theorem envU2 : EnvOK Tryz.prog (envH U2 []) := envOK_cons (envOK_cons envU1 c51) c91

end X
end Go.Proofs.YtmopepjahjmdeaaGreat

namespace Go.Proofs.YtmopepjahjmdeaaGreat
namespace X
open Go.Ev
set_option linter.unusedVariables false
/- roadbook/expr.May$1 -/
def t50_h : Hints := fun _ =>  none
theorem t50 (N : Nat) (x0 : D) (x1 : Int) (q : Int) : evFnH Tryz.prog (envH U2 []) t50_h N Tryz.f50 [dat 36 x0, dat 3 (.lit (.int .i64 x1)), bxp 1000000 3] [⟨3, .lit (.int .i64 q), 0, none⟩] =
  bif ((decide ((IntKind.wrap .i64 (q + 1)) ≤ 30)) == true) then
    bif ((decide (x1 ≤ 6)) == true) then
      some (dat 4 (.lit (.bool (fitsB x0))), [some ⟨3, .lit (.int .i64 (IntKind.wrap .i64 (q + 1))), 0, none⟩])
    else some (dat 4 (.lit (.bool false)), [some ⟨3, .lit (.int .i64 (IntKind.wrap .i64 (q + 1))), 0, none⟩])
  else some (dat 4 (.lit (.bool false)), [some ⟨3, .lit (.int .i64 (IntKind.wrap .i64 (q + 1))), 0, none⟩]) := by kernel_rfl

/- roadbook/expr.Cols$1 -/
def t27_h : Hints := fun _ =>  none
theorem t27 (N : Nat) (x0 : D) (x1 : Int) (es : List D) : evFnH Tryz.prog (envH U2 []) t27_h N Tryz.f27 [dat 36 x0, dat 3 (.lit (.int .i64 x1)), bxp 1000000 22] [⟨22, .nil, 0, some (bxp 1000001 22)⟩, ⟨22, .slice es [], 4, none⟩] =
  bif ((intD (fieldD x0 0)) == 1) then
    bif decide ((es).length + 1 ≤ 2147483648) then
      some (dat 4 (.lit (.bool true)), [some ⟨22, .nil, 0, some (bxp 1000001 22)⟩, some ⟨22, .slice (es ++ [.lit (.int .i64 (intD (fieldD x0 1)))]) [], 1, none⟩])
    else none
  else some (dat 4 (.lit (.bool true)), [some ⟨22, .nil, 0, some (bxp 1000001 22)⟩, some ⟨22, .slice es [], 4, none⟩]) := by kernel_rfl

end X
end Go.Proofs.YtmopepjahjmdeaaGreat

namespace Go.Proofs.YtmopepjahjmdeaaGreat
namespace X
open Go.Ev
set_option linter.unusedVariables false
set_option linter.unusedSimpArgs false

abbrev HEnt := FuncId × TypeId × (List AV → List Ent → Bool) × (List AV → List Ent → Option (AV × List (Option Ent)))

/-! ### May's -/
def a50 : List AV := [dat 36 .nil, dat 3 .nil, bxp OID 3]
def b50 : List Ent := [⟨3, .nil, 0, none⟩]
def q50 : List D → List D → Bool := fun _ es => decide (0 ≤ intD (es.getD 0 .nil)) && decide (intD (es.getD 0 .nil) ≤ 1000)
def g50 : List D → List D → HRes
  | [e, dp, _], [n] => some (dat 4 (.lit (.bool (seeMay e (intD dp) (intD n)))), [some ⟨3, litI (intD n + 1), 0, none⟩])
  | _, _ => none
def h50 : HEnt := (50, 4, preH a50 b50 q50, entH a50 b50 g50)
theorem k50 : FnOK Tryz.prog 50 Tryz.f50 := ⟨Tryz.func50, rfl, by kernel_rfl⟩
theorem c50 : ∀ args hh r h', h50.2.2.1 args hh = true → h50.2.2.2 args hh = some (r, h') → HCallOK Tryz.prog 50 args hh r h' :=
  entH_ok rfl rfl fun ds es r h' hq hg => by
    match ds, es, hq, hg with
    | [e, dp, y], [n], hq, hg =>
      cases hg
      refine HCallOK.typed k50.ex fun ht he => ?_
      obtain ⟨_, t1⟩ := ht (dat 3 dp) (by simp [fillA, a50, dat, bxp]) rfl
      obtain ⟨_, t2⟩ := he ⟨3, n, 0, none⟩ (by simp [fillE, b50]) rfl rfl
      obtain ⟨z, rfl, hz⟩ := ty3' t1
      obtain ⟨q, rfl, hq2⟩ := ty3' t2
      have hq' : 0 ≤ q ∧ q ≤ 1000 := by simpa [q50, intD] using hq
      have hw : IntKind.wrap .i64 (q + 1) = q + 1 := wrap_in (by rw [inR_iff]; omega)
      refine fnH_ok hm envU2 k50 ((t50 1 e z q).trans ?_)
      rw [hw]
      show _ = some (dat 4 (.lit (.bool (bif decide (q + 1 ≤ 30) then bif decide (z ≤ 6) then fitsB e else false else false))), [some (⟨3, .lit (.int .i64 (q + 1)), 0, none⟩ : Ent)])
      generalize decide (q + 1 ≤ 30) = b1
      generalize decide (z ≤ 6) = b2
      cases b1 <;> cases b2 <;> rfl
    | [], _, _, hg => cases hg
    | [_], _, _, hg => cases hg
    | [_, _], _, _, hg => cases hg
    | _ :: _ :: _ :: _ :: _, _, _, hg => cases hg
    | [_, _, _], [], _, hg => cases hg
    | [_, _, _], _ :: _ :: _, _, hg => cases hg

/-! ### Cols' -/
def a27 : List AV := [dat 36 .nil, dat 3 .nil, bxp OID 22]
def b27 : List Ent := [⟨22, .nil, 0, some (bxp (OID + 1) 22)⟩, ⟨22, .nil, 4, none⟩]
def q27 : List D → List D → Bool := fun _ es => decide ((elemsD (es.getD 1 .nil)).length ≤ 1000)
def own (e : D) : List D := bif opI e == 1 then [litI (colI e)] else []
def g27 : List D → List D → HRes
  | [e, dp, _], [_, l] => some (dat 4 (.lit (.bool true)), [some ⟨22, .nil, 0, some (bxp (OID + 1) 22)⟩, some ⟨22, .slice (elemsD l ++ (bif opI e == 1 then [litI (colI e)] else [])) [], 1, none⟩])
  | _, _ => none
def h27 : HEnt := (27, 4, preH a27 b27 q27, entH a27 b27 g27)
theorem k27 : FnOK Tryz.prog 27 Tryz.f27 := ⟨Tryz.func27, rfl, by kernel_rfl⟩

/-- A row that is handed over is a list. -/
theorem row_slice {P : Program} {f : FuncId} {args : List AV} {h : List Ent} {r : AV} {h' : List (Option Ent)} (hfn : ∃ fn c, P.funcs[f]? = some fn ∧ fn.body = some c ∧ (fn.name == "runtime.NumGoroutine") = false) {e : Ent} (he : e ∈ h) (h0 : e.row ≠ 0)
    (H : (∃ es, e.d = .slice es []) → HCallOK P f args h r h') : HCallOK P f args h r h' := by
  refine ⟨hfn, fun w okA β vs hok hH hargs => ?_⟩
  refine (H ?_).call w okA β vs hok hH hargs
  obtain ⟨k, hk⟩ := List.getElem?_of_mem he
  have hb : bxOf h (OID + k) = some e := by
    unfold bxOf
    rw [if_neg (by omega), Nat.add_sub_cancel_left]
    exact hk
  obtain ⟨_, _, _, _, h4, _⟩ := hH.row _ e hb h0
  exact h4

theorem c27 : ∀ args hh r h', h27.2.2.1 args hh = true → h27.2.2.2 args hh = some (r, h') → HCallOK Tryz.prog 27 args hh r h' :=
  entH_ok rfl rfl fun ds es r h' hq hg => by
    match ds, es, hq, hg with
    | [e, dp, y], [u, l], hq, hg =>
      cases hg
      refine HCallOK.typed k27.ex fun ht he => ?_
      refine row_slice k27.ex (e := ⟨22, l, 4, none⟩) (by simp [fillE, b27]) (by simp) ?_
      rintro ⟨es, hes⟩
      have hes : l = .slice es [] := hes
      subst hes
      obtain ⟨_, t1⟩ := ht (dat 3 dp) (by simp [fillA, a27, dat, bxp]) rfl
      obtain ⟨z, rfl, hz⟩ := ty3' t1
      have hq' : es.length ≤ 1000 := by simpa [q27, elemsD] using hq
      cases hop : (intD (fieldD e 0) == 1) with
      | true =>
        have hop' : (opI e == 1) = true := hop
        refine fnH_ok hm envU2 k27 ((t27 1 e z es).trans ?_)
        have hd : decide ((es).length + 1 ≤ 2147483648) = true := by simp; omega
        rw [hop, hd, hop']
        rfl
      | false =>
        have hop' : (opI e == 1) = false := hop
        have H := (fnH_ok hm envU2 k27 (args := [dat 36 e, dat 3 (.lit (.int .i64 z)), bxp OID 22]) (h := [⟨22, .nil, 0, some (bxp (OID + 1) 22)⟩, ⟨22, .slice es [], 4, none⟩]) (r := dat 4 (.lit (.bool true)))
          (h' := [some ⟨22, .nil, 0, some (bxp (OID + 1) 22)⟩, some ⟨22, .slice es [], 4, none⟩]) ((t27 1 e z es).trans (by rw [hop]; rfl))).loose
        have he2 : elemsD (.slice es [] : D) ++ (bif opI e == 1 then [litI (colI e)] else []) = es := by rw [hop']; simp [elemsD]
        rw [he2]
        exact H
    | [], _, _, hg => cases hg
    | [_], _, _, hg => cases hg
    | [_, _], _, _, hg => cases hg
    | _ :: _ :: _ :: _ :: _, _, _, hg => cases hg
    | [_, _, _], [], _, hg => cases hg
    | [_, _, _], [_], _, hg => cases hg
    | [_, _, _], _ :: _ :: _ :: _, _, hg => cases hg

/-! ### All parts, by levels -/
def mayPre (K : Nat) (deep n : Int) : Bool := decide (1 ≤ K) && decide (7 < deep + (K : Int)) && decide (1 ≤ deep) && decide (deep ≤ 7) && decide (0 ≤ n) && decide (n ≤ 30)
def colsPre (K : Nat) (e : D) (deep : Int) (es : List D) : Bool := okK K e && decide (0 ≤ deep) && decide (deep + (K : Int) ≤ 1000) && decide (es.length + (colsK K e).length ≤ 100)
def a52 : List AV := [dat 36 .nil, dat 3 .nil, bxp OID 48, bxp (OID + 1) 48]
def b52m : List Ent := [⟨48, .nil, 0, some (clo 48 50 [OID + 2])⟩, ⟨48, .nil, 0, some (clo 48 52 [OID, OID + 1])⟩, ⟨3, .nil, 0, none⟩]
def b52c : List Ent := [⟨48, .nil, 0, some (clo 48 27 [OID + 2])⟩, ⟨48, .nil, 0, some (clo 48 52 [OID, OID + 1])⟩, ⟨22, .nil, 0, some (bxp (OID + 3) 22)⟩, ⟨22, .nil, 4, none⟩]
def q52m (K : Nat) : List D → List D → Bool := fun ds es => mayPre K (intD (ds.getD 1 .nil)) (intD (es.getD 2 .nil))
def q52c (K : Nat) : List D → List D → Bool := fun ds es => colsPre K (ds.getD 0 .nil) (intD (ds.getD 1 .nil)) (elemsD (es.getD 3 .nil))
def g52m (K : Nat) : List D → List D → HRes
  | [e, dp, _, _], [_, _, n] => some (dat 4 (.lit (.bool (mayAll K e (intD dp) (intD n)).1)), [some ⟨48, .nil, 0, some (clo 48 50 [OID + 2])⟩, some ⟨48, .nil, 0, some (clo 48 52 [OID, OID + 1])⟩, some ⟨3, .lit (.int .i64 (mayAll K e (intD dp) (intD n)).2), 0, none⟩])
  | _, _ => none
def g52c (K : Nat) : List D → List D → HRes
  | [e, dp, _, _], [_, _, _, l] => some (dat 4 (.lit (.bool true)), [some ⟨48, .nil, 0, some (clo 48 27 [OID + 2])⟩, some ⟨48, .nil, 0, some (clo 48 52 [OID, OID + 1])⟩, some ⟨22, .nil, 0, some (bxp (OID + 3) 22)⟩, some ⟨22, .slice (elemsD l ++ colsK K e) [], 1, none⟩])
  | _, _ => none
def h52 (K : Nat) : HEnt := (52, 4, fun args h => bif h.length == 3 then preH a52 b52m (q52m K) args h else preH a52 b52c (q52c K) args h, fun args h => bif h.length == 3 then entH a52 b52m (g52m K) args h else entH a52 b52c (g52c K) args h)
def H1 : HTab := [h50, h27]
def H2 (K : Nat) : HTab := h52 K :: H1
theorem envH1 : EnvOK Tryz.prog (envH U2 H1) := envOK_consH (envOK_consH envU2 c27) c50

end X
end Go.Proofs.YtmopepjahjmdeaaGreat
