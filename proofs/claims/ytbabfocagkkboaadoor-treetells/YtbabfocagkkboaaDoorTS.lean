/- What the evaluator comes to, function by function: by the kernel. Nothing here is trusted. -/
import Derived.Test.YtbabfocagkkboaaDoorTR
import Derived.Test.YtbabfocagkkboaaDoorVTe
namespace Go.Proofs.YtbabfocagkkboaaDoor
namespace X
open Go.Ev
set_option linter.unusedVariables false
/- roadbook/roadbookref06.May -/
def t14_h : Hints := fun i => if i = 3 then some ([0, 1, 2, 6, 7, 8, 9, 10, 11, 12, 13, 14, 15, 16, 17, 18, 19, 20, 21, 22, 23, 24, 25, 26, 27, 28, 29, 30, 31, 32], [], []) else if i = 6 then some ([0, 1, 2, 7, 8, 9, 10, 11, 12, 13, 14, 15, 16, 17, 18, 19, 20, 21, 22, 23, 24, 25, 26, 27, 28, 29, 30, 31, 32], [], []) else none
def t14_lp3 (P : Program) (fn : Func) (N n : Nat) (x0 : D) (v5 : Int) : Option AV := evLoop (preL t14_h (sub [1, 1, 0, 1, 0, 0] (bodyOf fn))) (evCode P (envH (R2 4) []) t14_h N (sub [1, 1, 0, 1, 0, 0] (bodyOf fn))) n ⟨[dead, dead, dead, dat 39 (.slice ((lvK 4 x0).1) []), dat 4 (.lit (.bool ((lvK 4 x0).2))), dat 3 (.lit (.int .i64 v5)), dead, dead, dead, dead, dead, dead, dead, dead, dead, dead, dead, dead, dead, dead, dead, dead, dead, dead, dead, dead, dead, dead, dead, dead, dead, dead, dead], lookB []⟩ (blockK 0 (seqC P (envH (R2 4) []) t14_h N (sub [1, 1, 1] (bodyOf fn)) (finK P fn) ))
def t14_lp6 (P : Program) (fn : Func) (N n : Nat) (x0 : D) (v5 : Int) (m0 : Nat) (v6 : Int) : Option AV := evLoop (preL t14_h (sub [1, 1, 0, 1, 0, 0, 1, 0, 0, 1, 0, 0] (bodyOf fn))) (evCode P (envH (R2 4) []) t14_h N (sub [1, 1, 0, 1, 0, 0, 1, 0, 0, 1, 0, 0] (bodyOf fn))) n ⟨[dead, dead, dead, dat 39 (.slice ((lvK 4 x0).1) []), dat 4 (.lit (.bool ((lvK 4 x0).2))), dat 3 (.lit (.int .i64 v5)), dat 3 (.lit (.int .i64 v6)), dead, dead, dead, dead, dead, dead, dead, dead, dead, dead, dead, dead, dead, dead, dead, dead, dead, dead, dead, dead, dead, dead, dead, dead, dead, dead], lookB []⟩ (blockK 2 (blockK 1 (seqC P (envH (R2 4) []) t14_h N (sub [1, 1, 0, 1, 0, 0, 1, 1] (bodyOf fn)) (seqK (fun s => evLoop (preL t14_h (sub [1, 1, 0, 1, 0, 0] (bodyOf fn))) (evCode P (envH (R2 4) []) t14_h N (sub [1, 1, 0, 1, 0, 0] (bodyOf fn))) m0 ((preL t14_h (sub [1, 1, 0, 1, 0, 0] (bodyOf fn))) s) (blockK 0 (seqC P (envH (R2 4) []) t14_h N (sub [1, 1, 1] (bodyOf fn)) (finK P fn) ))) (blockK 0 (seqC P (envH (R2 4) []) t14_h N (sub [1, 1, 1] (bodyOf fn)) (finK P fn) ))) )))
theorem t14_lp6_step  (N n : Nat) (x0 : D) (v5 : Int) (m0 : Nat) (v6 : Int) : t14_lp6 Tryd.prog Tryd.f14 N (n + 1) x0 v5 m0 v6 =
  bif decide (v6 < v5) then
    bif (decide (0 ≤ v6) && decide (v6 < (((lvK 4 x0).1).length : Int))) then
      bif (decide (0 ≤ v5) && decide (v5 < (((lvK 4 x0).1).length : Int))) then
        bif ((intD (((lvK 4 x0).1).getD (v6).toNat .nil)) == (intD (((lvK 4 x0).1).getD (v5).toNat .nil))) then
          some (dat 4 (.lit (.bool false)))
        else t14_lp6 Tryd.prog Tryd.f14 N n x0 v5 m0 (IntKind.wrap .i64 (v6 + 1))
      else none
    else none
  else t14_lp3 Tryd.prog Tryd.f14 N m0 x0 (IntKind.wrap .i64 (v5 + 1)) := by kernel_rfl
theorem t14_lp3_step  (N n : Nat) (x0 : D) (v5 : Int) : t14_lp3 Tryd.prog Tryd.f14 N (n + 1) x0 v5 =
  bif decide (v5 < (((lvK 4 x0).1).length : Int)) then
    t14_lp6 Tryd.prog Tryd.f14 N N x0 v5 n 0
  else some (dat 4 (.lit (.bool ((lvK 4 x0).2)))) := by kernel_rfl
theorem t14 (N : Nat) (x0 : D) : evFn Tryd.prog (envH (R2 4) []) t14_h N Tryd.f14 [dat 24 x0] =
  bif (1 == 5 - ((4 : Nat) : Int)) then
    t14_lp3 Tryd.prog Tryd.f14 N N x0 0
  else none := by kernel_rfl

/- roadbook/roadbookref06.Join -/
def t25_h : Hints := fun _ =>  none
theorem t25 (N : Nat) (x0 : D) (x1 : D) : evFn Tryd.prog (envH [] []) t25_h N Tryd.f25 [dat 24 x0, dat 24 x1] =
  some (dat 24 (.agg [.lit (.int .i64 0), .slice [x0, x1] []])) := by kernel_rfl

/- roadbook/roadbookref06.many -/
def t42_h : Hints := fun _ =>  none
theorem t42 (N : Nat) (x0 : Int) : evFn Tryd.prog (envH [] []) t42_h N Tryd.f42 [dat 3 (.lit (.int .i64 x0))] =
  some (dat 3 (.lit (.int .i64 (IntKind.wrap .i64 ((IntKind.wrap .i64 ((IntKind.wrap .i64 ((Int.tmod x0 2) + (Int.tmod (IntKind.wrap .i64 (Int.tdiv x0 2)) 2))) + (Int.tmod (IntKind.wrap .i64 (Int.tdiv x0 4)) 2))) + (Int.tmod (IntKind.wrap .i64 (Int.tdiv x0 8)) 2)))))) := by kernel_rfl

end X
end Go.Proofs.YtbabfocagkkboaaDoor

namespace Go.Proofs.YtbabfocagkkboaaDoor
namespace X
open Go.Ev
set_option linter.unusedVariables false
set_option linter.unusedSimpArgs false

theorem k14 : FnOK Tryd.prog 14 Tryd.f14 := ⟨Tryd.func14, rfl, by kernel_rfl⟩
theorem k25 : FnOK Tryd.prog 25 Tryd.f25 := ⟨Tryd.func25, rfl, by kernel_rfl⟩
theorem k42 : FnOK Tryd.prog 42 Tryd.f42 := ⟨Tryd.func42, rfl, by kernel_rfl⟩
theorem may_in {N m0 : Nat} {x0 : D} {i : Nat} (hl : (lvK 4 x0).1.length ≤ 16) (hi : i < (lvK 4 x0).1.length) : ∀ (n k : Nat), k ≤ i → i - k < n →
    ((∃ j, k ≤ j ∧ j < i ∧ (intD ((lvK 4 x0).1.getD j .nil) == intD ((lvK 4 x0).1.getD i .nil)) = true) ∧ t14_lp6 Tryd.prog Tryd.f14 N n x0 (i : Int) m0 (k : Int) = some (dat 4 (.lit (.bool false)))) ∨
    ((∀ j, k ≤ j → j < i → (intD ((lvK 4 x0).1.getD j .nil) == intD ((lvK 4 x0).1.getD i .nil)) = false) ∧ t14_lp6 Tryd.prog Tryd.f14 N n x0 (i : Int) m0 (k : Int) = t14_lp3 Tryd.prog Tryd.f14 N m0 x0 (((i + 1 : Nat) : Int)))
  | 0, k, _, h => by omega
  | n + 1, k, hk, h => by
    rw [t14_lp6_step]
    by_cases hlt : k < i
    · have h1 : decide ((k : Int) < (i : Int)) = true := by rw [decide_eq_true_eq]; omega
      rw [h1, cond_true, idx_ok (show k < (lvK 4 x0).1.length by omega), cond_true, idx_ok hi, cond_true, Int.toNat_natCast, Int.toNat_natCast]
      cases hb : (intD ((lvK 4 x0).1.getD k .nil) == intD ((lvK 4 x0).1.getD i .nil)) with
      | true => exact .inl ⟨⟨k, Nat.le_refl _, hlt, hb⟩, rfl⟩
      | false =>
        rw [cond_false, wrap_step (n := (lvK 4 x0).1.length) (by unfold maxLen; omega) (show k < (lvK 4 x0).1.length by omega)]
        rcases may_in hl hi n (k + 1) (by omega) (by omega) with ⟨⟨j, j1, j2, j3⟩, he⟩ | ⟨hj, he⟩
        · exact .inl ⟨⟨j, by omega, j2, j3⟩, he⟩
        · refine .inr ⟨fun j j1 j2 => ?_, he⟩
          by_cases hjk : j = k
          · rw [hjk]; exact hb
          · exact hj j (by omega) j2
    · have h1 : decide ((k : Int) < (i : Int)) = false := by rw [decide_eq_false_iff_not]; omega
      rw [h1, cond_false, wrap_step (n := (lvK 4 x0).1.length) (by unfold maxLen; omega) hi]
      exact .inr ⟨fun j j1 j2 => by omega, rfl⟩
theorem may_out {N : Nat} {x0 : D} (hl : (lvK 4 x0).1.length ≤ 16) (hN : 17 ≤ N) : ∀ (n i : Nat), i ≤ (lvK 4 x0).1.length → (lvK 4 x0).1.length - i < n → (∀ a b, a < i → b < a → (intD ((lvK 4 x0).1.getD b .nil) == intD ((lvK 4 x0).1.getD a .nil)) = false) →
    t14_lp3 Tryd.prog Tryd.f14 N n x0 (i : Int) = some (dat 4 (.lit (.bool (rMay x0))))
  | 0, i, _, h, _ => by omega
  | n + 1, i, hi, h, hb => by
    rw [t14_lp3_step]
    by_cases hlt : i < (lvK 4 x0).1.length
    · have h1 : decide ((i : Int) < ((lvK 4 x0).1.length : Int)) = true := by rw [decide_eq_true_eq]; omega
      rw [h1, cond_true]
      rcases may_in (N := N) (m0 := n) hl hlt N 0 (Nat.zero_le _) (by omega) with ⟨⟨j, j1, j2, j3⟩, he⟩ | ⟨hj, he⟩
      · have hd : dupB (lvK 4 x0).1 = true := by
          unfold dupB
          rw [List.any_eq_true]
          refine ⟨i, List.mem_range.2 hlt, ?_⟩
          rw [List.any_eq_true]
          exact ⟨j, List.mem_range.2 j2, j3⟩
        refine Eq.trans he ?_
        unfold rMay
        rw [hd]
        rfl
      · refine Eq.trans he ?_
        refine may_out hl hN n (i + 1) (by omega) (by omega) (fun a b ha hba => ?_)
        by_cases hai : a = i
        · rw [hai]; exact hj b (Nat.zero_le _) (by omega)
        · exact hb a b (by omega) hba
    · have h1 : decide ((i : Int) < ((lvK 4 x0).1.length : Int)) = false := by rw [decide_eq_false_iff_not]; omega
      have hd : dupB (lvK 4 x0).1 = false := by
        unfold dupB
        rw [List.any_eq_false]
        intro a ha
        rw [Bool.not_eq_true, List.any_eq_false]
        intro b hb'
        rw [hb a b (by have := List.mem_range.1 ha; omega) (List.mem_range.1 hb')]
        simp
      rw [h1, cond_false]
      unfold rMay
      rw [hd]
      rfl
def e14 : FuncId × TypeId × (List AV → Bool) × (List AV → Option D) := (14, 4, yes, ent [24] (f1 fun x => some (.lit (.bool (mayT x)))))
theorem c14 : ∀ args d, e14.2.2.2 args = some d → CallOK Tryd.prog 14 args (mkRes Tryd.prog 4 d) :=
  ent1 k14 fun x d h ⟨_, hx⟩ => by
    cases h
    rw [n24]
    refine fn_ok hm (envR2 4 (by omega)) k14 ((t14 20 x).trans ?_)
    have hl : (lvK 4 x).1.length ≤ 16 := Nat.le_trans (lv_len 4 x) (by decide)
    have h1 : ((1 : Int) == 5 - ((4 : Nat) : Int)) = true := rfl
    rw [h1, cond_true, m4, ← rMay_eq]
    have := may_out (N := 20) hl (by omega) 20 0 (Nat.zero_le _) (by omega) (fun a b ha => by omega)
    exact this
def e25 : FuncId × TypeId × (List AV → Bool) × (List AV → Option D) := (25, 24, yes, ent [24, 24] (f2 fun x y => some (nodeD [x, y])))
theorem c25 : ∀ args d, e25.2.2.2 args = some d → CallOK Tryd.prog 25 args (mkRes Tryd.prog 24 d) :=
  ent2 k25 fun x y d h ⟨_, hx⟩ ⟨_, hy⟩ => by
    cases h
    rw [n24, n24]
    exact fn_ok hm env0 k25 (t25 0 x y)
theorem many_chk : ∀ n : Fin 16, (IntKind.wrap .i64 ((IntKind.wrap .i64 ((IntKind.wrap .i64 ((Int.tmod (n.val : Int) 2) + (Int.tmod (IntKind.wrap .i64 (Int.tdiv (n.val : Int) 2)) 2))) + (Int.tmod (IntKind.wrap .i64 (Int.tdiv (n.val : Int) 4)) 2))) + (Int.tmod (IntKind.wrap .i64 (Int.tdiv (n.val : Int) 8)) 2))) = popI (n.val : Int) := by decide +kernel
def e42 : FuncId × TypeId × (List AV → Bool) × (List AV → Option D) := (42, 3, preD (q1 fun x => decide (0 ≤ intD x) && decide (intD x < 16)), ent [3] (f1 fun x => some (.lit (.int .i64 (popI (intD x))))))
theorem c42 : ∀ args d, e42.2.2.1 args = true → e42.2.2.2 args = some d → CallOK Tryd.prog 42 args (mkRes Tryd.prog 3 d) :=
  ent1p k42 fun x d hq h ⟨_, hx⟩ => by
    cases h
    obtain ⟨z, rfl, hz⟩ := ty3' hx
    rw [n3]
    have hq : (decide (0 ≤ z) && decide (z < 16)) = true := hq
    rw [Bool.and_eq_true, decide_eq_true_eq, decide_eq_true_eq] at hq
    obtain ⟨m, rfl⟩ : ∃ m : Fin 16, z = (m.val : Int) := ⟨⟨z.toNat, by omega⟩, by simp; omega⟩
    refine fn_ok hm env0 k42 ((t42 0 (m.val : Int)).trans ?_)
    rw [many_chk m, m3]
    rfl
def R3 : Tab := e29 :: e14 :: []
theorem envR3 : EnvOK Tryd.prog (envH R3 []) := envOK_cons (envOK_cons env0 c14) c29
def e18 (K : Nat) : FuncId × TypeId × (List AV → Bool) × (List AV → Option D) := (18, 9, preD (q1 fun x => setK K x != 0), ent [24] (f1 fun x => some (.lit (.string (textT x)))))
def R4 (K : Nat) : Tab := e18 K :: e14 :: []
theorem m43 (x : D) : mkRes Tryd.prog 43 x = tupA [24, 3] x := by kernel_rfl
def e31 (K : Nat) : FuncId × TypeId × (List AV → Bool) × (List AV → Option D) := (31, 43, preD (q2 fun x y => intD y == 6 - (K : Int)), ent [9, 3] (f2 fun x y => some (.agg [(partK K (strD x)).1, .lit (.int .i64 ((partK K (strD x)).2 : Int))])))
def R5 (K : Nat) : Tab := e31 K :: e25 :: []
def e28 (K : Nat) : FuncId × TypeId × (List AV → Bool) × (List AV → Option D) := (28, 22, preD (q1 fun x => decide (1 ≤ intD x) && decide (intD x < (K : Int))), ent [3] (f1 fun x => some (.slice (allT (intD x)) [])))
def R8c : Tab := e42 :: e25 :: []
theorem envR8c : EnvOK Tryd.prog (envH R8c []) := envOK_cons' (envOK_cons env0 c25) c42
def R8 (K : Nat) : Tab := e28 K :: R8c
end X
end Go.Proofs.YtbabfocagkkboaaDoor

namespace Go.Proofs.YtbabfocagkkboaaDoor
namespace X
open Go.Ev
set_option linter.unusedVariables false
/- roadbook/roadbookref06.Set -/
def t16_h : Hints := fun i => if i = 8 then some ([0, 1, 2, 3, 8, 9, 10, 11, 12, 13, 14, 15, 16, 17, 18, 19, 20, 21, 22, 23, 24, 25, 26, 27, 28, 29, 30], [], []) else none
def t16_lp8 (P : Program) (fn : Func) (N n : Nat) (x0 : D) (v6 : Int) (v7 : Int) : Option AV := evLoop (preL t16_h (sub [1, 1, 1, 1, 1, 1, 0, 1, 0, 0] (bodyOf fn))) (evCode P (envH R3 []) t16_h N (sub [1, 1, 1, 1, 1, 1, 0, 1, 0, 0] (bodyOf fn))) n ⟨[dead, dead, dead, dead, dat 39 (.slice ((lvK 4 x0).1) []), dat 39 (.slice [.lit (.int .i64 1), .lit (.int .i64 2), .lit (.int .i64 4), .lit (.int .i64 8)] []), dat 3 (.lit (.int .i64 v6)), dat 3 (.lit (.int .i64 v7)), dead, dead, dead, dead, dead, dead, dead, dead, dead, dead, dead, dead, dead, dead, dead, dead, dead, dead, dead, dead, dead, dead, dead], lookB []⟩ (blockK 0 (seqC P (envH R3 []) t16_h N (sub [1, 1, 1, 1, 1, 1, 1] (bodyOf fn)) (finK P fn) ))
theorem t16_lp8_step  (N n : Nat) (x0 : D) (v6 : Int) (v7 : Int) : t16_lp8 Tryd.prog Tryd.f16 N (n + 1) x0 v6 v7 =
  bif decide (v7 < (((lvK 4 x0).1).length : Int)) then
    bif (decide (0 ≤ v7) && decide (v7 < (((lvK 4 x0).1).length : Int))) then
      bif (decide (0 ≤ (intD (((lvK 4 x0).1).getD (v7).toNat .nil))) && decide ((intD (((lvK 4 x0).1).getD (v7).toNat .nil)) < 4)) then
        t16_lp8 Tryd.prog Tryd.f16 N n x0 (IntKind.wrap .i64 (v6 + (intD ([.lit (.int .i64 1), .lit (.int .i64 2), .lit (.int .i64 4), .lit (.int .i64 8)].getD (intD (((lvK 4 x0).1).getD (v7).toNat .nil)).toNat .nil)))) (IntKind.wrap .i64 (v7 + 1))
      else none
    else none
  else some (dat 3 (.lit (.int .i64 v6))) := by kernel_rfl
theorem t16 (N : Nat) (x0 : D) : evFn Tryd.prog (envH R3 []) t16_h N Tryd.f16 [dat 24 x0] =
  bif (!(mayT x0)) then
    some (dat 3 (.lit (.int .i64 0)))
  else t16_lp8 Tryd.prog Tryd.f16 N N x0 0 0 := by kernel_rfl

/- roadbook/roadbookref06.Lists -/
def t26_h : Hints := fun i => if i = 4 then some ([2, 3, 4, 6, 7, 8, 9, 10, 11, 12, 13, 14, 15, 16, 17, 18, 19, 20, 21, 22, 23, 24, 25, 26, 27, 28], [], []) else none
def t26_lp4 (P : Program) (fn : Func) (N n : Nat) (x0 : D) (x1 : D) (v5 : Int) : Option AV := evLoop (preL t26_h (sub [1, 1, 0, 1, 0, 0] (bodyOf fn))) (evCode P (envH (R1 130) []) t26_h N (sub [1, 1, 0, 1, 0, 0] (bodyOf fn))) n ⟨[dat 22 x0, dat 22 x1, dead, dead, dead, dat 3 (.lit (.int .i64 v5)), dead, dead, dead, dead, dead, dead, dead, dead, dead, dead, dead, dead, dead, dead, dead, dead, dead, dead, dead, dead, dead, dead, dead], lookB []⟩ (blockK 0 (seqC P (envH (R1 130) []) t26_h N (sub [1, 1, 1] (bodyOf fn)) (finK P fn) ))
theorem t26_lp4_step  (N n : Nat) (x0 : D) (x1 : D) (v5 : Int) : t26_lp4 Tryd.prog Tryd.f26 N (n + 1) x0 x1 v5 =
  bif decide (v5 < ((elemsD x0).length : Int)) then
    bif (decide (0 ≤ v5) && decide (v5 < ((elemsD x0).length : Int))) then
      bif (decide (0 ≤ v5) && decide (v5 < ((elemsD x1).length : Int))) then
        bif okT 130 ((elemsD x0).getD (v5).toNat .nil) then
          bif (!(eqT ((elemsD x0).getD (v5).toNat .nil) ((elemsD x1).getD (v5).toNat .nil))) then
            some (dat 4 (.lit (.bool false)))
          else t26_lp4 Tryd.prog Tryd.f26 N n x0 x1 (IntKind.wrap .i64 (v5 + 1))
        else none
      else none
    else none
  else some (dat 4 (.lit (.bool true))) := by kernel_rfl
theorem t26 (N : Nat) (x0 : D) (x1 : D) : evFn Tryd.prog (envH (R1 130) []) t26_h N Tryd.f26 [dat 22 x0, dat 22 x1] =
  bif (((elemsD x0).length : Int) != ((elemsD x1).length : Int)) then
    some (dat 4 (.lit (.bool false)))
  else t26_lp4 Tryd.prog Tryd.f26 N N x0 x1 0 := by kernel_rfl

end X
end Go.Proofs.YtbabfocagkkboaaDoor

namespace Go.Proofs.YtbabfocagkkboaaDoor
namespace X
open Go.Ev
set_option linter.unusedVariables false
set_option linter.unusedSimpArgs false

theorem k16 : FnOK Tryd.prog 16 Tryd.f16 := ⟨Tryd.func16, rfl, by kernel_rfl⟩
theorem k26 : FnOK Tryd.prog 26 Tryd.f26 := ⟨Tryd.func26, rfl, by kernel_rfl⟩
theorem bit_tab : ∀ b : Fin 4, intD (([.lit (.int .i64 1), .lit (.int .i64 2), .lit (.int .i64 4), .lit (.int .i64 8)] : List D).getD ((b.val : Int)).toNat .nil) = bitI (b.val : Int) ∧ 1 ≤ bitI (b.val : Int) ∧ bitI (b.val : Int) ≤ 8 := by decide
theorem set_loop {N : Nat} {x0 : D} (hl : (lvK 4 x0).1.length ≤ 16) (ho : ∀ d ∈ (lvK 4 x0).1, ∃ b : Fin 4, intD d = (b.val : Int)) : ∀ (n i : Nat) (v : Int), i ≤ (lvK 4 x0).1.length → (lvK 4 x0).1.length - i < n → 0 ≤ v → v ≤ 8 * i →
    t16_lp8 Tryd.prog Tryd.f16 N n x0 v (i : Int) = some (dat 3 (.lit (.int .i64 (v + sumI ((lvK 4 x0).1.drop i)))))
  | 0, i, v, _, h, _, _ => by omega
  | n + 1, i, v, hi, h, h0, h8 => by
    rw [t16_lp8_step]
    by_cases hlt : i < (lvK 4 x0).1.length
    · have h1 : decide ((i : Int) < ((lvK 4 x0).1.length : Int)) = true := by rw [decide_eq_true_eq]; omega
      obtain ⟨b, hb⟩ := ho _ (List.getElem_mem hlt)
      obtain ⟨t1, t2, t3⟩ := bit_tab b
      have hq : (decide (0 ≤ (b.val : Int)) && decide ((b.val : Int) < 4)) = true := by
        rw [Bool.and_eq_true, decide_eq_true_eq, decide_eq_true_eq]; have := b.isLt; omega
      have hw : IntKind.wrap .i64 (v + bitI (b.val : Int)) = v + bitI (b.val : Int) := wrap_in (by rw [inR_iff]; omega)
      rw [idx_ok hlt, h1, cond_true, cond_true, Int.toNat_natCast, getD_lt hlt, hb, hq, cond_true, t1, hw, wrap_step (n := (lvK 4 x0).1.length) (by unfold maxLen; omega) hlt, set_loop hl ho n (i + 1) _ (by omega) (by omega) (by omega) (by omega), List.drop_eq_getElem_cons hlt]
      have : sumI ((lvK 4 x0).1[i] :: (lvK 4 x0).1.drop (i + 1)) = bitI (intD (lvK 4 x0).1[i]) + sumI ((lvK 4 x0).1.drop (i + 1)) := by
        unfold sumI; rw [List.map_cons, List.sum_cons]
      rw [this, hb, Int.add_assoc]
    · have h1 : decide ((i : Int) < ((lvK 4 x0).1.length : Int)) = false := by rw [decide_eq_false_iff_not]; omega
      have h2 : (lvK 4 x0).1.drop i = [] := List.drop_of_length_le (by omega)
      rw [h1, cond_false, h2]
      show _ = some (dat 3 (.lit (.int .i64 (v + 0))))
      rw [Int.add_zero]
def e16 : FuncId × TypeId × (List AV → Bool) × (List AV → Option D) := (16, 3, yes, ent [24] (f1 fun x => some (.lit (.int .i64 (setT x)))))
theorem c16 : ∀ args d, e16.2.2.2 args = some d → CallOK Tryd.prog 16 args (mkRes Tryd.prog 3 d) :=
  ent1 k16 fun x d h ⟨_, hx⟩ => by
    cases h
    rw [n24]
    refine fn_ok hm envR3 k16 ((t16 20 x).trans ?_)
    have hl : (lvK 4 x).1.length ≤ 16 := Nat.le_trans (lv_len 4 x) (by decide)
    rw [m3, ← rSet_eq]
    cases hmay : mayT x with
    | false => rfl
    | true =>
      obtain ⟨l1, _, l3⟩ := lv_set 4 x
      have := set_loop (N := 20) hl (l3 (l1 (may_set hmay)).1) 20 0 0 (Nat.zero_le _) (by omega) (by omega) (by omega)
      rw [List.drop_zero, Int.zero_add] at this
      rw [Bool.not_true, cond_false, cond_true]
      exact this
theorem lists_loop {N : Nat} {x0 x1 : D} (hl : (elemsD x0).length ≤ maxLen) (hlen : (elemsD x0).length = (elemsD x1).length) (hok : ∀ p ∈ elemsD x0, okT 130 p = true) : ∀ (n i : Nat), i ≤ (elemsD x0).length → (elemsD x0).length - i < n →
    t26_lp4 Tryd.prog Tryd.f26 N n x0 x1 (i : Int) = some (dat 4 (.lit (.bool (eq2 eqT ((elemsD x0).drop i) ((elemsD x1).drop i)))))
  | 0, i, _, h => by omega
  | n + 1, i, hi, h => by
    rw [t26_lp4_step]
    by_cases hlt : i < (elemsD x0).length
    · have hlt1 : i < (elemsD x1).length := by omega
      have h1 : decide ((i : Int) < ((elemsD x0).length : Int)) = true := by simpa using hlt
      rw [idx_ok hlt, idx_ok hlt1, h1, cond_true, cond_true, cond_true, Int.toNat_natCast, getD_lt hlt, getD_lt hlt1, hok _ (List.getElem_mem hlt), cond_true, List.drop_eq_getElem_cons hlt, List.drop_eq_getElem_cons hlt1, eq2_cons]
      cases hb : eqT (elemsD x0)[i] (elemsD x1)[i] with
      | false => rfl
      | true =>
        rw [Bool.not_true, cond_false, Bool.true_and, wrap_step hl hlt]
        exact lists_loop hl hlen hok n (i + 1) (by omega) (by omega)
    · have h1 : decide ((i : Int) < ((elemsD x0).length : Int)) = false := by simpa using hlt
      have h4 : (elemsD x0).drop i = [] := List.drop_of_length_le (by omega)
      have h5 : (elemsD x1).drop i = [] := List.drop_of_length_le (by omega)
      rw [h1, h4, h5, cond_false]
      rfl
def e26 : FuncId × TypeId × (List AV → Bool) × (List AV → Option D) := (26, 4, preD (q2 fun x y => (elemsD x).all (okT 130)), ent [22, 22] (f2 fun x y => some (.lit (.bool (eq2 eqT (elemsD x) (elemsD y))))))
theorem c26 : ∀ args d, e26.2.2.1 args = true → e26.2.2.2 args = some d → CallOK Tryd.prog 26 args (mkRes Tryd.prog 4 d) :=
  ent2p k26 fun x y d hq h ⟨_, hx⟩ ⟨_, hy⟩ => by
    cases h
    rw [n22, n22]
    have hq : ((elemsD x).all (okT 130)) = true := hq
    rw [List.all_eq_true] at hq
    have hl : (elemsD x).length ≤ maxLen := by
      obtain ⟨ks, rfl, h, _⟩ := ty22 hx
      exact h
    refine fn_ok hm (envR1 130) k26 ((t26 ((elemsD x).length + 1) x y).trans ?_)
    rw [m4]
    show _ = some (dat 4 (.lit (.bool (eq2 eqT (elemsD x) (elemsD y)))))
    by_cases he : (elemsD x).length = (elemsD y).length
    · have : (((elemsD x).length : Int) != ((elemsD y).length : Int)) = false := by rw [he]; simp
      have hlp := lists_loop (N := (elemsD x).length + 1) hl he hq ((elemsD x).length + 1) 0 (Nat.zero_le _) (by omega)
      rw [List.drop_zero, List.drop_zero] at hlp
      rw [this, cond_false]
      exact hlp
    · have : (((elemsD x).length : Int) != ((elemsD y).length : Int)) = true := by rw [bne_iff_ne]; omega
      have hne : eq2 eqT (elemsD x) (elemsD y) = false := by
        cases h : eq2 eqT (elemsD x) (elemsD y) with
        | false => rfl
        | true => exact absurd (eq2_len h) he
      rw [this, hne]
      rfl
end X
end Go.Proofs.YtbabfocagkkboaaDoor

namespace Go.Proofs.YtbabfocagkkboaaDoor
namespace X
open Go.Ev
set_option linter.unusedVariables false
/- roadbook/roadbookref06.Text -/
def t18_h : Hints := fun _ =>  none
theorem t18 (K : Nat) (N : Nat) (x0 : D) : evFn Tryd.prog (envH (R4 K) []) t18_h N Tryd.f18 [dat 24 x0] =
  bif (!(mayT x0)) then
    some (dat 9 (.lit (.string ([] : List UInt8))))
  else bif (((elemsD (fieldD x0 1)).length : Int) == 0) then
      some (dat 9 (.lit (.string (bytesL [.lit (.int .u8 (IntKind.wrap .u8 (IntKind.wrap .i64 (48 + (intD (fieldD x0 0))))))]))))
    else bif (decide (0 ≤ (0 : Int)) && decide ((0 : Int) < ((elemsD (fieldD x0 1)).length : Int))) then
        bif (setK K ((elemsD (fieldD x0 1)).getD 0 .nil) != 0) then
          bif decide ((([40] : List UInt8)).length + (textT ((elemsD (fieldD x0 1)).getD 0 .nil)).length ≤ 4294967296) then
            bif (decide (0 ≤ (1 : Int)) && decide ((1 : Int) < ((elemsD (fieldD x0 1)).length : Int))) then
              bif (setK K ((elemsD (fieldD x0 1)).getD 1 .nil) != 0) then
                bif decide (((([40] : List UInt8) ++ (textT ((elemsD (fieldD x0 1)).getD 0 .nil)))).length + (textT ((elemsD (fieldD x0 1)).getD 1 .nil)).length ≤ 4294967296) then
                  bif decide ((((([40] : List UInt8) ++ (textT ((elemsD (fieldD x0 1)).getD 0 .nil))) ++ (textT ((elemsD (fieldD x0 1)).getD 1 .nil)))).length + (([41] : List UInt8)).length ≤ 4294967296) then
                    some (dat 9 (.lit (.string (((([40] : List UInt8) ++ (textT ((elemsD (fieldD x0 1)).getD 0 .nil))) ++ (textT ((elemsD (fieldD x0 1)).getD 1 .nil))) ++ ([41] : List UInt8)))))
                  else none
                else none
              else none
            else none
          else none
        else none
      else none := by kernel_rfl

end X
end Go.Proofs.YtbabfocagkkboaaDoor

namespace Go.Proofs.YtbabfocagkkboaaDoor
namespace X
open Go.Ev
set_option linter.unusedVariables false
set_option linter.unusedSimpArgs false

theorem k18 : FnOK Tryd.prog 18 Tryd.f18 := ⟨Tryd.func18, rfl, by kernel_rfl⟩
theorem byte_tab : ∀ b : Fin 4, bytesL [.lit (.int .u8 (IntKind.wrap .u8 (IntKind.wrap .i64 (48 + (b.val : Int)))))] = digitL (b.val : Int) := by decide
theorem textT_len (t : D) : (textT t).length ≤ 46 := by
  unfold textT
  cases mayT t with
  | false => exact Nat.zero_le _
  | true =>
    have : (textK 4 t).length + 2 ≤ 48 := text_len 4 t
    show (textK 4 t).length ≤ 46
    omega
theorem textT_may {t : D} (h : mayT t = true) : textT t = textK 4 t := by unfold textT; rw [h]; rfl
theorem textT_up {t : D} (h : setK 3 t ≠ 0) : textT t = textK 3 t := by
  have h4 : setK 4 t ≠ 0 := by rw [setK_mono 3 t h]; exact h
  rw [textT_may (set_may h4)]
  exact text_mono 3 t h
theorem text_at (K : Nat) (henv : EnvOK Tryd.prog (envH (R4 K) [])) (x : D) (h : mayT x = true → setK (K + 1) x ≠ 0) : CallOK Tryd.prog 18 [dat 24 x] (mkRes Tryd.prog 9 (.lit (.string (textT x)))) := by
  refine fn_ok hm henv k18 ((t18 K 0 x).trans ?_)
  rw [m9, show elemsD (fieldD x 1) = tkids x from rfl, show intD (fieldD x 0) = tocc x from rfl]
  cases hmay : mayT x with
  | false =>
    unfold textT
    rw [hmay]
    rfl
  | true =>
    have hK := h hmay
    rw [Bool.not_true, cond_false]
    rcases set_cases K x with e | ⟨e1, e2, _⟩ | ⟨a, b, e1, _, sa, sb, _, _⟩
    · exact absurd e hK
    · rw [textT_may hmay, textK_succ, e1]
      have hocc := e2
      unfold isOccB at hocc
      rw [Bool.and_eq_true, decide_eq_true_eq, decide_eq_true_eq] at hocc
      obtain ⟨m, hmm⟩ : ∃ m : Fin 4, tocc x = (m.val : Int) := ⟨⟨(tocc x).toNat, by omega⟩, by simp; omega⟩
      rw [hmm, byte_tab m]
      rfl
    · have hs := may_set hmay
      rcases set_cases 3 x with e | ⟨e1', _, _⟩ | ⟨a', b', e1', _, sa', sb', _, _⟩
      · exact absurd e hs
      · rw [e1] at e1'; cases e1'
      · rw [e1] at e1'
        cases e1'
        have la := textT_len a
        have lb := textT_len b
        have pa : (setK K a != 0) = true := by rw [bne_iff_ne]; exact sa
        have pb : (setK K b != 0) = true := by rw [bne_iff_ne]; exact sb
        have d1 : decide ((([40] : List UInt8)).length + (textT a).length ≤ 4294967296) = true := by
          rw [decide_eq_true_eq]; simp only [List.length_cons, List.length_nil]; omega
        have d2 : decide (((([40] : List UInt8) ++ (textT a))).length + (textT b).length ≤ 4294967296) = true := by
          rw [decide_eq_true_eq]; simp only [List.length_cons, List.length_append, List.length_nil]; omega
        have d3 : decide ((((([40] : List UInt8) ++ (textT a)) ++ (textT b))).length + (([41] : List UInt8)).length ≤ 4294967296) = true := by
          rw [decide_eq_true_eq]; simp only [List.length_cons, List.length_append, List.length_nil]; omega
        have l0 : (decide (0 ≤ (0 : Int)) && decide ((0 : Int) < (([a, b] : List D).length : Int))) = true := rfl
        have l1 : (decide (0 ≤ (1 : Int)) && decide ((1 : Int) < (([a, b] : List D).length : Int))) = true := rfl
        have lz : ((([a, b] : List D).length : Int) == 0) = false := rfl
        have ht : textT x = 40 :: (textT a ++ textT b ++ [41]) := by
          rw [textT_may hmay, textK_succ 3 x, e1, textT_up sa', textT_up sb']
          rfl
        rw [e1, lz, l0, l1, show ([a, b] : List D).getD 0 .nil = a from rfl, show ([a, b] : List D).getD 1 .nil = b from rfl, pa, pb, d1, d2, d3, ht]
        simp only [cond_true, cond_false]
        rfl
theorem envR4 : ∀ K : Nat, EnvOK Tryd.prog (envH (R4 K) [])
  | 0 => envOK_cons' (envOK_cons env0 c14) (fun args d hp hd => by
      exfalso
      have hp : q1 (fun x => setK 0 x != 0) (args.map (·.d)) = true := hp
      unfold q1 at hp
      split at hp
      · simp [setK] at hp
      · cases hp)
  | K + 1 => envOK_cons' (envOK_cons env0 c14) (ent1p k18 fun x d hq h ⟨_, hx⟩ => by
      cases h
      rw [n24]
      have hq : (setK (K + 1) x != 0) = true := hq
      exact text_at K (envR4 K) x (fun _ => by simpa using hq))
def eTx : FuncId × TypeId × (List AV → Bool) × (List AV → Option D) := (18, 9, yes, ent [24] (f1 fun x => some (.lit (.string (textT x)))))
theorem cTx : ∀ args d, eTx.2.2.2 args = some d → CallOK Tryd.prog 18 args (mkRes Tryd.prog 9 d) :=
  ent1 k18 fun x d h ⟨_, hx⟩ => by
    cases h
    rw [n24]
    exact text_at 3 (envR4 3) x may_set
end X
end Go.Proofs.YtbabfocagkkboaaDoor
