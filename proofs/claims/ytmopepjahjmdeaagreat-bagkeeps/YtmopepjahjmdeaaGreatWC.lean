/- What the evaluator comes to, function by function: by the kernel. Nothing here is trusted. -/
import Derived.Test.YtmopepjahjmdeaaGreatWB
namespace Go.Proofs.YtmopepjahjmdeaaGreat
namespace X
open Go.Ev
set_option linter.unusedVariables false
/- roadbook/expr.Eval$1 -/
def t90_h : Hints := fun i => if i = 8 then some ([0, 1, 2, 7, 8, 9, 10, 11, 12, 13, 14, 15, 16, 17, 18, 19, 20, 21, 22, 23, 24, 25, 26, 30, 31, 32, 33, 34, 35, 36, 37, 38, 39, 40, 41, 42, 43, 44, 45], [4, 5, 25, 1000000, 1000001, 1000002], []) else none
def t90_lp8 (P : Program) (fn : Func) (K : Nat) (N n : Nat) (x0 : D) (cols : D) (row : D) (v29 : Int) (b25 : List D) : Option (AV × List (Option Ent)) := evLoop (preL t90_h (sub [1, 1, 1, 0, 1, 0, 0] (bodyOf fn))) (evCode P (envH U4 (H5 K)) t90_h N (sub [1, 1, 1, 0, 1, 0, 0] (bodyOf fn))) n ⟨[dead, dead, dead, bxp 1000002 118, bxp 4 36, bxp 5 34, bxp 25 46, dead, dead, dead, dead, dead, dead, dead, dead, dead, dead, dead, dead, dead, dead, dead, dead, dead, dead, dead, dead, dat 26 (fieldD x0 3), dat 3 (.lit (.int .i64 ((elemsD (fieldD x0 3)).length : Int))), dat 3 (.lit (.int .i64 v29)), dead, dead, dead, dead, dead, dead, dead, dead, dead, dead, dead, dead, dead, dead, dead, dead], lookB [(4, some ⟨36, x0, 0, none⟩), (5, some ⟨34, .agg [.lit (.int .i64 0), .lit (.int .i64 0)], 0, none⟩), (25, some ⟨46, .slice b25 [], 2, none⟩), (1000000, some ⟨22, cols, 0, none⟩), (1000001, some ⟨46, row, 0, none⟩), (1000002, some ⟨118, .nil, 0, some (clo 118 90 [1000000, 1000001, 1000002])⟩)]⟩ (blockK 1 (seqC P (envH U4 (H5 K)) t90_h N (sub [1, 1, 1, 1] (bodyOf fn)) (finH P fn 3) ))
theorem t90_lp8_step (K : Nat) (N n : Nat) (x0 : D) (cols : D) (row : D) (v29 : Int) (b25 : List D) : t90_lp8 Tryz.prog Tryz.f90 K N (n + 1) x0 cols row v29 b25 =
  bif decide (v29 < ((elemsD (fieldD x0 3)).length : Int)) then
    bif (decide (0 ≤ v29) && decide (v29 < ((elemsD (fieldD x0 3)).length : Int))) then
      bif okK K ((elemsD (fieldD x0 3)).getD (v29).toNat .nil) then
        bif (decide (0 ≤ v29) && decide (v29 < (b25.length : Int))) then
          t90_lp8 Tryz.prog Tryz.f90 K N n x0 cols row (IntKind.wrap .i64 (v29 + 1)) (b25.set (v29).toNat (evalK (elemsD cols) (elemsD row) K ((elemsD (fieldD x0 3)).getD (v29).toNat .nil)))
        else none
      else none
    else none
  else bif (decide (0 ≤ (intD (fieldD x0 0))) && decide ((intD (fieldD x0 0)) < 11)) then
      bif comeOK (formT (intD (fieldD x0 0))) (.slice b25 []) then
        some (dat 34 (comeD (formT (intD (fieldD x0 0))) (.slice b25 [])), [some ⟨22, cols, 0, none⟩, some ⟨46, row, 0, none⟩, some ⟨118, .nil, 0, some (clo 118 90 [1000000, 1000001, 1000002])⟩])
      else none
    else none := by kernel_rfl
theorem t90 (K : Nat) (N : Nat) (x0 : D) (cols : D) (row : D) : evFnH Tryz.prog (envH U4 (H5 K)) t90_h N Tryz.f90 [dat 36 x0, bxp 1000000 22, bxp 1000001 46, bxp 1000002 118] [⟨22, cols, 0, none⟩, ⟨46, row, 0, none⟩, ⟨118, .nil, 0, some (clo 118 90 [1000000, 1000001, 1000002])⟩] =
  bif ((intD (fieldD x0 0)) == 0) then
    some (dat 34 (fieldD x0 2), [some ⟨22, cols, 0, none⟩, some ⟨46, row, 0, none⟩, some ⟨118, .nil, 0, some (clo 118 90 [1000000, 1000001, 1000002])⟩])
  else bif ((intD (fieldD x0 0)) == 1) then
      some (dat 34 (atD (intD (fieldD x0 1)) (elemsD cols) (elemsD row)), [some ⟨22, cols, 0, none⟩, some ⟨46, row, 0, none⟩, some ⟨118, .nil, 0, some (clo 118 90 [1000000, 1000001, 1000002])⟩])
    else bif (decide (0 ≤ ((elemsD (fieldD x0 3)).length : Int)) && decide (((elemsD (fieldD x0 3)).length : Int) ≤ 2147483648)) then
        t90_lp8 Tryz.prog Tryz.f90 K N N x0 cols row 0 (List.replicate (((elemsD (fieldD x0 3)).length : Int)).toNat (.agg [.lit (.int .i64 0), .lit (.int .i64 0)]))
      else none := by kernel_rfl

end X
end Go.Proofs.YtmopepjahjmdeaaGreat

namespace Go.Proofs.YtmopepjahjmdeaaGreat
namespace X
open Go.Ev
set_option linter.unusedVariables false
set_option linter.unusedSimpArgs false

theorem set_map_step {α β : Type} (F : α → β) {ks : List α} {tl : List β} {i : Nat} (h : i < ks.length) (ht : tl.length = ks.length - i) :
    ((ks.take i).map F ++ tl).set i (F ks[i]) = (ks.take (i + 1)).map F ++ tl.drop 1 := by
  cases tl with
  | nil => simp at ht; omega
  | cons b tl =>
    rw [List.set_append_right _ _ (by simp; omega)]
    have : i - ((ks.take i).map F).length = 0 := by simp; omega
    rw [this, List.take_succ_eq_append_getElem h, List.map_append]
    simp

theorem eval_loop {K N : Nat} {x0 cols row : D} (hl : (kids x0).length ≤ maxLen) (h2 : 2 ≤ opI x0) (h11 : opI x0 < 11) (htk : takesN (opI x0) ((kids x0).length : Int) = true) (hok : ∀ p ∈ kids x0, okK K p = true) : ∀ (n i : Nat) (tl : List D), i ≤ (kids x0).length → (kids x0).length - i < n → tl.length = (kids x0).length - i →
    t90_lp8 Tryz.prog Tryz.f90 K N n x0 cols row (i : Int) (((kids x0).take i).map (evalK (elemsD cols) (elemsD row) K) ++ tl) = some (dat 34 (opV (opI x0) ((kids x0).map (evalK (elemsD cols) (elemsD row) K))),
      [some ⟨22, cols, 0, none⟩, some ⟨46, row, 0, none⟩, some ⟨118, .nil, 0, some (clo 118 90 [1000000, 1000001, 1000002])⟩])
  | 0, i, tl, _, h, _ => by omega
  | n + 1, i, tl, hi, h, htl => by
    rw [t90_lp8_step, show elemsD (fieldD x0 3) = kids x0 from rfl, show intD (fieldD x0 0) = opI x0 from rfl]
    by_cases hlt : i < (kids x0).length
    · have h1 : decide ((i : Int) < ((kids x0).length : Int)) = true := by simpa using hlt
      have hlen : (((kids x0).take i).map (evalK (elemsD cols) (elemsD row) K) ++ tl).length = (kids x0).length := by simp; omega
      rw [hlen, idx_ok hlt, h1, cond_true, cond_true, Int.toNat_natCast, getD_lt hlt, hok _ (List.getElem_mem hlt), cond_true, cond_true, wrap_step hl hlt, set_map_step _ hlt htl]
      exact eval_loop hl h2 h11 htk hok n (i + 1) (tl.drop 1) (by omega) (by omega) (by simp; omega)
    · have h1 : decide ((i : Int) < ((kids x0).length : Int)) = false := by simpa using hlt
      have hi2 : i = (kids x0).length := by omega
      have htl0 : tl = [] := List.length_eq_zero_iff.1 (by omega)
      have d1 : (decide (0 ≤ opI x0) && decide (opI x0 < 11)) = true := by simp only [Bool.and_eq_true, decide_eq_true_eq]; omega
      subst htl0
      rw [h1, cond_false, hi2, List.take_length, List.append_nil, d1, cond_true]
      obtain ⟨o1, o2⟩ := op_form h2 h11
      have hcome : comeOK (formT (opI x0)) (.slice ((kids x0).map (evalK (elemsD cols) (elemsD row) K)) []) = true := by
        unfold comeOK
        rw [o2, takes_form (by omega) h11]
        show (true && takesN (opI x0) (((kids x0).map (evalK (elemsD cols) (elemsD row) K)).length : Int)) = true
        rw [List.length_map, htk]
        rfl
      have hcd : comeD (formT (opI x0)) (.slice ((kids x0).map (evalK (elemsD cols) (elemsD row) K)) []) = opV (opI x0) ((kids x0).map (evalK (elemsD cols) (elemsD row) K)) := by
        unfold comeD
        rw [o1]
        rfl
      rw [hcome, cond_true, hcd]

theorem fits_op {e : D} (h : fitsB e = true) : 0 ≤ opI e ∧ opI e < 11 ∧ 0 ≤ colI e ∧ colI e ≤ 15 ∧ mayB (fieldD e 2) = true ∧ takesN (opI e) ((kids e).length : Int) = true := by
  simp only [fitsB, Bool.and_eq_true, decide_eq_true_eq] at h
  obtain ⟨⟨⟨⟨⟨⟨⟨a, b⟩, c⟩, d⟩, e1⟩, _⟩, _⟩, f⟩ := h
  exact ⟨a, b, c, d, e1, f⟩
theorem takes_few {op n : Int} (h : takesN op n = true) : n ≤ 4 := by
  unfold takesN at h
  cases h1 : (op == 10) with
  | true => rw [h1, cond_true, beq_iff_eq] at h; omega
  | false =>
    cases h2 : (op == 0 || op == 1) with
    | true => rw [h1, h2, cond_false, cond_true, beq_iff_eq] at h; omega
    | false =>
      cases h3 : (op == 8 || op == 9) with
      | true => rw [h1, h2, h3, cond_false, cond_false, cond_true, decide_eq_true_eq] at h; omega
      | false => rw [h1, h2, h3, cond_false, cond_false, cond_false, beq_iff_eq] at h; omega
theorem evalK_succ (cols row : List D) (k : Nat) (e : D) : evalK cols row (k + 1) e = bif opI e == 0 then fieldD e 2 else bif opI e == 1 then atD (colI e) cols row else opV (opI e) ((kids e).map (evalK cols row k)) := rfl

theorem k90 : FnOK Tryz.prog 90 Tryz.f90 := ⟨Tryz.func90, rfl, by kernel_rfl⟩
theorem c90 (K : Nat) (henv : EnvOK Tryz.prog (envH U4 (H5 K))) : ∀ args hh r h', preH a90 b90 (q90 (K + 1)) args hh = true → entH a90 b90 (g90 (K + 1)) args hh = some (r, h') → HCallOK Tryz.prog 90 args hh r h' :=
  entH_ok rfl rfl fun ds es r h' hq hg => by
    obtain ⟨e, y1, y2, y3, c, v, u, rfl, rfl, rfl, rfl⟩ := g90_inv hg
    refine HCallOK.typed k90.ex fun ht he => ?_
    obtain ⟨_, t0⟩ := ht (dat 36 e) (by simp [fillA, a90, dat, bxp]) rfl
    have t0 : Ty Tryz.prog _ 36 e := t0
    obtain ⟨hl, _⟩ := ty_kids t0
    have hpre : okK (K + 1) e = true := hq
    simp only [okK_succ, Bool.and_eq_true, List.all_eq_true] at hpre
    obtain ⟨hfit, hall⟩ := hpre
    obtain ⟨f0, f1, _, _, _, f2⟩ := fits_op hfit
    refine fnH_ok hm henv k90 ((t90 K ((kids e).length + 1) e c v).trans ?_)
    show _ = some (dat 34 (evalK (elemsD c) (elemsD v) (K + 1) e), [some (⟨22, c, 0, none⟩ : Ent), some ⟨46, v, 0, none⟩, some ⟨118, .nil, 0, some (clo 118 90 [1000000, 1000001, 1000002])⟩])
    rw [evalK_succ, show elemsD (fieldD e 3) = kids e from rfl, show intD (fieldD e 0) = opI e from rfl, show intD (fieldD e 1) = colI e from rfl]
    cases h0 : (opI e == 0) with
    | true => rfl
    | false =>
      rw [cond_false, cond_false]
      cases h1 : (opI e == 1) with
      | true => rfl
      | false =>
        rw [cond_false, cond_false]
        have h0' : opI e ≠ 0 := by simpa using h0
        have h1' : opI e ≠ 1 := by simpa using h1
        have hd : (decide (0 ≤ ((kids e).length : Int)) && decide (((kids e).length : Int) ≤ 2147483648)) = true := by
          simp only [Bool.and_eq_true, decide_eq_true_eq]
          have := takes_few f2
          omega
        rw [hd, cond_true, Int.toNat_natCast]
        have := eval_loop (K := K) (N := (kids e).length + 1) (cols := c) (row := v) hl (by omega) f1 f2 hall ((kids e).length + 1) 0 (List.replicate (kids e).length (.agg [.lit (.int .i64 0), .lit (.int .i64 0)])) (Nat.zero_le _) (by omega) (by simp)
        simpa using this

theorem envH5 : ∀ K : Nat, EnvOK Tryz.prog (envH U4 (H5 K))
  | 0 => envOK_consH envU4 (fun args hh r h' hp _ => by
      exfalso
      have hp : preH a90 b90 (q90 0) args hh = true := hp
      unfold preH at hp
      rw [Bool.and_eq_true] at hp
      have := hp.2
      simp [q90, okK] at this)
  | K + 1 => envOK_consH envU4 (fun args hh r h' hp hd => c90 K (envH5 K) args hh r h' hp hd)

def e67 : FuncId × TypeId × (List AV → Bool) × (List AV → Option D) := (67, 34, yes, ent [36, 22, 46] (f3 fun x y z => some (evalE x (elemsD y) (elemsD z))))
def U5 : Tab := e67 :: U4
/-! ### Pair -/
def pairE (e : D) : Bool := mayE e && (opI e == 6 && (opI ((kids e).getD 0 .nil) == 1 && (opI ((kids e).getD 1 .nil) == 1 && !(colI ((kids e).getD 0 .nil) == colI ((kids e).getD 1 .nil)))))
def pairA (e : D) : Int := bif pairE e then colI ((kids e).getD 0 .nil) else 0
def pairB (e : D) : Int := bif pairE e then colI ((kids e).getD 1 .nil) else 0

end X
end Go.Proofs.YtmopepjahjmdeaaGreat

namespace Go.Proofs.YtmopepjahjmdeaaGreat
namespace X
open Go.Ev
set_option linter.unusedVariables false
/- roadbook/expr.Eval -/
def t67_h : Hints := fun _ =>  none
theorem t67 (N : Nat) (x0 : D) (x1 : D) (x2 : D) : evFn Tryz.prog (envH U4 (H5 7)) t67_h N Tryz.f67 [dat 36 x0, dat 22 x1, dat 46 x2] =
  bif (!(mayE x0)) then
    some (dat 34 (.agg [.lit (.int .i64 2), .lit (.int .i64 0)]))
  else bif okK 7 x0 then
      some (dat 34 (evalK (elemsD x1) (elemsD x2) 7 x0))
    else none := by kernel_rfl

/- roadbook/expr.Keeps -/
def t49_h : Hints := fun _ =>  none
theorem t49 (N : Nat) (x0 : D) (x1 : D) (x2 : D) : evFn Tryz.prog (envH U5 []) t49_h N Tryz.f49 [dat 36 x0, dat 22 x1, dat 46 x2] =
  some (dat 4 (.lit (.bool (isTru (evalE x0 (elemsD x1) (elemsD x2)))))) := by kernel_rfl

end X
end Go.Proofs.YtmopepjahjmdeaaGreat

namespace Go.Proofs.YtmopepjahjmdeaaGreat
namespace X
open Go.Ev
set_option linter.unusedVariables false
set_option linter.unusedSimpArgs false

theorem k67 : FnOK Tryz.prog 67 Tryz.f67 := ⟨Tryz.func67, rfl, by kernel_rfl⟩
theorem c67 : ∀ args d, e67.2.2.2 args = some d → CallOK Tryz.prog 67 args (mkRes Tryz.prog 34 d) :=
  ent3 k67 fun x y z d h _ _ _ => by
    cases h
    rw [n26, n27, n28]
    refine fn_ok hm (envH5 7) k67 ((t67 1 x y z).trans ?_)
    rw [m23]
    unfold evalE
    cases hmay : mayE x with
    | false => rfl
    | true =>
      rw [mayE_ok hmay]
      rfl
theorem envU5 : EnvOK Tryz.prog (envH U5 []) := envOK_cons envU4 c67
def e49 : FuncId × TypeId × (List AV → Bool) × (List AV → Option D) := (49, 4, yes, ent [36, 22, 46] (f3 fun x y z => some (.lit (.bool (keepsE x (elemsD y) (elemsD z))))))
theorem k49 : FnOK Tryz.prog 49 Tryz.f49 := ⟨Tryz.func49, rfl, by kernel_rfl⟩
theorem c49 : ∀ args d, e49.2.2.2 args = some d → CallOK Tryz.prog 49 args (mkRes Tryz.prog 4 d) :=
  ent3 k49 fun x y z d h _ _ _ => by
    cases h
    rw [n26, n27, n28]
    refine fn_ok hm envU5 k49 ((t49 1 x y z).trans ?_)
    rw [m4]
    rfl
def U6 : Tab := e49 :: U5
theorem envU6 : EnvOK Tryz.prog (envH U6 []) := envOK_cons envU5 c49

/-! ### How many parts; has it a column: by levels -/
def e48 (K : Nat) : FuncId × TypeId × (List AV → Bool) × (List AV → Option D) := (48, 3, fun xs => decide (0 ≤ intD (xs.getD 1 dead).d) && decide (intD (xs.getD 1 dead).d < (K : Int)) && decide (K ≤ 1001), ent [36, 3] (f2 fun x y => some (.lit (.int .i64 (sizeK K x (intD y))))))
def U7 (K : Nat) : Tab := e48 K :: U6

end X
end Go.Proofs.YtmopepjahjmdeaaGreat

namespace Go.Proofs.YtmopepjahjmdeaaGreat
namespace X
open Go.Ev
set_option linter.unusedVariables false
/- roadbook/roadbookref02.size -/
def t48_h : Hints := fun i => if i = 3 then some ([0, 3, 4, 7, 8, 9, 10, 11, 12, 13, 14, 15, 16, 17, 18, 19, 20, 21, 22, 23, 24, 25, 26, 27, 28, 29, 30], [2], []) else none
def t48_lp3 (P : Program) (fn : Func) (K : Nat) (N n : Nat) (x0 : D) (x1 : Int) (v5 : Int) (v6 : Int) : Option AV := evLoop (preL t48_h (sub [1, 1, 0, 1, 0, 0] (bodyOf fn))) (evCode P (envH (U7 K) []) t48_h N (sub [1, 1, 0, 1, 0, 0] (bodyOf fn))) n ⟨[dead, dat 3 (.lit (.int .i64 x1)), bxp 2 36, dead, dead, dat 3 (.lit (.int .i64 v5)), dat 3 (.lit (.int .i64 v6)), dead, dead, dead, dead, dead, dead, dead, dead, dead, dead, dead, dead, dead, dead, dead, dead, dead, dead, dead, dead, dead, dead, dead, dead], lookB [(2, some ⟨36, x0, 0, none⟩)]⟩ (blockK 0 (seqC P (envH (U7 K) []) t48_h N (sub [1, 1, 1] (bodyOf fn)) (finK P fn) ))
theorem t48_lp3_step (K : Nat) (N n : Nat) (x0 : D) (x1 : Int) (v5 : Int) (v6 : Int) : t48_lp3 Tryz.prog Tryz.f48 K N (n + 1) x0 x1 v5 v6 =
  bif ((decide (v6 < ((elemsD (fieldD x0 3)).length : Int))) == true) then
    bif decide (v5 ≤ x1) then
      bif (decide (0 ≤ v6) && decide (v6 < ((elemsD (fieldD x0 3)).length : Int))) then
        bif (decide (0 ≤ (IntKind.wrap .i64 (x1 - v5))) && decide ((IntKind.wrap .i64 (x1 - v5)) < (K : Int)) && decide (K ≤ 1001)) then
          t48_lp3 Tryz.prog Tryz.f48 K N n x0 x1 (IntKind.wrap .i64 (v5 + (sizeK K ((elemsD (fieldD x0 3)).getD (v6).toNat .nil) (IntKind.wrap .i64 (x1 - v5))))) (IntKind.wrap .i64 (v6 + 1))
        else none
      else none
    else some (dat 3 (.lit (.int .i64 v5)))
  else some (dat 3 (.lit (.int .i64 v5))) := by kernel_rfl
theorem t48 (K : Nat) (N : Nat) (x0 : D) (x1 : Int) : evFn Tryz.prog (envH (U7 K) []) t48_h N Tryz.f48 [dat 36 x0, dat 3 (.lit (.int .i64 x1))] =
  t48_lp3 Tryz.prog Tryz.f48 K N N x0 x1 1 0 := by kernel_rfl

end X
end Go.Proofs.YtmopepjahjmdeaaGreat

namespace Go.Proofs.YtmopepjahjmdeaaGreat
namespace X
open Go.Ev
set_option linter.unusedVariables false
set_option linter.unusedSimpArgs false

theorem entp2 {f : FuncId} {fn : Func} {t t1 t2 : TypeId} {F : D → D → Option D} {pre : List AV → Bool} {q : D → D → Bool} (hf : FnOK Tryz.prog f fn) (hpre : ∀ args, pre args = q (args.getD 0 dead).d (args.getD 1 dead).d)
    (h : ∀ x y d, q x y = true → F x y = some d → (∃ n, Ty Tryz.prog n t1 x) → (∃ n, Ty Tryz.prog n t2 y) → CallOK Tryz.prog f [dat t1 (normD Tryz.prog t1 x), dat t2 (normD Tryz.prog t2 y)] (mkRes Tryz.prog t d)) :
    ∀ args d, pre args = true → ent [t1, t2] (f2 F) args = some d → CallOK Tryz.prog f args (mkRes Tryz.prog t d) := by
  intro args d hp hd
  have key := ent2 (P := Tryz.prog) (f := f) (t := t) (t1 := t1) (t2 := t2) (F := fun x y => if q x y = true then F x y else none) hf (fun x y d h' hx hy => by
    split at h'
    · rename_i hq; exact h x y d hq h' hx hy
    · cases h')
  refine key args d ?_
  unfold ent at hd ⊢
  split at hd
  · rename_i hs
    rw [if_pos hs]
    match args, hd, hp with
    | [a, b], hd, hp =>
      rw [hpre] at hp
      have hp : q a.d b.d = true := hp
      show (if q a.d b.d = true then F a.d b.d else none) = some d
      rw [if_pos hp]
      exact hd
    | [], hd, _ => cases hd
    | [_], hd, _ => cases hd
    | _ :: _ :: _ :: _, hd, _ => cases hd
  · cases hd

/-! ### How many parts -/
theorem sizeL_cons (g : D → Int → Int) (most : Int) (p : D) (l : List D) (n : Int) : sizeL g most (p :: l) n = bif decide (n ≤ most) then sizeL g most l (n + g p (most - n)) else n := rfl
theorem sizeL_over {g : D → Int → Int} {most n : Int} (h : ¬ n ≤ most) : ∀ l, sizeL g most l n = n
  | [] => rfl
  | p :: l => by
    rw [sizeL_cons]
    have : decide (n ≤ most) = false := by simpa using h
    rw [this, cond_false]
theorem sizeL_bound {g : D → Int → Int} (hg : ∀ p m, 0 ≤ m → 1 ≤ g p m ∧ g p m ≤ m + 1) {most : Int} : ∀ (l : List D) (n : Int), 1 ≤ n → n ≤ most + 1 → 1 ≤ sizeL g most l n ∧ sizeL g most l n ≤ most + 1
  | [], n, h1, h2 => ⟨h1, h2⟩
  | p :: l, n, h1, h2 => by
    rw [sizeL_cons]
    by_cases h : n ≤ most
    · have hd : decide (n ≤ most) = true := by simpa using h
      rw [hd, cond_true]
      obtain ⟨a, b⟩ := hg p (most - n) (by omega)
      exact sizeL_bound hg l _ (by omega) (by omega)
    · have hd : decide (n ≤ most) = false := by simpa using h
      rw [hd, cond_false]
      exact ⟨h1, h2⟩
theorem sizeK_bound : ∀ (k : Nat) (e : D) (m : Int), 0 ≤ m → 1 ≤ sizeK k e m ∧ sizeK k e m ≤ m + 1
  | 0, e, m, h => ⟨Int.le_refl 1, by show (1 : Int) ≤ m + 1; omega⟩
  | k + 1, e, m, h => sizeL_bound (fun p m' h' => sizeK_bound k p m' h') (kids e) 1 (by omega) (by omega)

theorem size_loop {K N : Nat} {x0 : D} {most : Int} (hK : K ≤ 1001) (hm0 : 0 ≤ most) (hm1 : most < (K : Int) + 1) (hl : (kids x0).length ≤ maxLen) : ∀ (n i : Nat) (c : Int), i ≤ (kids x0).length → (kids x0).length - i < n → 1 ≤ c → c ≤ most + 1 →
    t48_lp3 Tryz.prog Tryz.f48 K N n x0 most c (i : Int) = some (dat 3 (.lit (.int .i64 (sizeL (sizeK K) most ((kids x0).drop i) c))))
  | 0, i, c, _, h, _, _ => by omega
  | n + 1, i, c, hi, h, hc1, hc2 => by
    rw [t48_lp3_step, show elemsD (fieldD x0 3) = kids x0 from rfl]
    by_cases hlt : i < (kids x0).length
    · have h1 : decide ((i : Int) < ((kids x0).length : Int)) = true := by simpa using hlt
      rw [List.drop_eq_getElem_cons hlt, sizeL_cons, idx_ok hlt, h1]
      by_cases h2 : c ≤ most
      · have d2 : decide (c ≤ most) = true := by simpa using h2
        have hw : IntKind.wrap .i64 (most - c) = most - c := wrap_in (by rw [inR_iff]; omega)
        have hp : (decide (0 ≤ most - c) && decide (most - c < (K : Int)) && decide (K ≤ 1001)) = true := by
          simp only [Bool.and_eq_true, decide_eq_true_eq]
          omega
        obtain ⟨s1, s2⟩ := sizeK_bound K (kids x0)[i] (most - c) (by omega)
        have hw2 : IntKind.wrap .i64 (c + sizeK K (kids x0)[i] (most - c)) = c + sizeK K (kids x0)[i] (most - c) := wrap_in (by rw [inR_iff]; omega)
        rw [d2, hw, hp, Int.toNat_natCast, getD_lt hlt, hw2, wrap_step hl hlt]
        exact size_loop hK hm0 hm1 hl n (i + 1) _ (by omega) (by omega) (by omega) (by omega)
      · have d2 : decide (c ≤ most) = false := by simpa using h2
        rw [d2]
        rfl
    · have h1 : decide ((i : Int) < ((kids x0).length : Int)) = false := by simpa using hlt
      have h2 : (kids x0).drop i = [] := List.drop_of_length_le (by omega)
      rw [h1, h2]
      rfl

theorem k48 : FnOK Tryz.prog 48 Tryz.f48 := ⟨Tryz.func48, rfl, by kernel_rfl⟩
theorem c48 (K : Nat) (henv : EnvOK Tryz.prog (envH (U7 K) [])) : ∀ args d, (e48 (K + 1)).2.2.1 args = true → (e48 (K + 1)).2.2.2 args = some d → CallOK Tryz.prog 48 args (mkRes Tryz.prog 3 d) :=
  entp2 k48 (q := fun x y => decide (0 ≤ intD y) && decide (intD y < ((K + 1 : Nat) : Int)) && decide (K + 1 ≤ 1001)) (fun _ => rfl) fun x y d hq h ⟨_, hx⟩ ⟨_, hy⟩ => by
    cases h
    rw [n26, n3]
    simp only [Bool.and_eq_true, decide_eq_true_eq] at hq
    obtain ⟨z, rfl, _⟩ := ty3' hy
    have hq : (0 ≤ z ∧ z < ((K + 1 : Nat) : Int)) ∧ K + 1 ≤ 1001 := hq
    obtain ⟨hl, _⟩ := ty_kids hx
    refine fn_ok hm henv k48 ((t48 K ((kids x).length + 1) x z).trans ?_)
    rw [m3]
    exact size_loop (K := K) (by omega) hq.1.1 (by omega) hl ((kids x).length + 1) 0 1 (Nat.zero_le _) (by omega) (by omega) (by omega)
theorem envU7 : ∀ K : Nat, EnvOK Tryz.prog (envH (U7 K) [])
  | 0 => envOK_cons' envU6 (fun args d hp _ => by
        exfalso
        simp only [Bool.and_eq_true, decide_eq_true_eq] at hp
        have : (0 : Int) ≤ intD (args.getD 1 dead).d := hp.1.1
        have : intD (args.getD 1 dead).d < ((0 : Nat) : Int) := hp.1.2
        omega)
  | K + 1 => envOK_cons' envU6 (c48 K (envU7 K))

def fewB (e : D) (n : Int) : Bool := decide (sizeK 1001 e n ≤ n)
def smallD : D := .agg [.lit (.int .i64 7), .lit (.int .i64 0), .agg [.lit (.int .i64 0), .lit (.int .i64 0)], .slice [.agg [.lit (.int .i64 1), .lit (.int .i64 3), .agg [.lit (.int .i64 0), .lit (.int .i64 0)], .slice [] []], .agg [.lit (.int .i64 0), .lit (.int .i64 0), .agg [.lit (.int .i64 0), .lit (.int .i64 5)], .slice [] []]] []]
end X
end Go.Proofs.YtmopepjahjmdeaaGreat

namespace Go.Proofs.YtmopepjahjmdeaaGreat
namespace X
open Go.Ev
set_option linter.unusedVariables false
/- roadbook/roadbookref02.Few -/
def t19_h : Hints := fun _ =>  none
theorem t19 (N : Nat) (x0 : D) (x1 : Int) : evFn Tryz.prog (envH (U7 1001) []) t19_h N Tryz.f19 [dat 36 x0, dat 3 (.lit (.int .i64 x1))] =
  bif (decide (0 ≤ x1) && decide (x1 < (1001 : Int)) && decide (1001 ≤ 1001)) then
    some (dat 4 (.lit (.bool (decide ((sizeK 1001 x0 x1) ≤ x1)))))
  else none := by kernel_rfl

end X
end Go.Proofs.YtmopepjahjmdeaaGreat

namespace Go.Proofs.YtmopepjahjmdeaaGreat
namespace X
open Go.Ev
set_option linter.unusedVariables false
set_option linter.unusedSimpArgs false

theorem m26 (x : D) : mkRes Tryz.prog 36 x = dat 36 x := by kernel_rfl
theorem small_cols : colsE smallD = [.lit (.int .i64 3)] := by
  have h1 : mayE smallD = true := rfl
  have h2 : colsK 7 smallD = [litI 3] := rfl
  unfold colsE
  rw [h1, h2, cond_true]
  have h3 : sortD [litI 3] = [litI 3] := by
    unfold sortD sortI
    simp [litI, intD]
  rw [h3]
  rfl
def e19 : FuncId × TypeId × (List AV → Bool) × (List AV → Option D) := (19, 4, fun xs => decide (0 ≤ intD (xs.getD 1 dead).d) && decide (intD (xs.getD 1 dead).d ≤ 1000), ent [36, 3] (f2 fun x y => some (.lit (.bool (fewB x (intD y))))))
theorem k19 : FnOK Tryz.prog 19 Tryz.f19 := ⟨Tryz.func19, rfl, by kernel_rfl⟩
theorem c19 : ∀ args d, e19.2.2.1 args = true → e19.2.2.2 args = some d → CallOK Tryz.prog 19 args (mkRes Tryz.prog 4 d) :=
  entp2 k19 (q := fun x y => decide (0 ≤ intD y) && decide (intD y ≤ 1000)) (fun _ => rfl) fun x y d hq h _ ⟨_, hy⟩ => by
    cases h
    rw [n26, n3]
    simp only [Bool.and_eq_true, decide_eq_true_eq] at hq
    obtain ⟨z, rfl, _⟩ := ty3' hy
    have hq : 0 ≤ z ∧ z ≤ 1000 := hq
    refine fn_ok hm (envU7 1001) k19 ((t19 1 x z).trans ?_)
    rw [m4]
    have h1 : (decide (0 ≤ z) && decide (z < (1001 : Int)) && decide (1001 ≤ 1001)) = true := by
      simp only [Bool.and_eq_true, decide_eq_true_eq]
      omega
    rw [h1]
    rfl
def U9 : Tab := e19 :: U6
theorem envU9 : EnvOK Tryz.prog (envH U9 []) := envOK_cons' envU6 c19

end X
end Go.Proofs.YtmopepjahjmdeaaGreat

namespace Go.Proofs.YtmopepjahjmdeaaGreat
namespace X
open Go.Ev
set_option linter.unusedVariables false
set_option linter.unusedSimpArgs false

/-! ### Levels -/
theorem ok_shift : ∀ (K : Nat) (e : D), okK K e = true → okK (K + 1) e = true
  | 0, e, h => by cases h
  | K + 1, e, h => by
    rw [okK_succ, Bool.and_eq_true, List.all_eq_true] at h
    rw [okK_succ, Bool.and_eq_true, List.all_eq_true]
    exact ⟨h.1, fun p hp => ok_shift K p (h.2 p hp)⟩
theorem eval_shift (c r : List D) : ∀ (K : Nat) (e : D), okK K e = true → evalK c r (K + 1) e = evalK c r K e
  | 0, e, h => by cases h
  | K + 1, e, h => by
    rw [okK_succ, Bool.and_eq_true, List.all_eq_true] at h
    rw [evalK_succ, evalK_succ c r K]
    have : (kids e).map (evalK c r (K + 1)) = (kids e).map (evalK c r K) := List.map_congr_left fun p hp => eval_shift c r K p (h.2 p hp)
    rw [this]
theorem cols_shift : ∀ (K : Nat) (e : D), okK K e = true → colsK (K + 1) e = colsK K e
  | 0, e, h => by cases h
  | K + 1, e, h => by
    rw [okK_succ, Bool.and_eq_true, List.all_eq_true] at h
    rw [colsK_succ, colsK_succ K]
    have : (kids e).flatMap (colsK (K + 1)) = (kids e).flatMap (colsK K) := by
      rw [List.flatMap_def, List.flatMap_def]
      rw [List.map_congr_left fun p hp => cols_shift K p (h.2 p hp)]
    rw [this]

/-! ### What may be, said otherwise -/
def szK : Nat → D → Int
  | 0, _ => 1
  | k + 1, e => 1 + ((kids e).map (szK k)).sum
def okD : Nat → D → Int → Bool
  | 0, _, _ => false
  | k + 1, e, deep => (fitsB e && decide (deep ≤ 6)) && (kids e).all fun p => okD k p (deep + 1)
theorem szK_succ (k : Nat) (e : D) : szK (k + 1) e = 1 + ((kids e).map (szK k)).sum := rfl
theorem okD_succ (k : Nat) (e : D) (deep : Int) : okD (k + 1) e deep = ((fitsB e && decide (deep ≤ 6)) && (kids e).all fun p => okD k p (deep + 1)) := rfl
theorem sum_pos {s : D → Int} (hs : ∀ p, 1 ≤ s p) : ∀ l : List D, 0 ≤ (l.map s).sum
  | [] => by simp
  | p :: l => by
    rw [List.map_cons, List.sum_cons]
    have := hs p
    have := sum_pos hs l
    omega
theorem sum_mem {s : D → Int} (hs : ∀ p, 1 ≤ s p) : ∀ (l : List D) (p : D), p ∈ l → s p ≤ (l.map s).sum
  | q :: l, p, h => by
    rw [List.map_cons, List.sum_cons]
    have h1 := hs q
    have h2 := sum_pos hs l
    rcases List.mem_cons.1 h with rfl | h
    · omega
    · have := sum_mem hs l p h
      omega
theorem szK_pos : ∀ (K : Nat) (e : D), 1 ≤ szK K e
  | 0, e => Int.le_refl 1
  | K + 1, e => by
    rw [szK_succ]
    have := sum_pos (szK_pos K) (kids e)
    omega
theorem goL_iff {g : D → Int → Bool × Int} {s : D → Int} {o : D → Bool} (hs : ∀ p, 1 ≤ s p) (hg : ∀ p m, m ≤ 30 → ((g p m).1 = true ↔ o p = true ∧ m + s p ≤ 30) ∧ ((g p m).1 = true → (g p m).2 = m + s p)) :
    ∀ (l : List D) (m : Int), m ≤ 30 → ((goL g l m).1 = true ↔ l.all o = true ∧ m + (l.map s).sum ≤ 30) ∧ ((goL g l m).1 = true → (goL g l m).2 = m + (l.map s).sum)
  | [], m, h => ⟨⟨fun _ => ⟨rfl, by simpa using h⟩, fun _ => rfl⟩, fun _ => by simp [goL]⟩
  | p :: l, m, h => by
    rw [goL_cons]
    obtain ⟨h1, h2⟩ := hg p m h
    have hpos := sum_pos hs l
    rw [List.all_cons, List.map_cons, List.sum_cons]
    cases hp : (g p m).1 with
    | false =>
      rw [cond_false]
      refine ⟨⟨fun hh => (by cases hh), fun hh => ?_⟩, fun hh => (by cases hh)⟩
      rw [Bool.and_eq_true] at hh
      have := h1.2 ⟨hh.1.1, by omega⟩
      rw [hp] at this
      cases this
    | true =>
      rw [cond_true]
      have hv := h2 hp
      obtain ⟨o1, o2⟩ := h1.1 hp
      obtain ⟨i1, i2⟩ := goL_iff hs hg l (g p m).2 (by omega)
      refine ⟨⟨fun hh => ?_, fun hh => ?_⟩, fun hh => ?_⟩
      · obtain ⟨a, b⟩ := i1.1 hh
        rw [Bool.and_eq_true]
        exact ⟨⟨o1, a⟩, by omega⟩
      · rw [Bool.and_eq_true] at hh
        exact i1.2 ⟨hh.1.2, by omega⟩
      · rw [i2 hh, hv]
        omega
theorem see_iff {e : D} {deep n : Int} : seeMay e deep n = true ↔ n + 1 ≤ 30 ∧ deep ≤ 6 ∧ fitsB e = true := by
  refine ⟨see_true, fun ⟨a, b, c⟩ => ?_⟩
  unfold seeMay
  have d1 : decide (n + 1 ≤ 30) = true := by simpa using a
  have d2 : decide (deep ≤ 6) = true := by simpa using b
  rw [d1, d2, c]
  rfl
theorem mayAll_iff : ∀ (K : Nat) (e : D) (deep n : Int), n ≤ 30 → ((mayAll K e deep n).1 = true ↔ okD K e deep = true ∧ n + szK K e ≤ 30) ∧ ((mayAll K e deep n).1 = true → (mayAll K e deep n).2 = n + szK K e)
  | 0, e, deep, n, h => ⟨⟨fun h => (by cases h), fun h => (by cases h.1)⟩, fun h => (by cases h)⟩
  | K + 1, e, deep, n, h => by
    rw [mayAll_succ, okD_succ, szK_succ]
    have hpos := sum_pos (szK_pos K) (kids e)
    cases hs : seeMay e deep n with
    | false =>
      rw [cond_false]
      refine ⟨⟨fun hh => (by cases hh), fun hh => ?_⟩, fun hh => (by cases hh)⟩
      rw [Bool.and_eq_true, Bool.and_eq_true, decide_eq_true_eq] at hh
      have := see_iff.2 ⟨(by omega : n + 1 ≤ 30), hh.1.1.2, hh.1.1.1⟩
      rw [hs] at this
      cases this
    | true =>
      rw [cond_true]
      obtain ⟨s1, s2, s3⟩ := see_iff.1 hs
      obtain ⟨i1, i2⟩ := goL_iff (o := fun p => okD K p (deep + 1)) (szK_pos K) (fun p m hm => mayAll_iff K p (deep + 1) m hm) (kids e) (n + 1) s1
      refine ⟨⟨fun hh => ?_, fun hh => ?_⟩, fun hh => ?_⟩
      · obtain ⟨a, b⟩ := i1.1 hh
        rw [Bool.and_eq_true, Bool.and_eq_true, decide_eq_true_eq]
        exact ⟨⟨⟨s3, s2⟩, a⟩, by omega⟩
      · rw [Bool.and_eq_true] at hh
        exact i1.2 ⟨hh.1.2, by omega⟩
      · rw [i2 hh]
        omega
theorem mayE_iff {e : D} : mayE e = true ↔ okD 7 e 1 = true ∧ szK 7 e ≤ 30 := by
  have := (mayAll_iff 7 e 1 0 (by omega)).1
  rw [Int.zero_add] at this
  exact this
theorem okD_ok : ∀ (K : Nat) (e : D) (deep : Int), okD K e deep = true → okK K e = true
  | 0, e, deep, h => by cases h
  | K + 1, e, deep, h => by
    rw [okD_succ, Bool.and_eq_true, Bool.and_eq_true, List.all_eq_true] at h
    rw [okK_succ, Bool.and_eq_true, List.all_eq_true]
    exact ⟨h.1.1, fun p hp => okD_ok K p _ (h.2 p hp)⟩
theorem okD_mono : ∀ (K : Nat) (e : D) (deep deep' : Int), okD K e deep = true → deep' ≤ deep → okD (K + 1) e deep' = true
  | 0, e, deep, deep', h, _ => by cases h
  | K + 1, e, deep, deep', h, hd => by
    rw [okD_succ, Bool.and_eq_true, Bool.and_eq_true, List.all_eq_true, decide_eq_true_eq] at h
    rw [okD_succ, Bool.and_eq_true, Bool.and_eq_true, List.all_eq_true, decide_eq_true_eq]
    exact ⟨⟨h.1.1, by omega⟩, fun p hp => okD_mono K p _ _ (h.2 p hp) (by omega)⟩
theorem sz_shift : ∀ (K : Nat) (e : D), okK K e = true → szK (K + 1) e = szK K e
  | 0, e, h => by cases h
  | K + 1, e, h => by
    rw [okK_succ, Bool.and_eq_true, List.all_eq_true] at h
    rw [szK_succ, szK_succ K]
    have : (kids e).map (szK (K + 1)) = (kids e).map (szK K) := List.map_congr_left fun p hp => sz_shift K p (h.2 p hp)
    rw [this]
/-- A part of what may be may be. -/
theorem may_part {e p : D} (h : mayE e = true) (hp : p ∈ kids e) : mayE p = true ∧ okK 6 p = true := by
  obtain ⟨h1, h2⟩ := mayE_iff.1 h
  rw [okD_succ, Bool.and_eq_true, List.all_eq_true] at h1
  have h3 := h1.2 p hp
  have h4 := okD_ok 6 p _ h3
  refine ⟨mayE_iff.2 ⟨okD_mono 6 p _ _ h3 (by omega), ?_⟩, h4⟩
  rw [sz_shift 6 p h4]
  rw [szK_succ] at h2
  have := sum_mem (szK_pos 6) (kids e) p hp
  omega

/-! ### Sorted, and each once -/
theorem compUp_mem (d : Array Int) : ∀ (m j : Nat), j < m → d[j]! ∈ Lib.compactUpTo d m
  | 0, j, h => by omega
  | m + 1, j, h => by
    rw [Lib.compactUpTo_succ, List.mem_append]
    by_cases hj : j < m
    · exact .inl (compUp_mem d m j hj)
    · have : j = m := by omega
      subst this
      by_cases hk : Lib.keeps d j = true
      · right; rw [if_pos hk]; simp
      · left
        unfold Lib.keeps at hk
        simp only [ne_eq, decide_eq_true_eq, not_or, Decidable.not_not] at hk
        rw [hk.2]
        exact compUp_mem d j (j - 1) (by omega)
theorem compUp_lt (d : Array Int) (hd : ∀ i j : Nat, i ≤ j → j < d.size → d[i]! ≤ d[j]!) : ∀ (m : Nat), m ≤ d.size → (Lib.compactUpTo d m).Pairwise (· < ·) ∧ ∀ x ∈ Lib.compactUpTo d m, x ≤ d[m - 1]! ∧ 0 < m
  | 0, _ => by simp [Lib.compactUpTo]
  | m + 1, h => by
    obtain ⟨h1, h2⟩ := compUp_lt d hd m (by omega)
    rw [Lib.compactUpTo_succ]
    have hle : ∀ x ∈ Lib.compactUpTo d m, x ≤ d[m]! := fun x hx => by
      obtain ⟨a, b⟩ := h2 x hx
      exact Int.le_trans a (hd (m - 1) m (by omega) (by omega))
    refine ⟨?_, ?_⟩
    · rw [List.pairwise_append]
      by_cases hk : Lib.keeps d m = true
      · rw [if_pos hk]
        refine ⟨h1, by simp, fun x hx y hy => ?_⟩
        rw [List.mem_singleton] at hy
        subst hy
        obtain ⟨a, b⟩ := h2 x hx
        have hc := hd (m - 1) m (by omega) (by omega)
        unfold Lib.keeps at hk
        simp only [ne_eq, decide_eq_true_eq] at hk
        rcases hk with hk | hk
        · omega
        · omega
      · rw [if_neg hk]
        exact ⟨h1, by simp, by simp⟩
    · intro x hx
      rw [List.mem_append] at hx
      refine ⟨?_, by omega⟩
      rw [Nat.add_sub_cancel]
      rcases hx with hx | hx
      · exact hle x hx
      · split at hx
        · rw [List.mem_singleton] at hx
          rw [hx]
          exact Int.le_refl _
        · cases hx
def cset (l : List Int) : List Int := Lib.compact (sortI l)
theorem sortI_sorted (l : List Int) : (sortI l).Pairwise (· ≤ ·) := by
  have := List.pairwise_mergeSort (le := fun x y : Int => decide (x ≤ y)) (fun a b c h1 h2 => by simp at h1 h2 ⊢; omega) (fun a b => by simp; omega) l
  unfold sortI
  exact this.imp (by simp)
theorem cset_lt (l : List Int) : (cset l).Pairwise (· < ·) := by
  unfold cset Lib.compact
  refine (compUp_lt _ ?_ _ (by simp)).1
  intro i j hij hj
  have hs := sortI_sorted l
  have hj' : j < (sortI l).length := by simpa using hj
  by_cases he : i = j
  · subst he; exact Int.le_refl _
  · rw [List.pairwise_iff_getElem] at hs
    have := hs i j (by omega) hj' (by omega)
    rw [getElem!_pos (sortI l).toArray i (by simp; omega), getElem!_pos (sortI l).toArray j hj]
    simpa using this
theorem mem_cset {l : List Int} {z : Int} : z ∈ cset l ↔ z ∈ l := by
  refine ⟨fun h => mem_sortI.1 (mem_compact h), fun h => ?_⟩
  obtain ⟨j, hj, rfl⟩ := List.getElem_of_mem (mem_sortI.2 h)
  unfold cset Lib.compact
  have := compUp_mem (sortI l).toArray (sortI l).length j hj
  rw [getElem!_pos (sortI l).toArray j (by simpa using hj)] at this
  simpa using this
theorem len_sub : ∀ {a b : List Int}, a.Nodup → a ⊆ b → a.length ≤ b.length
  | [], b, _, _ => Nat.zero_le _
  | x :: a, b, h, hs => by
    rw [List.nodup_cons] at h
    have hx : x ∈ b := hs (List.mem_cons_self ..)
    have h1 : a ⊆ b.erase x := fun y hy => by
      have hne : y ≠ x := fun he => h.1 (he ▸ hy)
      exact (List.mem_erase_of_ne hne).2 (hs (List.mem_cons_of_mem _ hy))
    have h2 := len_sub h.2 h1
    rw [List.length_erase_of_mem hx] at h2
    have : 0 < b.length := List.length_pos_of_mem hx
    simp only [List.length_cons]
    omega
theorem cset_nodup (l : List Int) : (cset l).Nodup := (cset_lt l).imp (fun h => by omega)
theorem cset_append (a b : List Int) : (cset (a ++ b)).length ≤ (cset a).length + (cset b).length := by
  rw [← List.length_append]
  refine len_sub (cset_nodup _) fun z hz => ?_
  rw [mem_cset, List.mem_append] at hz
  rw [List.mem_append, mem_cset, mem_cset]
  exact hz
theorem cset_len (l : List Int) : (cset l).length ≤ l.length := Nat.le_trans (compact_length _) (by rw [sortI_length]; exact Nat.le_refl _)

/-! ### Columns -/
theorem map_litI (l : List Int) : (l.map litI).map intD = l := by
  rw [List.map_map]
  have : intD ∘ litI = id := rfl
  rw [this, List.map_id]
def colsI (K : Nat) (e : D) : List Int := (colsK K e).map intD
theorem colsE_eq {e : D} (h : mayE e = true) : colsE e = (cset (colsI 7 e)).map litI := by
  unfold colsE compD sortD cset colsI
  rw [h, cond_true, map_litI]
theorem colsE_not {e : D} (h : mayE e = false) : colsE e = [] := by
  unfold colsE
  rw [h, cond_false]
theorem hasK_succ (k : Nat) (e : D) (c : Int) : hasK (k + 1) e c = ((opI e == 1 && colI e == c) || (kids e).any fun p => hasK k p c) := rfl
theorem colsI_succ (k : Nat) (e : D) : colsI (k + 1) e = (bif opI e == 1 then [colI e] else []) ++ (kids e).flatMap (colsI k) := by
  unfold colsI
  rw [colsK_succ, List.map_append, List.map_flatMap]
  cases (opI e == 1) <;> rfl
theorem has_cols : ∀ (K : Nat) (e : D) (c : Int), hasK K e c = true ↔ c ∈ colsI K e
  | 0, e, c => by simp [hasK, colsI, colsK]
  | K + 1, e, c => by
    rw [hasK_succ, colsI_succ, List.mem_append, Bool.or_eq_true, List.any_eq_true, List.mem_flatMap]
    have h1 : (opI e == 1 && colI e == c) = true ↔ c ∈ (bif opI e == 1 then [colI e] else []) := by
      cases (opI e == 1) with
      | true => rw [Bool.true_and, cond_true, List.mem_singleton, beq_iff_eq]; exact eq_comm
      | false => simp
    rw [h1]
    refine or_congr Iff.rfl ?_
    exact ⟨fun ⟨p, hp, hh⟩ => ⟨p, hp, (has_cols K p c).1 hh⟩, fun ⟨p, hp, hh⟩ => ⟨p, hp, (has_cols K p c).2 hh⟩⟩

theorem eval_same {c r c' r' : List D} : ∀ (K : Nat) (e : D), (∀ z ∈ colsI K e, atD z c r = atD z c' r') → evalK c r K e = evalK c' r' K e
  | 0, e, _ => rfl
  | K + 1, e, h => by
    rw [evalK_succ, evalK_succ]
    have : (kids e).map (evalK c r K) = (kids e).map (evalK c' r' K) := List.map_congr_left fun p hp => eval_same K p fun z hz => h z (by
      rw [colsI_succ, List.mem_append, List.mem_flatMap]
      exact .inr ⟨p, hp, hz⟩)
    rw [this]
    cases h1 : (opI e == 1) with
    | true =>
      rw [cond_true, cond_true, h (colI e) (by rw [colsI_succ, h1]; simp)]
    | false => rfl

end X
end Go.Proofs.YtmopepjahjmdeaaGreat
