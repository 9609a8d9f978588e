/- What the evaluator comes to, function by function: by the kernel. Nothing here is trusted. -/
import Derived.Test.YtjgnknkbohlopaaGreatWE
namespace Go.Proofs.YtjgnknkbohlopaaGreat
namespace X
open Go.Ev
set_option linter.unusedVariables false
/- roadbook/data.below -/
def t62_h : Hints := fun _ =>  none
theorem t62 (N : Nat) (x0 : Int) (x1 : Int) : evFn Tryz.prog (envR UP [] [] []) t62_h N Tryz.f62 [dat 3 (.lit (.int .i64 x0)), dat 3 (.lit (.int .i64 x1))] =
  bif ((decide (x0 ≥ 0)) == true) then
    some (dat 4 (.lit (.bool (decide (x0 < x1)))))
  else some (dat 4 (.lit (.bool false))) := by kernel_rfl

/- roadbook/query.below -/
def t58_h : Hints := fun _ =>  none
theorem t58 (N : Nat) (x0 : Int) (x1 : Int) : evFn Tryz.prog (envR UP [] [] []) t58_h N Tryz.f58 [dat 3 (.lit (.int .i64 x0)), dat 3 (.lit (.int .i64 x1))] =
  bif ((decide (x0 ≥ 0)) == true) then
    some (dat 4 (.lit (.bool (decide (x0 < x1)))))
  else some (dat 4 (.lit (.bool false))) := by kernel_rfl

/- roadbook/data.orZero -/
def t57_h : Hints := fun _ =>  none
theorem t57 (N : Nat) (x0 : D) : evFn Tryz.prog (envR UP [] [] []) t57_h N Tryz.f57 [dat 63 x0] =
  bif ((decide ((intD (fieldD x0 0)) < 1)) == false) then
    bif ((decide ((intD (fieldD x0 0)) > 4)) == false) then
      bif ((decide ((intD (fieldD x0 1)) < 1)) == false) then
        bif decide ((intD (fieldD x0 1)) > 1000000) then
          some (dat 63 (.agg [.lit (.int .i64 0), .lit (.int .i64 0)]))
        else some (dat 63 x0)
      else some (dat 63 (.agg [.lit (.int .i64 0), .lit (.int .i64 0)]))
    else some (dat 63 (.agg [.lit (.int .i64 0), .lit (.int .i64 0)]))
  else some (dat 63 (.agg [.lit (.int .i64 0), .lit (.int .i64 0)])) := by kernel_rfl

/- roadbook/roadbooklaw04.Two -/
def t22_h : Hints := fun _ =>  none
theorem t22 (N : Nat)  : evFn Tryz.prog (envR UP [] [] []) t22_h N Tryz.f22 [] =
  some (tupA [24, 47] (.agg [.agg [.slice [.agg [.lit (.int .i64 2), .lit (.int .i64 100)], .agg [.lit (.int .i64 1), .lit (.int .i64 10)]] []], .agg [.slice [.slice [.slice [.agg [.lit (.int .i64 0), .lit (.int .i64 1)], .agg [.lit (.int .i64 0), .lit (.int .i64 2)]] [], .slice [.agg [.lit (.int .i64 0), .lit (.int .i64 3)], .agg [.lit (.int .i64 0), .lit (.int .i64 4)]] []] [], .slice [.slice [.agg [.lit (.int .i64 0), .lit (.int .i64 4)]] []] []] []]])) := by kernel_rfl

/- roadbook/roadbooklaw05.Pair -/
def t24_h : Hints := fun _ =>  none
theorem t24 (N : Nat)  : evFn Tryz.prog (envR UP [] [] []) t24_h N Tryz.f24 [] =
  some (dat 35 (.agg [.lit (.int .i64 6), .lit (.int .i64 0), .agg [.lit (.int .i64 0), .lit (.int .i64 0)], .slice [.agg [.lit (.int .i64 1), .lit (.int .i64 0), .agg [.lit (.int .i64 0), .lit (.int .i64 0)], .slice [] []], .agg [.lit (.int .i64 1), .lit (.int .i64 5), .agg [.lit (.int .i64 0), .lit (.int .i64 0)], .slice [] []]] []])) := by kernel_rfl

/- slices.Contains[[]int,int] -/
def t73_h : Hints := fun _ =>  none
theorem t73 (N : Nat) (x0 : D) (x1 : Int) : evFn Tryz.prog (envR UP [] [] []) t73_h N Tryz.f73 [dat 25 x0, dat 3 (.lit (.int .i64 x1))] =
  some (dat 4 (.lit (.bool (decide ((Lib.idxOf ((elemsD x0).map intD) x1) ≥ 0))))) := by kernel_rfl

/- roadbook/query.alone -/
def t39_h : Hints := fun _ =>  none
theorem t39 (N : Nat) (x0 : Int) : evFn Tryz.prog (envR UP [] [] []) t39_h N Tryz.f39 [dat 3 (.lit (.int .i64 x0))] =
  bif decide (0 ≤ x0) then
    some (dat 55 (.lit (.int .i64 (shlI .i64 1 x0))))
  else none := by kernel_rfl

/- (roadbook/query.occs).has -/
def t38_i_h : Hints := fun _ =>  none
theorem t38_i (N : Nat) (x0 : Int) (x1 : Int) : evFn Tryz.prog (envR UP [] [] []) t38_i_h N Tryz.f38 [dat 3 (.lit (.int .i64 x0)), dat 3 (.lit (.int .i64 x1))] =
  some (dat 4 (.lit (.bool ((andNotI .i64 x1 x0) == 0)))) := by kernel_rfl

/- (roadbook/query.occs).has -/
def t38_s_h : Hints := fun _ =>  none
theorem t38_s (N : Nat) (x0 : Int) (x1 : Int) : evFn Tryz.prog (envR UP [] [] []) t38_s_h N Tryz.f38 [dat 3 (.lit (.int .i64 x0)), dat 55 (.lit (.int .i64 x1))] =
  some (dat 4 (.lit (.bool ((andNotI .i64 x1 x0) == 0)))) := by kernel_rfl

/- roadbook/roadbookref05.Bit -/
def t41_h : Hints := fun i => if i = 2 then some ([2, 3, 4, 6, 7, 8, 9, 10, 11, 12, 13, 14, 15], [], []) else none
def t41_lp2 (P : Program) (fn : Func) (N n : Nat) (x0 : Int) (x1 : Int) (v0 : Int) (v5 : Int) : Option AV := evLoop (preL t41_h (sub [1, 0, 1, 0, 0] (bodyOf fn))) (evCode P (envR UP [] [] []) t41_h N (sub [1, 0, 1, 0, 0] (bodyOf fn))) n ⟨[dat 3 (.lit (.int .i64 v0)), dat 3 (.lit (.int .i64 x1)), dead, dead, dead, dat 3 (.lit (.int .i64 v5)), dead, dead, dead, dead, dead, dead, dead, dead, dead, dead], lookB []⟩ (blockK 0 (seqC P (envR UP [] [] []) t41_h N (sub [1, 1] (bodyOf fn)) (finK P fn) ))
theorem t41_lp2_step (N n : Nat) (x0 : Int) (x1 : Int) (v0 : Int) (v5 : Int) : t41_lp2 Tryz.prog Tryz.f41 N (n + 1) x0 x1 v0 v5 =
  bif decide (v5 < x1) then
    t41_lp2 Tryz.prog Tryz.f41 N n x0 x1 (Int.fdiv v0 (2 ^ min (1 : Int).toNat (IntKind.bits .i64))) (IntKind.wrap .i64 (v5 + 1))
  else some (dat 4 (.lit (.bool ((andI .i64 v0 1) == 1)))) := by kernel_rfl
theorem t41 (N : Nat) (x0 : Int) (x1 : Int) : evFn Tryz.prog (envR UP [] [] []) t41_h N Tryz.f41 [dat 3 (.lit (.int .i64 x0)), dat 3 (.lit (.int .i64 x1))] =
  t41_lp2 Tryz.prog Tryz.f41 N N x0 x1 x0 0 := by kernel_rfl

/- roadbook/roadbooklaw05.few -/
def t5_h : Hints := fun i => if i = 3 then some ([0, 1, 2, 4, 7, 8, 9, 10, 11, 12, 13, 14, 15, 16, 17, 18, 19, 20, 21, 22, 23, 24, 25, 26, 27, 28, 29, 30, 31, 32, 33, 34, 35, 36, 37, 38, 39, 40, 41, 42, 43, 44, 45, 46, 47, 48, 49, 50, 51], [3], []) else none
def t5_lp3 (P : Program) (fn : Func) (N n : Nat) (x0 : D) (x1 : D) (v5 : Bool) (v6 : Int) : Option AV := evLoop (preL t5_h (sub [1, 1, 0, 1, 0, 0] (bodyOf fn))) (evCode P (envR UP [] [] []) t5_h N (sub [1, 1, 0, 1, 0, 0] (bodyOf fn))) n ⟨[dead, dead, dead, bxp 3 28, dead, dat 4 (.lit (.bool v5)), dat 3 (.lit (.int .i64 v6)), dead, dead, dead, dead, dead, dead, dead, dead, dead, dead, dead, dead, dead, dead, dead, dead, dead, dead, dead, dead, dead, dead, dead, dead, dead, dead, dead, dead, dead, dead, dead, dead, dead, dead, dead, dead, dead, dead, dead, dead, dead, dead, dead, dead, dead], lookB [(3, some ⟨28, x1, 0, none⟩)]⟩ (blockK 0 (seqC P (envR UP [] [] []) t5_h N (sub [1, 1, 1] (bodyOf fn)) (finK P fn) ))
theorem t5_lp3_step (N n : Nat) (x0 : D) (x1 : D) (v5 : Bool) (v6 : Int) : t5_lp3 Tryz.prog Tryz.f5 N (n + 1) x0 x1 v5 v6 =
  bif ((decide (v6 < ((elemsD (fieldD x1 1)).length : Int))) == true) then
    bif v5 then
      bif (decide (0 ≤ v6) && decide (v6 < ((elemsD (fieldD x1 1)).length : Int))) then
        bif (decide (0 ≤ 60) && decide (60 ≤ 1000)) then
          t5_lp3 Tryz.prog Tryz.f5 N n x0 x1 (fewB ((elemsD (fieldD x1 1)).getD (v6).toNat .nil) 60) (IntKind.wrap .i64 (v6 + 1))
        else none
      else none
    else some (dat 4 (.lit (.bool v5)))
  else some (dat 4 (.lit (.bool v5))) := by kernel_rfl
theorem t5 (N : Nat) (x0 : D) (x1 : D) : evFn Tryz.prog (envR UP [] [] []) t5_h N Tryz.f5 [dat 24 x0, dat 28 x1] =
  bif ((decide (((elemsD (fieldD x0 0)).length : Int) ≤ 10)) == true) then
    bif ((decide (((elemsD (fieldD x1 0)).length : Int) ≤ 20)) == true) then
      bif ((decide (((elemsD (fieldD x1 1)).length : Int) ≤ 8)) == true) then
        bif ((decide (((elemsD (fieldD x1 3)).length : Int) ≤ 20)) == true) then
          t5_lp3 Tryz.prog Tryz.f5 N N x0 x1 (decide (((elemsD (fieldD x1 4)).length : Int) ≤ 20)) 0
        else t5_lp3 Tryz.prog Tryz.f5 N N x0 x1 false 0
      else t5_lp3 Tryz.prog Tryz.f5 N N x0 x1 false 0
    else t5_lp3 Tryz.prog Tryz.f5 N N x0 x1 false 0
  else t5_lp3 Tryz.prog Tryz.f5 N N x0 x1 false 0 := by kernel_rfl

end X
end Go.Proofs.YtjgnknkbohlopaaGreat

namespace Go.Proofs.YtjgnknkbohlopaaGreat
namespace X
open Go.Ev
set_option linter.unusedVariables false
set_option maxRecDepth 10000
set_option linter.unusedSimpArgs false

theorem nDef (x : D) : normD Tryz.prog 63 x = x := by kernel_rfl
theorem nCat (x : D) : normD Tryz.prog 24 x = x := by kernel_rfl
theorem nQry (x : D) : normD Tryz.prog 28 x = x := by kernel_rfl
theorem nOcs (x : D) : normD Tryz.prog 55 x = .lit (.int .i64 (intD x)) := by kernel_rfl
theorem nAsk (x : D) : normD Tryz.prog 61 x = x := by kernel_rfl
theorem mDef (x : D) : mkRes Tryz.prog 63 x = dat 63 x := by kernel_rfl
theorem mQry (x : D) : mkRes Tryz.prog 28 x = dat 28 x := by kernel_rfl
theorem mOcs (x : D) : mkRes Tryz.prog 55 x = dat 55 (.lit (.int .i64 (intD x))) := by kernel_rfl
theorem mPrs (x : D) : mkRes Tryz.prog 41 x = dat 41 x := by kernel_rfl
theorem mTCD (x : D) : mkRes Tryz.prog 48 x = tupA [24, 47] x := by kernel_rfl
theorem mIIB (x : D) : mkRes Tryz.prog 67 x = tupA [3, 3, 4] x := by kernel_rfl
theorem uDefs : Tryz.prog.underlying 22 = some (.slice 63) := by kernel_rfl
theorem uExprs : Tryz.prog.underlying 26 = some (.slice 35) := by kernel_rfl
theorem uDef : ∃ f g : Field, Tryz.prog.underlying 63 = some (.struct #[f, g]) ∧ f.type = 3 ∧ g.type = 3 := ⟨_, _, Tryz.underlying63, rfl, rfl⟩
theorem uCat : ∃ f : Field, Tryz.prog.underlying 24 = some (.struct #[f]) ∧ f.type = 22 := ⟨_, Tryz.underlying24, rfl⟩
theorem uQry : ∃ f0 f1 f2 f3 f4 f5 : Field, Tryz.prog.underlying 28 = some (.struct #[f0, f1, f2, f3, f4, f5]) ∧ f0.type = 25 ∧ f1.type = 26 ∧ f2.type = 3 ∧ f3.type = 25 ∧ f4.type = 25 ∧ f5.type = 3 :=
  ⟨_, _, _, _, _, _, Tryz.underlying28, rfl, rfl, rfl, rfl, rfl, rfl⟩

theorem tyDef {n : Nat} {x : D} (h : Ty Tryz.prog n 63 x) : ∃ c r, x = defD c r ∧ inR c = true ∧ inR r = true := by
  obtain ⟨f, g, hu, hf, hg⟩ := uDef
  obtain ⟨m, a, b, rfl, h1, h2⟩ := ty_struct2 h hu
  rw [hf] at h1
  rw [hg] at h2
  obtain ⟨c, rfl, hc⟩ := ty3' h1
  obtain ⟨r, rfl, hr⟩ := ty3' h2
  exact ⟨c, r, rfl, hc, hr⟩
theorem tyCat {n : Nat} {x : D} (h : Ty Tryz.prog n 24 x) : ∃ ts, x = catD ts ∧ ts.length ≤ maxLen ∧ ∀ t ∈ ts, ∃ c r, t = defD c r ∧ inR c = true ∧ inR r = true := by
  obtain ⟨f, hu, hf⟩ := uCat
  obtain ⟨m, a, rfl, h1⟩ := ty_struct1 h hu
  rw [hf] at h1
  obtain ⟨m, ts, rfl, hl, hp⟩ := ty_slice h1 uDefs
  exact ⟨ts, rfl, hl, fun t ht => tyDef (hp t ht)⟩
/-- A query's lists. -/
structure QOK (q : D) : Prop where
  eq : q = .agg [.slice (qOcc q) [], .slice (qP q) [], litI (qBy q), .slice (qSums q) [], .slice (qOut q) [], litI (qOrd q)]
  occ : (qOcc q).length ≤ maxLen
  p : (qP q).length ≤ maxLen
  sums : (qSums q).length ≤ maxLen
  out : (qOut q).length ≤ maxLen
  e : ∀ e ∈ qP q, ∃ m, Ty Tryz.prog m 35 e
  o : ∀ x ∈ qOcc q, ∃ z, x = litI z ∧ inR z = true
  s : ∀ x ∈ qSums q, ∃ z, x = litI z ∧ inR z = true
  u : ∀ x ∈ qOut q, ∃ z, x = litI z ∧ inR z = true
theorem tyQ {n : Nat} {x : D} (h : Ty Tryz.prog n 28 x) : QOK x := by
  obtain ⟨f0, f1, f2, f3, f4, f5, hu, t0, t1, t2, t3, t4, t5⟩ := uQry
  cases n with
  | zero => exact h.elim
  | succ n =>
    unfold Ty at h
    rw [hu] at h
    split at h <;> try (exact h.elim)
    all_goals try (simp_all; done)
    rename_i fs ps heq
    cases heq
    obtain ⟨hl, hp⟩ := h
    have h0 := hp 0 f0 rfl
    have h1 := hp 1 f1 rfl
    have h2 := hp 2 f2 rfl
    have h3 := hp 3 f3 rfl
    have h4 := hp 4 f4 rfl
    have h5 := hp 5 f5 rfl
    rw [t0] at h0
    rw [t1] at h1
    rw [t2] at h2
    rw [t3] at h3
    rw [t4] at h4
    rw [t5] at h5
    match ps, hl, h0, h1, h2, h3, h4, h5 with
    | [a, b, c, d, e, f], _, h0, h1, h2, h3, h4, h5 =>
      obtain ⟨es, rfl, l0, p0⟩ := ty27 (show Ty Tryz.prog n 25 a from h0)
      obtain ⟨m, xs, rfl, l1, p1⟩ := ty_slice (show Ty Tryz.prog n 26 b from h1) uExprs
      obtain ⟨z, rfl, _⟩ := ty3' (show Ty Tryz.prog n 3 c from h2)
      obtain ⟨us, rfl, l3, p3⟩ := ty27 (show Ty Tryz.prog n 25 d from h3)
      obtain ⟨vs, rfl, l4, p4⟩ := ty27 (show Ty Tryz.prog n 25 e from h4)
      obtain ⟨y, rfl, _⟩ := ty3' (show Ty Tryz.prog n 3 f from h5)
      exact ⟨rfl, l0, l1, l3, l4, fun e he => ⟨m, p1 e he⟩, p0, p3, p4⟩

def e62 : FuncId × TypeId × (List AV → Bool) × (List AV → Option D) := (62, 4, yes, ent [3, 3] (f2 fun x y => some (.lit (.bool (belowB (intD x) (intD y))))))
theorem k62 : FnOK Tryz.prog 62 Tryz.f62 := ⟨Tryz.func62, rfl, by kernel_rfl⟩
theorem c62 : ∀ args d, e62.2.2.2 args = some d → CallOK Tryz.prog 62 args (mkRes Tryz.prog 4 d) :=
  ent2 k62 fun x y d h _ _ => by
    cases h
    rw [n3, n3]
    refine fn_ok hm envUP k62 ((t62 1 (intD x) (intD y)).trans ?_)
    rw [m4, ge_not]
    show _ = some (dat 4 (.lit (.bool (belowB (intD x) (intD y)))))
    unfold belowB
    cases decide (0 ≤ intD x) <;> rfl
def e58 : FuncId × TypeId × (List AV → Bool) × (List AV → Option D) := (58, 4, yes, ent [3, 3] (f2 fun x y => some (.lit (.bool (belowB (intD x) (intD y))))))
theorem k58 : FnOK Tryz.prog 58 Tryz.f58 := ⟨Tryz.func58, rfl, by kernel_rfl⟩
theorem c58 : ∀ args d, e58.2.2.2 args = some d → CallOK Tryz.prog 58 args (mkRes Tryz.prog 4 d) :=
  ent2 k58 fun x y d h _ _ => by
    cases h
    rw [n3, n3]
    refine fn_ok hm envUP k58 ((t58 1 (intD x) (intD y)).trans ?_)
    rw [m4, ge_not]
    show _ = some (dat 4 (.lit (.bool (belowB (intD x) (intD y)))))
    unfold belowB
    cases decide (0 ≤ intD x) <;> rfl
def e57 : FuncId × TypeId × (List AV → Bool) × (List AV → Option D) := (57, 63, yes, ent [63] (f1 fun x => some (orZeroD x)))
theorem k57 : FnOK Tryz.prog 57 Tryz.f57 := ⟨Tryz.func57, rfl, by kernel_rfl⟩
theorem c57 : ∀ args d, e57.2.2.2 args = some d → CallOK Tryz.prog 57 args (mkRes Tryz.prog 63 d) :=
  ent1 k57 fun x d h _ => by
    cases h
    rw [nDef]
    refine fn_ok hm envUP k57 ((t57 1 x).trans ?_)
    rw [mDef, mayDef_tree]
    unfold orZeroD
    cases mayDef x <;> rfl
def e22 : FuncId × TypeId × (List AV → Bool) × (List AV → Option D) := (22, 48, yes, ent [] (f0 (some (.agg [catTwo, dataTwo]))))
theorem k22 : FnOK Tryz.prog 22 Tryz.f22 := ⟨Tryz.func22, rfl, by kernel_rfl⟩
theorem c22 : ∀ args d, e22.2.2.2 args = some d → CallOK Tryz.prog 22 args (mkRes Tryz.prog 48 d) :=
  ent0 fun d h => by
    cases h
    refine fn_ok hm envUP k22 ((t22 1).trans ?_)
    rw [mTCD]
    rfl
def e24 : FuncId × TypeId × (List AV → Bool) × (List AV → Option D) := (24, 35, yes, ent [] (f0 (some pairQ)))
theorem k24 : FnOK Tryz.prog 24 Tryz.f24 := ⟨Tryz.func24, rfl, by kernel_rfl⟩
theorem c24 : ∀ args d, e24.2.2.2 args = some d → CallOK Tryz.prog 24 args (mkRes Tryz.prog 35 d) :=
  ent0 fun d h => by
    cases h
    refine fn_ok hm envUP k24 ((t24 1).trans ?_)
    rw [m26]
    rfl
def e73 : FuncId × TypeId × (List AV → Bool) × (List AV → Option D) := (73, 4, yes, ent [25, 3] (f2 fun x y => some (.lit (.bool (hasB (elemsD x) (intD y))))))
theorem k73 : FnOK Tryz.prog 73 Tryz.f73 := ⟨Tryz.func73, rfl, by kernel_rfl⟩
theorem c73 : ∀ args d, e73.2.2.2 args = some d → CallOK Tryz.prog 73 args (mkRes Tryz.prog 4 d) :=
  ent2 k73 fun x y d h _ _ => by
    cases h
    rw [n27, n3]
    refine fn_ok hm envUP k73 ((t73 1 x (intD y)).trans ?_)
    rw [m4]
    show _ = some (dat 4 (.lit (.bool (hasB (elemsD x) (intD y)))))
    have : decide (Lib.idxOf ((elemsD x).map intD) (intD y) ≥ 0) = hasB (elemsD x) (intD y) := by
      unfold hasB
      rw [Bool.eq_iff_iff, decide_eq_true_eq]
      have := Lib.idxOf_nonneg_iff ((elemsD x).map intD) (intD y)
      exact Iff.of_eq this
    rw [this]
def e39 : FuncId × TypeId × (List AV → Bool) × (List AV → Option D) := (39, 55, preD (q1 fun x => decide (0 ≤ intD x)), ent [3] (f1 fun x => some (.lit (.int .i64 (aloneI (intD x))))))
theorem k39 : FnOK Tryz.prog 39 Tryz.f39 := ⟨Tryz.func39, rfl, by kernel_rfl⟩
theorem c39 : ∀ args d, e39.2.2.1 args = true → e39.2.2.2 args = some d → CallOK Tryz.prog 39 args (mkRes Tryz.prog 55 d) :=
  ent1p k39 fun x d hq h _ => by
    cases h
    rw [n3]
    refine fn_ok hm envUP k39 ((t39 1 (intD x)).trans ?_)
    have hq : decide (0 ≤ intD x) = true := hq
    rw [mOcs, hq]
    rfl
def hasF : List D → Option D := f2 fun x y => some (.lit (.bool (hasS (intD x) (intD y))))
def e38 : FuncId × TypeId × (List AV → Bool) × (List AV → Option D) := (38, 4, yes, fun xs => match ent [3, 3] hasF xs with | some d => some d | none => ent [3, 55] hasF xs)
theorem k38 : FnOK Tryz.prog 38 Tryz.f38 := ⟨Tryz.func38, rfl, by kernel_rfl⟩
theorem c38 : ∀ args d, e38.2.2.2 args = some d → CallOK Tryz.prog 38 args (mkRes Tryz.prog 4 d) := by
  intro args d h
  have h1 : ∀ args d, ent [3, 3] hasF args = some d → CallOK Tryz.prog 38 args (mkRes Tryz.prog 4 d) := ent2 k38 fun x y d h _ _ => by
    cases h
    rw [n3, n3]
    exact fn_ok hm envUP k38 ((t38_i 1 (intD x) (intD y)).trans (by rw [m4]; rfl))
  have h2 : ∀ args d, ent [3, 55] hasF args = some d → CallOK Tryz.prog 38 args (mkRes Tryz.prog 4 d) := ent2 k38 fun x y d h _ _ => by
    cases h
    rw [n3, nOcs]
    exact fn_ok hm envUP k38 ((t38_s 1 (intD x) (intD y)).trans (by rw [m4]; rfl))
  cases he : ent [3, 3] hasF args with
  | some d' =>
    have h : (match ent [3, 3] hasF args with | some d => some d | none => ent [3, 55] hasF args) = some d := h
    rw [he] at h
    cases h
    exact h1 args _ he
  | none =>
    have h : (match ent [3, 3] hasF args with | some d => some d | none => ent [3, 55] hasF args) = some d := h
    rw [he] at h
    exact h2 args _ h
theorem bit_loop {N : Nat} {x0 x1 : Int} (h1 : inR x1 = true) : ∀ (n k : Nat) (s v : Int), 0 ≤ v → v + k = x1 → k < n → t41_lp2 Tryz.prog Tryz.f41 N n x0 x1 s v = some (dat 4 (.lit (.bool (andI .i64 (halfN k s) 1 == 1))))
  | 0, k, s, v, _, _, h => by omega
  | n + 1, 0, s, v, h0, hv, _ => by
    rw [t41_lp2_step, dF (show ¬ v < x1 by omega), cond_false]
    rfl
  | n + 1, k + 1, s, v, h0, hv, h => by
    have hr := inR_iff.1 h1
    rw [t41_lp2_step, dT (show v < x1 by omega), cond_true, l_wrapI (inR_iff.2 (by omega)), bit_loop h1 n k _ (v + 1) (by omega) (by omega) (by omega)]
    rfl
def e41 : FuncId × TypeId × (List AV → Bool) × (List AV → Option D) := (41, 4, yes, ent [3, 3] (f2 fun x y => some (.lit (.bool (bitB (intD x) (intD y))))))
theorem k41 : FnOK Tryz.prog 41 Tryz.f41 := ⟨Tryz.func41, rfl, by kernel_rfl⟩
theorem c41 : ∀ args d, e41.2.2.2 args = some d → CallOK Tryz.prog 41 args (mkRes Tryz.prog 4 d) :=
  ent2 k41 fun x y d h _ ⟨_, hy⟩ => by
    cases h
    obtain ⟨z, rfl, hz⟩ := ty3' hy
    rw [n3, n3]
    refine fn_ok hm envUP k41 ((t41 (z.toNat + 1) (intD x) z).trans ?_)
    rw [m4]
    show _ = some (dat 4 (.lit (.bool (andI .i64 (halfN z.toNat (intD x)) 1 == 1))))
    by_cases h0 : 0 ≤ z
    · exact bit_loop hz (z.toNat + 1) z.toNat (intD x) 0 (by omega) (by omega) (by omega)
    · rw [show z.toNat = 0 by omega, t41_lp2_step, dF (show ¬ 0 < z by omega), cond_false]
      rfl
theorem few_loop {N : Nat} {c q : D} (hl : (elemsD (fieldD q 1)).length ≤ maxLen) : ∀ (n i : Nat) (b : Bool), i ≤ (elemsD (fieldD q 1)).length → (elemsD (fieldD q 1)).length - i < n →
    t5_lp3 Tryz.prog Tryz.f5 N n c q b (i : Int) = some (dat 4 (.lit (.bool (b && ((elemsD (fieldD q 1)).drop i).all fun e => fewB e 60))))
  | 0, i, b, _, h => by omega
  | n + 1, i, b, hi, h => by
    rw [t5_lp3_step]
    by_cases hlt : i < (elemsD (fieldD q 1)).length
    · rw [l_idx hlt, l_lt hlt, List.drop_eq_getElem_cons hlt, List.all_cons, Int.toNat_natCast, l_get hlt, l_wrap hl hlt]
      cases b with
      | false => rfl
      | true => exact (few_loop (N := N) (c := c) hl n (i + 1) _ (by omega) (by omega)).trans (by rw [Bool.true_and])
    · rw [l_ge hlt, List.drop_of_length_le (by omega), List.all_nil, Bool.and_true]
      rfl
def e5 : FuncId × TypeId × (List AV → Bool) × (List AV → Option D) := (5, 4, yes, ent [24, 28] (f2 fun x y => some (.lit (.bool (fewQ fewB x y)))))
theorem k5 : FnOK Tryz.prog 5 Tryz.f5 := ⟨Tryz.func5, rfl, by kernel_rfl⟩
theorem natLe {a : Nat} {b : Nat} : decide ((a : Int) ≤ (b : Int)) = decide (a ≤ b) := by rw [Bool.eq_iff_iff, decide_eq_true_eq, decide_eq_true_eq]; omega
theorem c5 : ∀ args d, e5.2.2.2 args = some d → CallOK Tryz.prog 5 args (mkRes Tryz.prog 4 d) :=
  ent2 k5 fun x y d h _ ⟨_, hy⟩ => by
    cases h
    rw [nCat, nQry]
    have hq := tyQ hy
    have hl : (elemsD (fieldD y 1)).length ≤ maxLen := hq.p
    refine fn_ok hm envUP k5 ((t5 ((elemsD (fieldD y 1)).length + 1) x y).trans ?_)
    have lp : ∀ b, t5_lp3 Tryz.prog Tryz.f5 ((elemsD (fieldD y 1)).length + 1) ((elemsD (fieldD y 1)).length + 1) x y b 0 = some (dat 4 (.lit (.bool (b && (elemsD (fieldD y 1)).all fun e => fewB e 60)))) :=
      fun b => (few_loop hl _ 0 b (Nat.zero_le _) (by omega)).trans (by rw [List.drop_zero])
    rw [m4, lp, lp]
    show _ = some (dat 4 (.lit (.bool (fewQ fewB x y))))
    unfold fewQ tabs qOcc qP qSums qOut
    rw [show ((10 : Int)) = ((10 : Nat) : Int) from rfl, show ((20 : Int)) = ((20 : Nat) : Int) from rfl, show ((8 : Int)) = ((8 : Nat) : Int) from rfl, natLe, natLe, natLe, natLe, natLe]
    generalize decide ((elemsD (fieldD x 0)).length ≤ 10) = b1
    generalize decide ((elemsD (fieldD y 0)).length ≤ 20) = b2
    generalize decide ((elemsD (fieldD y 1)).length ≤ 8) = b3
    generalize decide ((elemsD (fieldD y 3)).length ≤ 20) = b4
    generalize decide ((elemsD (fieldD y 4)).length ≤ 20) = b5
    generalize ((elemsD (fieldD y 1)).all fun e => fewB e 60) = b6
    cases b1 <;> cases b2 <;> cases b3 <;> cases b4 <;> rfl
def Q1 : Tab := e5 :: e41 :: e38 :: e39 :: e73 :: e24 :: e22 :: e57 :: e58 :: e62 :: UP
theorem envQ1 : EnvOK Tryz.prog (envH Q1 []) := envOK_cons (envOK_cons (envOK_cons (envOK_cons' (envOK_cons (envOK_cons (envOK_cons (envOK_cons (envOK_cons (envOK_cons envUP c62) c58) c57) c22) c24) c73) c39) c38) c41) c5

end X
end Go.Proofs.YtjgnknkbohlopaaGreat

namespace Go.Proofs.YtjgnknkbohlopaaGreat
namespace X
open Go.Ev
set_option linter.unusedVariables false
/- roadbook/data.Col -/
def t40_h : Hints := fun _ =>  none
theorem t40 (N : Nat) (x0 : Int) (x1 : Int) : evFn Tryz.prog (envR Q1 [] [] []) t40_h N Tryz.f40 [dat 3 (.lit (.int .i64 x0)), dat 3 (.lit (.int .i64 x1))] =
  bif ((!(belowB x0 4)) == false) then
    bif (!(belowB x1 4)) then
      some (dat 3 (.lit (.int .i64 (-1))))
    else some (dat 3 (.lit (.int .i64 (IntKind.wrap .i64 ((IntKind.wrap .i64 (x0 * 4)) + x1)))))
  else some (dat 3 (.lit (.int .i64 (-1)))) := by kernel_rfl

/- roadbook/data.Split -/
def t47_h : Hints := fun _ =>  none
theorem t47 (N : Nat) (x0 : Int) : evFn Tryz.prog (envR Q1 [] [] []) t47_h N Tryz.f47 [dat 3 (.lit (.int .i64 x0))] =
  bif (!(belowB x0 16)) then
    some (tupA [3, 3, 4] (.agg [.lit (.int .i64 0), .lit (.int .i64 0), .lit (.bool false)]))
  else some (tupA [3, 3, 4] (.agg [.lit (.int .i64 (IntKind.wrap .i64 (Int.tdiv x0 4))), .lit (.int .i64 (Int.tmod x0 4)), .lit (.bool true)])) := by kernel_rfl

/- roadbook/data.May -/
def t31_h : Hints := fun i => if i = 4 then some ([0, 1, 2, 3, 4, 5, 6, 7, 8, 9, 10, 11, 12, 13, 14, 15, 19, 20, 21, 22, 23, 24, 25, 26], [], []) else none
def t31_lp4 (P : Program) (fn : Func) (N n : Nat) (x0 : D) (v18 : Int) : Option AV := evLoop (preL t31_h (sub [1, 1, 0, 1, 0, 0] (bodyOf fn))) (evCode P (envR Q1 [] [] []) t31_h N (sub [1, 1, 0, 1, 0, 0] (bodyOf fn))) n ⟨[dead, dead, dead, dead, dead, dead, dead, dead, dead, dead, dead, dead, dead, dead, dead, dead, dat 22 (fieldD x0 0), dat 3 (.lit (.int .i64 ((elemsD (fieldD x0 0)).length : Int))), dat 3 (.lit (.int .i64 v18)), dead, dead, dead, dead, dead, dead, dead, dead], lookB []⟩ (blockK 0 (seqC P (envR Q1 [] [] []) t31_h N (sub [1, 1, 1] (bodyOf fn)) (finK P fn) ))
theorem t31_lp4_step (N n : Nat) (x0 : D) (v18 : Int) : t31_lp4 Tryz.prog Tryz.f31 N (n + 1) x0 v18 =
  bif decide (v18 < ((elemsD (fieldD x0 0)).length : Int)) then
    bif (decide (0 ≤ v18) && decide (v18 < ((elemsD (fieldD x0 0)).length : Int))) then
      bif (((intD (fieldD (orZeroD ((elemsD (fieldD x0 0)).getD (v18).toNat .nil)) 0)) == 0) && (((intD (fieldD (orZeroD ((elemsD (fieldD x0 0)).getD (v18).toNat .nil)) 1)) == 0) && true)) then
        some (dat 4 (.lit (.bool false)))
      else t31_lp4 Tryz.prog Tryz.f31 N n x0 (IntKind.wrap .i64 (v18 + 1))
    else none
  else some (dat 4 (.lit (.bool true))) := by kernel_rfl
theorem t31 (N : Nat) (x0 : D) : evFn Tryz.prog (envR Q1 [] [] []) t31_h N Tryz.f31 [dat 24 x0] =
  bif ((decide (((elemsD (fieldD x0 0)).length : Int) < 1)) == false) then
    bif decide (((elemsD (fieldD x0 0)).length : Int) > 4) then
      some (dat 4 (.lit (.bool false)))
    else t31_lp4 Tryz.prog Tryz.f31 N N x0 0
  else some (dat 4 (.lit (.bool false))) := by kernel_rfl

/- roadbook/roadbooklaw05.One -/
def t23_h : Hints := fun _ =>  none
theorem t23 (N : Nat)  : evFn Tryz.prog (envR Q1 [] [] []) t23_h N Tryz.f23 [] =
  some (dat 28 (.agg [.slice [.lit (.int .i64 0), .lit (.int .i64 0), .lit (.int .i64 1)] [], .slice [pairQ, .agg [.lit (.int .i64 7), .lit (.int .i64 0), .agg [.lit (.int .i64 0), .lit (.int .i64 0)], .slice [.agg [.lit (.int .i64 1), .lit (.int .i64 8), .agg [.lit (.int .i64 0), .lit (.int .i64 0)], .slice [] []], .agg [.lit (.int .i64 0), .lit (.int .i64 0), .agg [.lit (.int .i64 0), .lit (.int .i64 5)], .slice [] []]] []]] [], .lit (.int .i64 (-1)), .slice [] [], .slice [.lit (.int .i64 0), .lit (.int .i64 8)] [], .lit (.int .i64 8)])) := by kernel_rfl

/- roadbook/query.occurrencesMay -/
def t32_h : Hints := fun i => if i = 4 then some ([0, 1, 4, 5, 6, 7, 8, 9, 10, 11, 12, 13, 14, 15, 16, 17, 20, 21, 22, 23, 24, 25, 26, 27, 28, 29, 30, 31, 32], [2, 3], []) else none
def t32_lp4 (P : Program) (fn : Func) (N n : Nat) (x0 : D) (x1 : D) (v19 : Int) : Option AV := evLoop (preL t32_h (sub [1, 1, 0, 1, 0, 0] (bodyOf fn))) (evCode P (envR Q1 [] [] []) t32_h N (sub [1, 1, 0, 1, 0, 0] (bodyOf fn))) n ⟨[dead, dead, bxp 2 24, bxp 3 28, dead, dead, dead, dead, dead, dead, dead, dead, dead, dead, dead, dead, dead, dead, dat 3 (.lit (.int .i64 ((elemsD (fieldD x1 0)).length : Int))), dat 3 (.lit (.int .i64 v19)), dead, dead, dead, dead, dead, dead, dead, dead, dead, dead, dead, dead, dead], lookB [(2, some ⟨24, x0, 0, none⟩), (3, some ⟨28, x1, 0, none⟩)]⟩ (blockK 0 (seqC P (envR Q1 [] [] []) t32_h N (sub [1, 1, 1] (bodyOf fn)) (finK P fn) ))
theorem t32_lp4_step (N n : Nat) (x0 : D) (x1 : D) (v19 : Int) : t32_lp4 Tryz.prog Tryz.f32 N (n + 1) x0 x1 v19 =
  bif decide (v19 < ((elemsD (fieldD x1 0)).length : Int)) then
    bif (decide (0 ≤ v19) && decide (v19 < ((elemsD (fieldD x1 0)).length : Int))) then
      bif (!(belowB (intD ((elemsD (fieldD x1 0)).getD (v19).toNat .nil)) ((elemsD (fieldD x0 0)).length : Int))) then
        some (dat 4 (.lit (.bool false)))
      else t32_lp4 Tryz.prog Tryz.f32 N n x0 x1 (IntKind.wrap .i64 (v19 + 1))
    else none
  else some (dat 4 (.lit (.bool true))) := by kernel_rfl
theorem t32 (N : Nat) (x0 : D) (x1 : D) : evFn Tryz.prog (envR Q1 [] [] []) t32_h N Tryz.f32 [dat 24 x0, dat 28 x1] =
  bif ((decide (((elemsD (fieldD x1 0)).length : Int) < 1)) == false) then
    bif decide (((elemsD (fieldD x1 0)).length : Int) > 4) then
      some (dat 4 (.lit (.bool false)))
    else t32_lp4 Tryz.prog Tryz.f32 N N x0 x1 0
  else some (dat 4 (.lit (.bool false))) := by kernel_rfl

end X
end Go.Proofs.YtjgnknkbohlopaaGreat

namespace Go.Proofs.YtjgnknkbohlopaaGreat
namespace X
open Go.Ev
set_option linter.unusedVariables false
set_option maxRecDepth 10000
set_option linter.unusedSimpArgs false

theorem any_not (l : List D) (f : D → Bool) : l.any (fun x => !f x) = !l.all f := by rw [List.all_eq_not_any_not, Bool.not_not]
theorem any_may (ts : List D) : ts.any (fun t => !mayDef t) = !ts.all mayDef := any_not ts mayDef
theorem natLt (k : Nat) {a : Nat} : decide ((a : Int) < (k : Int)) = !decide (k ≤ a) := by by_cases h : k ≤ a <;> simp [h] <;> omega
theorem natGt (k : Nat) {a : Nat} : decide ((a : Int) > (k : Int)) = !decide (a ≤ k) := by by_cases h : a ≤ k <;> simp [h] <;> omega
theorem natGt0 {l : List D} : decide ((l.length : Int) > 0) = !l.isEmpty := by cases l <;> simp
theorem natEq0 {l : List D} : ((l.length : Int) == 0) = l.isEmpty := by
  cases l with
  | nil => rfl
  | cons a l => rw [beq_eq_false_iff_ne.2 (by rw [List.length_cons]; omega)]; rfl
theorem split_nonneg (z : Int) : 0 ≤ splitA z ∧ splitA z < 4 := by
  by_cases h : 0 ≤ z ∧ z < 16
  · rw [(split_in h).1]; omega
  · rw [(split_out h).1]; omega
theorem wrap_div {z : Int} (h : 0 ≤ z ∧ z < 16) : IntKind.wrap .i64 (Int.tdiv z 4) = z / 4 := by
  rw [Int.tdiv_eq_ediv_of_nonneg h.1, l_wrapI (l_in (by omega) (by omega))]
def e40 : FuncId × TypeId × (List AV → Bool) × (List AV → Option D) := (40, 3, yes, ent [3, 3] (f2 fun x y => some (.lit (.int .i64 (colN (intD x) (intD y))))))
theorem k40 : FnOK Tryz.prog 40 Tryz.f40 := ⟨Tryz.func40, rfl, by kernel_rfl⟩
theorem c40 : ∀ args d, e40.2.2.2 args = some d → CallOK Tryz.prog 40 args (mkRes Tryz.prog 3 d) :=
  ent2 k40 fun x y d h _ _ => by
    cases h
    rw [n3, n3]
    refine fn_ok hm envQ1 k40 ((t40 1 (intD x) (intD y)).trans ?_)
    rw [m3]
    show _ = some (dat 3 (.lit (.int .i64 (colN (intD x) (intD y)))))
    generalize intD x = a
    generalize intD y = b
    cases h1 : belowB a 4 with
    | false => rw [colN_out (by have := below_not.1 h1; omega)]; rfl
    | true =>
      cases h2 : belowB b 4 with
      | false => rw [colN_out (by have := below_not.1 h2; omega)]; rfl
      | true =>
        have a1 := below_iff.1 h1
        have a2 := below_iff.1 h2
        rw [colN_in a1 a2, l_wrapI (z := a * 4) (l_in (by omega) (by omega)), l_wrapI (l_in (by omega) (by omega))]; rfl

def e47 : FuncId × TypeId × (List AV → Bool) × (List AV → Option D) := (47, 67, yes, ent [3] (f1 fun x => some (.agg [.lit (.int .i64 (splitA (intD x))), .lit (.int .i64 (splitB (intD x))), .lit (.bool (belowB (intD x) 16))])))
theorem k47 : FnOK Tryz.prog 47 Tryz.f47 := ⟨Tryz.func47, rfl, by kernel_rfl⟩
theorem c47 : ∀ args d, e47.2.2.2 args = some d → CallOK Tryz.prog 47 args (mkRes Tryz.prog 67 d) :=
  ent1 k47 fun x d h _ => by
    cases h
    rw [n3]
    refine fn_ok hm envQ1 k47 ((t47 1 (intD x)).trans ?_)
    rw [mIIB]
    generalize intD x = z
    cases h1 : belowB z 16 with
    | false =>
      obtain ⟨a, b⟩ := split_out (z := z) (below_not.1 h1)
      rw [a, b]; rfl
    | true =>
      have h2 := below_iff.1 h1
      obtain ⟨a, b⟩ := split_in h2
      rw [a, b, wrap_div h2, Int.tmod_eq_emod_of_nonneg h2.1]; rfl

def e31 : FuncId × TypeId × (List AV → Bool) × (List AV → Option D) := (31, 4, yes, ent [24] (f1 fun x => some (.lit (.bool (mayCat x)))))
theorem k31 : FnOK Tryz.prog 31 Tryz.f31 := ⟨Tryz.func31, rfl, by kernel_rfl⟩
theorem c31 : ∀ args d, e31.2.2.2 args = some d → CallOK Tryz.prog 31 args (mkRes Tryz.prog 4 d) :=
  ent1 k31 fun x d h ⟨_, hx⟩ => by
    cases h
    rw [nCat]
    obtain ⟨ts, rfl, hl, _⟩ := tyCat hx
    refine fn_ok hm envQ1 k31 ((t31 (ts.length + 1) (catD ts)).trans ?_)
    rw [m4, tabs_cat]
    have := l_loop (fun n v => t31_lp4 Tryz.prog Tryz.f31 (ts.length + 1) n (catD ts) v) ts.length (fun i => !mayDef (ts.getD i .nil)) (some (dat 4 (.lit (.bool false)))) (some (dat 4 (.lit (.bool true))))
      (fun n i hi => by
        rw [t31_lp4_step, tabs_cat, l_idx hi, l_lt hi, Int.toNat_natCast, orZero_zero, l_wrap hl hi, cond_true, cond_true])
      (fun n => by rw [t31_lp4_step, tabs_cat, l_ge (by omega), cond_false]) (ts.length + 1) 0 (Nat.zero_le _) (by omega)
    have this : t31_lp4 Tryz.prog Tryz.f31 (ts.length + 1) (ts.length + 1) (catD ts) 0 = _ := this
    rw [this, Nat.sub_zero, l_any0 ts (fun t => !mayDef t), any_may]
    show _ = some (dat 4 (.lit (.bool ((decide (1 ≤ ts.length) && decide (ts.length ≤ 4)) && ts.all mayDef))))
    by_cases h1 : 1 ≤ ts.length
    · by_cases h4 : ts.length ≤ 4
      · rw [dF (show ¬ ((ts.length : Int)) < 1 by omega), dF (show ¬ ((ts.length : Int)) > 4 by omega), dT h1, dT h4]
        cases ts.all mayDef <;> rfl
      · rw [dF (show ¬ ((ts.length : Int)) < 1 by omega), dT (show ((ts.length : Int)) > 4 by omega), dT h1, dF h4]
        rfl
    · rw [dT (show ((ts.length : Int)) < 1 by omega), dF h1]
      rfl

def e23 : FuncId × TypeId × (List AV → Bool) × (List AV → Option D) := (23, 28, yes, ent [] (f0 (some oneQ)))
theorem k23 : FnOK Tryz.prog 23 Tryz.f23 := ⟨Tryz.func23, rfl, by kernel_rfl⟩
theorem c23 : ∀ args d, e23.2.2.2 args = some d → CallOK Tryz.prog 23 args (mkRes Tryz.prog 28 d) :=
  ent0 fun d h => by
    cases h
    refine fn_ok hm envQ1 k23 ((t23 1).trans ?_)
    rw [mQry]
    rfl
def e32 : FuncId × TypeId × (List AV → Bool) × (List AV → Option D) := (32, 4, yes, ent [24, 28] (f2 fun x y => some (.lit (.bool (occMayB x y)))))
theorem k32 : FnOK Tryz.prog 32 Tryz.f32 := ⟨Tryz.func32, rfl, by kernel_rfl⟩
theorem c32 : ∀ args d, e32.2.2.2 args = some d → CallOK Tryz.prog 32 args (mkRes Tryz.prog 4 d) :=
  ent2 k32 fun x y d h _ ⟨_, hy⟩ => by
    cases h
    rw [nCat, nQry]
    have hq : (elemsD (fieldD y 0)).length ≤ maxLen := (tyQ hy).occ
    refine fn_ok hm envQ1 k32 ((t32 ((elemsD (fieldD y 0)).length + 1) x y).trans ?_)
    have lp : t32_lp4 Tryz.prog Tryz.f32 ((elemsD (fieldD y 0)).length + 1) ((elemsD (fieldD y 0)).length + 1) x y 0 = some (dat 4 (.lit (.bool ((elemsD (fieldD y 0)).all fun o => belowB (intD o) ((elemsD (fieldD x 0)).length : Int))))) := by
      have := l_loop (fun n v => t32_lp4 Tryz.prog Tryz.f32 ((elemsD (fieldD y 0)).length + 1) n x y v) (elemsD (fieldD y 0)).length (fun i => !belowB (intD ((elemsD (fieldD y 0)).getD i .nil)) ((elemsD (fieldD x 0)).length : Int)) (some (dat 4 (.lit (.bool false)))) (some (dat 4 (.lit (.bool true))))
        (fun n i hi => by rw [t32_lp4_step, l_idx hi, l_lt hi, cond_true, cond_true, Int.toNat_natCast, l_wrap hq hi])
        (fun n => by rw [t32_lp4_step, l_ge (by omega), cond_false]) ((elemsD (fieldD y 0)).length + 1) 0 (Nat.zero_le _) (by omega)
      refine this.trans ?_
      rw [Nat.sub_zero, l_any0 (elemsD (fieldD y 0)) (fun o => !belowB (intD o) ((elemsD (fieldD x 0)).length : Int)), any_not]
      cases (elemsD (fieldD y 0)).all fun o => belowB (intD o) ((elemsD (fieldD x 0)).length : Int) <;> rfl
    rw [m4, lp]
    show _ = some (dat 4 (.lit (.bool (occMayB x y))))
    unfold occMayB qOcc tabs
    rw [show decide (((elemsD (fieldD y 0)).length : Int) < 1) = _ from natLt 1, show decide (((elemsD (fieldD y 0)).length : Int) > 4) = _ from natGt 4]
    cases decide (1 ≤ (elemsD (fieldD y 0)).length) <;> cases decide ((elemsD (fieldD y 0)).length ≤ 4) <;> rfl
def Q2 : Tab := e32 :: e23 :: e31 :: e47 :: e40 :: Q1
theorem envQ2 : EnvOK Tryz.prog (envH Q2 []) := envOK_cons (envOK_cons (envOK_cons (envOK_cons (envOK_cons envQ1 c40) c47) c31) c23) c32

end X
end Go.Proofs.YtjgnknkbohlopaaGreat
