/- What the evaluator comes to, function by function: by the kernel. Nothing here is trusted. -/
import Derived.Test.YtjgnknkbohlopaaWE
namespace Go.Proofs.Ytjgnknkbohlopaa
namespace X
open Go.Ev
set_option linter.unusedVariables false
/- roadbook/data.below -/
def t41_h : Hints := fun _ =>  none
theorem t41 (N : Nat) (x0 : Int) (x1 : Int) : evFn Try.prog (envR UP [] [] []) t41_h N Try.f41 [dat 3 (.lit (.int .i64 x0)), dat 3 (.lit (.int .i64 x1))] =
  bif ((decide (x0 ≥ 0)) == true) then
    some (dat 4 (.lit (.bool (decide (x0 < x1)))))
  else some (dat 4 (.lit (.bool false))) := by kernel_rfl

/- roadbook/query.below -/
def t47_h : Hints := fun _ =>  none
theorem t47 (N : Nat) (x0 : Int) (x1 : Int) : evFn Try.prog (envR UP [] [] []) t47_h N Try.f47 [dat 3 (.lit (.int .i64 x0)), dat 3 (.lit (.int .i64 x1))] =
  bif ((decide (x0 ≥ 0)) == true) then
    some (dat 4 (.lit (.bool (decide (x0 < x1)))))
  else some (dat 4 (.lit (.bool false))) := by kernel_rfl

/- roadbook/data.orZero -/
def t46_h : Hints := fun _ =>  none
theorem t46 (N : Nat) (x0 : D) : evFn Try.prog (envR UP [] [] []) t46_h N Try.f46 [dat 66 x0] =
  bif ((decide ((intD (fieldD x0 0)) < 1)) == false) then
    bif ((decide ((intD (fieldD x0 0)) > 4)) == false) then
      bif ((decide ((intD (fieldD x0 1)) < 1)) == false) then
        bif decide ((intD (fieldD x0 1)) > 1000000) then
          some (dat 66 (.agg [.lit (.int .i64 0), .lit (.int .i64 0)]))
        else some (dat 66 x0)
      else some (dat 66 (.agg [.lit (.int .i64 0), .lit (.int .i64 0)]))
    else some (dat 66 (.agg [.lit (.int .i64 0), .lit (.int .i64 0)]))
  else some (dat 66 (.agg [.lit (.int .i64 0), .lit (.int .i64 0)])) := by kernel_rfl

/- roadbook/roadbooklaw04.Two -/
def t22_h : Hints := fun _ =>  none
theorem t22 (N : Nat)  : evFn Try.prog (envR UP [] [] []) t22_h N Try.f22 [] =
  some (tupA [24, 54] (.agg [.agg [.slice [.agg [.lit (.int .i64 2), .lit (.int .i64 100)], .agg [.lit (.int .i64 1), .lit (.int .i64 10)]] []], .agg [.slice [.slice [.slice [.agg [.lit (.int .i64 0), .lit (.int .i64 1)], .agg [.lit (.int .i64 0), .lit (.int .i64 2)]] [], .slice [.agg [.lit (.int .i64 0), .lit (.int .i64 3)], .agg [.lit (.int .i64 0), .lit (.int .i64 4)]] []] [], .slice [.slice [.agg [.lit (.int .i64 0), .lit (.int .i64 4)]] []] []] []]])) := by kernel_rfl

/- roadbook/roadbooklaw05.Pair -/
def t24_h : Hints := fun _ =>  none
theorem t24 (N : Nat)  : evFn Try.prog (envR UP [] [] []) t24_h N Try.f24 [] =
  some (dat 40 (.agg [.lit (.int .i64 6), .lit (.int .i64 0), .agg [.lit (.int .i64 0), .lit (.int .i64 0)], .slice [.agg [.lit (.int .i64 1), .lit (.int .i64 0), .agg [.lit (.int .i64 0), .lit (.int .i64 0)], .slice [] []], .agg [.lit (.int .i64 1), .lit (.int .i64 5), .agg [.lit (.int .i64 0), .lit (.int .i64 0)], .slice [] []]] []])) := by kernel_rfl

/- slices.Contains[[]int,int] -/
def t59_h : Hints := fun _ =>  none
theorem t59 (N : Nat) (x0 : D) (x1 : Int) : evFn Try.prog (envR UP [] [] []) t59_h N Try.f59 [dat 25 x0, dat 3 (.lit (.int .i64 x1))] =
  some (dat 4 (.lit (.bool (decide ((Lib.idxOf ((elemsD x0).map intD) x1) ≥ 0))))) := by kernel_rfl

/- roadbook/query.alone -/
def t34_h : Hints := fun _ =>  none
theorem t34 (N : Nat) (x0 : Int) : evFn Try.prog (envR UP [] [] []) t34_h N Try.f34 [dat 3 (.lit (.int .i64 x0))] =
  bif decide (0 ≤ x0) then
    some (dat 63 (.lit (.int .i64 (shlI .i64 1 x0))))
  else none := by kernel_rfl

/- (roadbook/query.occs).has -/
def t32_i_h : Hints := fun _ =>  none
theorem t32_i (N : Nat) (x0 : Int) (x1 : Int) : evFn Try.prog (envR UP [] [] []) t32_i_h N Try.f32 [dat 3 (.lit (.int .i64 x0)), dat 3 (.lit (.int .i64 x1))] =
  some (dat 4 (.lit (.bool ((andNotI .i64 x1 x0) == 0)))) := by kernel_rfl

/- (roadbook/query.occs).has -/
def t32_s_h : Hints := fun _ =>  none
theorem t32_s (N : Nat) (x0 : Int) (x1 : Int) : evFn Try.prog (envR UP [] [] []) t32_s_h N Try.f32 [dat 3 (.lit (.int .i64 x0)), dat 63 (.lit (.int .i64 x1))] =
  some (dat 4 (.lit (.bool ((andNotI .i64 x1 x0) == 0)))) := by kernel_rfl

/- roadbook/roadbookref05.Bit -/
def t18_h : Hints := fun i => if i = 2 then some ([2, 3, 4, 6, 7, 8, 9, 10, 11, 12, 13, 14, 15], [], []) else none
def t18_lp2 (P : Program) (fn : Func) (N n : Nat) (x0 : Int) (x1 : Int) (v0 : Int) (v5 : Int) : Option AV := evLoop (preL t18_h (sub [1, 0, 1, 0, 0] (bodyOf fn))) (evCode P (envR UP [] [] []) t18_h N (sub [1, 0, 1, 0, 0] (bodyOf fn))) n ⟨[dat 3 (.lit (.int .i64 v0)), dat 3 (.lit (.int .i64 x1)), dead, dead, dead, dat 3 (.lit (.int .i64 v5)), dead, dead, dead, dead, dead, dead, dead, dead, dead, dead], lookB []⟩ (blockK 0 (seqC P (envR UP [] [] []) t18_h N (sub [1, 1] (bodyOf fn)) (finK P fn) ))
theorem t18_lp2_step (N n : Nat) (x0 : Int) (x1 : Int) (v0 : Int) (v5 : Int) : t18_lp2 Try.prog Try.f18 N (n + 1) x0 x1 v0 v5 =
  bif decide (v5 < x1) then
    t18_lp2 Try.prog Try.f18 N n x0 x1 (Int.fdiv v0 (2 ^ min (1 : Int).toNat (IntKind.bits .i64))) (IntKind.wrap .i64 (v5 + 1))
  else some (dat 4 (.lit (.bool ((andI .i64 v0 1) == 1)))) := by kernel_rfl
theorem t18 (N : Nat) (x0 : Int) (x1 : Int) : evFn Try.prog (envR UP [] [] []) t18_h N Try.f18 [dat 3 (.lit (.int .i64 x0)), dat 3 (.lit (.int .i64 x1))] =
  t18_lp2 Try.prog Try.f18 N N x0 x1 x0 0 := by kernel_rfl

/- roadbook/roadbooklaw05.few -/
def t9_h : Hints := fun i => if i = 3 then some ([0, 1, 2, 4, 7, 8, 9, 10, 11, 12, 13, 14, 15, 16, 17, 18, 19, 20, 21, 22, 23, 24, 25, 26, 27, 28, 29, 30, 31, 32, 33, 34, 35, 36, 37, 38, 39, 40, 41, 42, 43, 44, 45, 46, 47, 48, 49, 50, 51], [3], []) else none
def t9_lp3 (P : Program) (fn : Func) (N n : Nat) (x0 : D) (x1 : D) (v5 : Bool) (v6 : Int) : Option AV := evLoop (preL t9_h (sub [1, 1, 0, 1, 0, 0] (bodyOf fn))) (evCode P (envR UP [] [] []) t9_h N (sub [1, 1, 0, 1, 0, 0] (bodyOf fn))) n ⟨[dead, dead, dead, bxp 3 28, dead, dat 4 (.lit (.bool v5)), dat 3 (.lit (.int .i64 v6)), dead, dead, dead, dead, dead, dead, dead, dead, dead, dead, dead, dead, dead, dead, dead, dead, dead, dead, dead, dead, dead, dead, dead, dead, dead, dead, dead, dead, dead, dead, dead, dead, dead, dead, dead, dead, dead, dead, dead, dead, dead, dead, dead, dead, dead], lookB [(3, some ⟨28, x1, 0, none⟩)]⟩ (blockK 0 (seqC P (envR UP [] [] []) t9_h N (sub [1, 1, 1] (bodyOf fn)) (finK P fn) ))
theorem t9_lp3_step (N n : Nat) (x0 : D) (x1 : D) (v5 : Bool) (v6 : Int) : t9_lp3 Try.prog Try.f9 N (n + 1) x0 x1 v5 v6 =
  bif ((decide (v6 < ((elemsD (fieldD x1 1)).length : Int))) == true) then
    bif v5 then
      bif (decide (0 ≤ v6) && decide (v6 < ((elemsD (fieldD x1 1)).length : Int))) then
        bif (decide (0 ≤ 60) && decide (60 ≤ 1000)) then
          t9_lp3 Try.prog Try.f9 N n x0 x1 (fewB ((elemsD (fieldD x1 1)).getD (v6).toNat .nil) 60) (IntKind.wrap .i64 (v6 + 1))
        else none
      else none
    else some (dat 4 (.lit (.bool v5)))
  else some (dat 4 (.lit (.bool v5))) := by kernel_rfl
theorem t9 (N : Nat) (x0 : D) (x1 : D) : evFn Try.prog (envR UP [] [] []) t9_h N Try.f9 [dat 24 x0, dat 28 x1] =
  bif ((decide (((elemsD (fieldD x0 0)).length : Int) ≤ 10)) == true) then
    bif ((decide (((elemsD (fieldD x1 0)).length : Int) ≤ 20)) == true) then
      bif ((decide (((elemsD (fieldD x1 1)).length : Int) ≤ 8)) == true) then
        bif ((decide (((elemsD (fieldD x1 3)).length : Int) ≤ 20)) == true) then
          t9_lp3 Try.prog Try.f9 N N x0 x1 (decide (((elemsD (fieldD x1 4)).length : Int) ≤ 20)) 0
        else t9_lp3 Try.prog Try.f9 N N x0 x1 false 0
      else t9_lp3 Try.prog Try.f9 N N x0 x1 false 0
    else t9_lp3 Try.prog Try.f9 N N x0 x1 false 0
  else t9_lp3 Try.prog Try.f9 N N x0 x1 false 0 := by kernel_rfl

end X
end Go.Proofs.Ytjgnknkbohlopaa

namespace Go.Proofs.Ytjgnknkbohlopaa
namespace X
open Go.Ev
set_option linter.unusedVariables false
set_option maxRecDepth 10000
set_option linter.unusedSimpArgs false

theorem nDef (x : D) : normD Try.prog 66 x = x := by kernel_rfl
theorem nCat (x : D) : normD Try.prog 24 x = x := by kernel_rfl
theorem nQry (x : D) : normD Try.prog 28 x = x := by kernel_rfl
theorem nOcs (x : D) : normD Try.prog 63 x = .lit (.int .i64 (intD x)) := by kernel_rfl
theorem nAsk (x : D) : normD Try.prog 62 x = x := by kernel_rfl
theorem mDef (x : D) : mkRes Try.prog 66 x = dat 66 x := by kernel_rfl
theorem mQry (x : D) : mkRes Try.prog 28 x = dat 28 x := by kernel_rfl
theorem mOcs (x : D) : mkRes Try.prog 63 x = dat 63 (.lit (.int .i64 (intD x))) := by kernel_rfl
theorem mPrs (x : D) : mkRes Try.prog 46 x = dat 46 x := by kernel_rfl
theorem mTCD (x : D) : mkRes Try.prog 55 x = tupA [24, 54] x := by kernel_rfl
theorem mIIB (x : D) : mkRes Try.prog 42 x = tupA [3, 3, 4] x := by kernel_rfl
theorem uDefs : Try.prog.underlying 22 = some (.slice 66) := by kernel_rfl
theorem uExprs : Try.prog.underlying 26 = some (.slice 40) := by kernel_rfl
theorem uDef : ∃ f g : Field, Try.prog.underlying 66 = some (.struct #[f, g]) ∧ f.type = 3 ∧ g.type = 3 := ⟨_, _, Try.underlying66, rfl, rfl⟩
theorem uCat : ∃ f : Field, Try.prog.underlying 24 = some (.struct #[f]) ∧ f.type = 22 := ⟨_, Try.underlying24, rfl⟩
theorem uQry : ∃ f0 f1 f2 f3 f4 f5 : Field, Try.prog.underlying 28 = some (.struct #[f0, f1, f2, f3, f4, f5]) ∧ f0.type = 25 ∧ f1.type = 26 ∧ f2.type = 3 ∧ f3.type = 25 ∧ f4.type = 25 ∧ f5.type = 3 :=
  ⟨_, _, _, _, _, _, Try.underlying28, rfl, rfl, rfl, rfl, rfl, rfl⟩

theorem tyDef {n : Nat} {x : D} (h : Ty Try.prog n 66 x) : ∃ c r, x = defD c r ∧ inR c = true ∧ inR r = true := by
  obtain ⟨f, g, hu, hf, hg⟩ := uDef
  obtain ⟨m, a, b, rfl, h1, h2⟩ := ty_struct2 h hu
  rw [hf] at h1
  rw [hg] at h2
  obtain ⟨c, rfl, hc⟩ := ty3' h1
  obtain ⟨r, rfl, hr⟩ := ty3' h2
  exact ⟨c, r, rfl, hc, hr⟩
theorem tyCat {n : Nat} {x : D} (h : Ty Try.prog n 24 x) : ∃ ts, x = catD ts ∧ ts.length ≤ maxLen ∧ ∀ t ∈ ts, ∃ c r, t = defD c r ∧ inR c = true ∧ inR r = true := by
  obtain ⟨f, hu, hf⟩ := uCat
  obtain ⟨m, a, rfl, h1⟩ := ty_struct1 h hu
  rw [hf] at h1
  obtain ⟨m, ts, rfl, hl, hp⟩ := ty_slice h1 uDefs
  exact ⟨ts, rfl, hl, fun t ht => tyDef (hp t ht)⟩
/-- A query's lists. -/
structure QOK (q : D) : Prop where
  eq : q = .agg [.slice (qOcc q) [], .slice (qP q) [], litI (qBy q), .slice (qSums q) [], .slice (qOut q) [], litI (qOrd q)]
  occ : (qOcc q).length ≤ maxLen
  p : (qP q).length ≤ maxLen
  sums : (qSums q).length ≤ maxLen
  out : (qOut q).length ≤ maxLen
  e : ∀ e ∈ qP q, ∃ m, Ty Try.prog m 40 e
  o : ∀ x ∈ qOcc q, ∃ z, x = litI z ∧ inR z = true
  s : ∀ x ∈ qSums q, ∃ z, x = litI z ∧ inR z = true
  u : ∀ x ∈ qOut q, ∃ z, x = litI z ∧ inR z = true
theorem tyQ {n : Nat} {x : D} (h : Ty Try.prog n 28 x) : QOK x := by
  obtain ⟨f0, f1, f2, f3, f4, f5, hu, t0, t1, t2, t3, t4, t5⟩ := uQry
  cases n with
  | zero => exact h.elim
  | succ n =>
    unfold Ty at h
    rw [hu] at h
    split at h <;> try (exact h.elim)
    all_goals try (simp_all; done)
    rename_i fs ps heq
    cases heq
    obtain ⟨hl, hp⟩ := h
    have h0 := hp 0 f0 rfl
    have h1 := hp 1 f1 rfl
    have h2 := hp 2 f2 rfl
    have h3 := hp 3 f3 rfl
    have h4 := hp 4 f4 rfl
    have h5 := hp 5 f5 rfl
    rw [t0] at h0
    rw [t1] at h1
    rw [t2] at h2
    rw [t3] at h3
    rw [t4] at h4
    rw [t5] at h5
    match ps, hl, h0, h1, h2, h3, h4, h5 with
    | [a, b, c, d, e, f], _, h0, h1, h2, h3, h4, h5 =>
      obtain ⟨es, rfl, l0, p0⟩ := ty27 (show Ty Try.prog n 25 a from h0)
      obtain ⟨m, xs, rfl, l1, p1⟩ := ty_slice (show Ty Try.prog n 26 b from h1) uExprs
      obtain ⟨z, rfl, _⟩ := ty3' (show Ty Try.prog n 3 c from h2)
      obtain ⟨us, rfl, l3, p3⟩ := ty27 (show Ty Try.prog n 25 d from h3)
      obtain ⟨vs, rfl, l4, p4⟩ := ty27 (show Ty Try.prog n 25 e from h4)
      obtain ⟨y, rfl, _⟩ := ty3' (show Ty Try.prog n 3 f from h5)
      exact ⟨rfl, l0, l1, l3, l4, fun e he => ⟨m, p1 e he⟩, p0, p3, p4⟩

def e41 : FuncId × TypeId × (List AV → Bool) × (List AV → Option D) := (41, 4, yes, ent [3, 3] (f2 fun x y => some (.lit (.bool (belowB (intD x) (intD y))))))
theorem k41 : FnOK Try.prog 41 Try.f41 := ⟨Try.func41, rfl, by kernel_rfl⟩
theorem c41 : ∀ args d, e41.2.2.2 args = some d → CallOK Try.prog 41 args (mkRes Try.prog 4 d) :=
  ent2 k41 fun x y d h _ _ => by
    cases h
    rw [n3, n3]
    refine fn_ok hm envUP k41 ((t41 1 (intD x) (intD y)).trans ?_)
    rw [m4, ge_not]
    show _ = some (dat 4 (.lit (.bool (belowB (intD x) (intD y)))))
    unfold belowB
    cases decide (0 ≤ intD x) <;> rfl
def e47 : FuncId × TypeId × (List AV → Bool) × (List AV → Option D) := (47, 4, yes, ent [3, 3] (f2 fun x y => some (.lit (.bool (belowB (intD x) (intD y))))))
theorem k47 : FnOK Try.prog 47 Try.f47 := ⟨Try.func47, rfl, by kernel_rfl⟩
theorem c47 : ∀ args d, e47.2.2.2 args = some d → CallOK Try.prog 47 args (mkRes Try.prog 4 d) :=
  ent2 k47 fun x y d h _ _ => by
    cases h
    rw [n3, n3]
    refine fn_ok hm envUP k47 ((t47 1 (intD x) (intD y)).trans ?_)
    rw [m4, ge_not]
    show _ = some (dat 4 (.lit (.bool (belowB (intD x) (intD y)))))
    unfold belowB
    cases decide (0 ≤ intD x) <;> rfl
def e46 : FuncId × TypeId × (List AV → Bool) × (List AV → Option D) := (46, 66, yes, ent [66] (f1 fun x => some (orZeroD x)))
theorem k46 : FnOK Try.prog 46 Try.f46 := ⟨Try.func46, rfl, by kernel_rfl⟩
theorem c46 : ∀ args d, e46.2.2.2 args = some d → CallOK Try.prog 46 args (mkRes Try.prog 66 d) :=
  ent1 k46 fun x d h _ => by
    cases h
    rw [nDef]
    refine fn_ok hm envUP k46 ((t46 1 x).trans ?_)
    rw [mDef, mayDef_tree]
    unfold orZeroD
    cases mayDef x <;> rfl
def e22 : FuncId × TypeId × (List AV → Bool) × (List AV → Option D) := (22, 55, yes, ent [] (f0 (some (.agg [catTwo, dataTwo]))))
theorem k22 : FnOK Try.prog 22 Try.f22 := ⟨Try.func22, rfl, by kernel_rfl⟩
theorem c22 : ∀ args d, e22.2.2.2 args = some d → CallOK Try.prog 22 args (mkRes Try.prog 55 d) :=
  ent0 fun d h => by
    cases h
    refine fn_ok hm envUP k22 ((t22 1).trans ?_)
    rw [mTCD]
    rfl
def e24 : FuncId × TypeId × (List AV → Bool) × (List AV → Option D) := (24, 40, yes, ent [] (f0 (some pairQ)))
theorem k24 : FnOK Try.prog 24 Try.f24 := ⟨Try.func24, rfl, by kernel_rfl⟩
theorem c24 : ∀ args d, e24.2.2.2 args = some d → CallOK Try.prog 24 args (mkRes Try.prog 40 d) :=
  ent0 fun d h => by
    cases h
    refine fn_ok hm envUP k24 ((t24 1).trans ?_)
    rw [m26]
    rfl
def e59 : FuncId × TypeId × (List AV → Bool) × (List AV → Option D) := (59, 4, yes, ent [25, 3] (f2 fun x y => some (.lit (.bool (hasB (elemsD x) (intD y))))))
theorem k59 : FnOK Try.prog 59 Try.f59 := ⟨Try.func59, rfl, by kernel_rfl⟩
theorem c59 : ∀ args d, e59.2.2.2 args = some d → CallOK Try.prog 59 args (mkRes Try.prog 4 d) :=
  ent2 k59 fun x y d h _ _ => by
    cases h
    rw [n27, n3]
    refine fn_ok hm envUP k59 ((t59 1 x (intD y)).trans ?_)
    rw [m4]
    show _ = some (dat 4 (.lit (.bool (hasB (elemsD x) (intD y)))))
    have : decide (Lib.idxOf ((elemsD x).map intD) (intD y) ≥ 0) = hasB (elemsD x) (intD y) := by
      unfold hasB
      rw [Bool.eq_iff_iff, decide_eq_true_eq]
      have := Lib.idxOf_nonneg_iff ((elemsD x).map intD) (intD y)
      exact Iff.of_eq this
    rw [this]
def e34 : FuncId × TypeId × (List AV → Bool) × (List AV → Option D) := (34, 63, preD (q1 fun x => decide (0 ≤ intD x)), ent [3] (f1 fun x => some (.lit (.int .i64 (aloneI (intD x))))))
theorem k34 : FnOK Try.prog 34 Try.f34 := ⟨Try.func34, rfl, by kernel_rfl⟩
theorem c34 : ∀ args d, e34.2.2.1 args = true → e34.2.2.2 args = some d → CallOK Try.prog 34 args (mkRes Try.prog 63 d) :=
  ent1p k34 fun x d hq h _ => by
    cases h
    rw [n3]
    refine fn_ok hm envUP k34 ((t34 1 (intD x)).trans ?_)
    have hq : decide (0 ≤ intD x) = true := hq
    rw [mOcs, hq]
    rfl
def hasF : List D → Option D := f2 fun x y => some (.lit (.bool (hasS (intD x) (intD y))))
def e32 : FuncId × TypeId × (List AV → Bool) × (List AV → Option D) := (32, 4, yes, fun xs => match ent [3, 3] hasF xs with | some d => some d | none => ent [3, 63] hasF xs)
theorem k32 : FnOK Try.prog 32 Try.f32 := ⟨Try.func32, rfl, by kernel_rfl⟩
theorem c32 : ∀ args d, e32.2.2.2 args = some d → CallOK Try.prog 32 args (mkRes Try.prog 4 d) := by
  intro args d h
  have h1 : ∀ args d, ent [3, 3] hasF args = some d → CallOK Try.prog 32 args (mkRes Try.prog 4 d) := ent2 k32 fun x y d h _ _ => by
    cases h
    rw [n3, n3]
    exact fn_ok hm envUP k32 ((t32_i 1 (intD x) (intD y)).trans (by rw [m4]; rfl))
  have h2 : ∀ args d, ent [3, 63] hasF args = some d → CallOK Try.prog 32 args (mkRes Try.prog 4 d) := ent2 k32 fun x y d h _ _ => by
    cases h
    rw [n3, nOcs]
    exact fn_ok hm envUP k32 ((t32_s 1 (intD x) (intD y)).trans (by rw [m4]; rfl))
  cases he : ent [3, 3] hasF args with
  | some d' =>
    have h : (match ent [3, 3] hasF args with | some d => some d | none => ent [3, 63] hasF args) = some d := h
    rw [he] at h
    cases h
    exact h1 args _ he
  | none =>
    have h : (match ent [3, 3] hasF args with | some d => some d | none => ent [3, 63] hasF args) = some d := h
    rw [he] at h
    exact h2 args _ h
theorem bit_loop {N : Nat} {x0 x1 : Int} (h1 : inR x1 = true) : ∀ (n k : Nat) (s v : Int), 0 ≤ v → v + k = x1 → k < n → t18_lp2 Try.prog Try.f18 N n x0 x1 s v = some (dat 4 (.lit (.bool (andI .i64 (halfN k s) 1 == 1))))
  | 0, k, s, v, _, _, h => by omega
  | n + 1, 0, s, v, h0, hv, _ => by
    rw [t18_lp2_step, dF (show ¬ v < x1 by omega), cond_false]
    rfl
  | n + 1, k + 1, s, v, h0, hv, h => by
    have hr := inR_iff.1 h1
    rw [t18_lp2_step, dT (show v < x1 by omega), cond_true, l_wrapI (inR_iff.2 (by omega)), bit_loop h1 n k _ (v + 1) (by omega) (by omega) (by omega)]
    rfl
def e18 : FuncId × TypeId × (List AV → Bool) × (List AV → Option D) := (18, 4, yes, ent [3, 3] (f2 fun x y => some (.lit (.bool (bitB (intD x) (intD y))))))
theorem k18 : FnOK Try.prog 18 Try.f18 := ⟨Try.func18, rfl, by kernel_rfl⟩
theorem c18 : ∀ args d, e18.2.2.2 args = some d → CallOK Try.prog 18 args (mkRes Try.prog 4 d) :=
  ent2 k18 fun x y d h _ ⟨_, hy⟩ => by
    cases h
    obtain ⟨z, rfl, hz⟩ := ty3' hy
    rw [n3, n3]
    refine fn_ok hm envUP k18 ((t18 (z.toNat + 1) (intD x) z).trans ?_)
    rw [m4]
    show _ = some (dat 4 (.lit (.bool (andI .i64 (halfN z.toNat (intD x)) 1 == 1))))
    by_cases h0 : 0 ≤ z
    · exact bit_loop hz (z.toNat + 1) z.toNat (intD x) 0 (by omega) (by omega) (by omega)
    · rw [show z.toNat = 0 by omega, t18_lp2_step, dF (show ¬ 0 < z by omega), cond_false]
      rfl
theorem few_loop {N : Nat} {c q : D} (hl : (elemsD (fieldD q 1)).length ≤ maxLen) : ∀ (n i : Nat) (b : Bool), i ≤ (elemsD (fieldD q 1)).length → (elemsD (fieldD q 1)).length - i < n →
    t9_lp3 Try.prog Try.f9 N n c q b (i : Int) = some (dat 4 (.lit (.bool (b && ((elemsD (fieldD q 1)).drop i).all fun e => fewB e 60))))
  | 0, i, b, _, h => by omega
  | n + 1, i, b, hi, h => by
    rw [t9_lp3_step]
    by_cases hlt : i < (elemsD (fieldD q 1)).length
    · rw [l_idx hlt, l_lt hlt, List.drop_eq_getElem_cons hlt, List.all_cons, Int.toNat_natCast, l_get hlt, l_wrap hl hlt]
      cases b with
      | false => rfl
      | true => exact (few_loop (N := N) (c := c) hl n (i + 1) _ (by omega) (by omega)).trans (by rw [Bool.true_and])
    · rw [l_ge hlt, List.drop_of_length_le (by omega), List.all_nil, Bool.and_true]
      rfl
def e9 : FuncId × TypeId × (List AV → Bool) × (List AV → Option D) := (9, 4, yes, ent [24, 28] (f2 fun x y => some (.lit (.bool (fewQ fewB x y)))))
theorem k9 : FnOK Try.prog 9 Try.f9 := ⟨Try.func9, rfl, by kernel_rfl⟩
theorem natLe {a : Nat} {b : Nat} : decide ((a : Int) ≤ (b : Int)) = decide (a ≤ b) := by rw [Bool.eq_iff_iff, decide_eq_true_eq, decide_eq_true_eq]; omega
theorem c9 : ∀ args d, e9.2.2.2 args = some d → CallOK Try.prog 9 args (mkRes Try.prog 4 d) :=
  ent2 k9 fun x y d h _ ⟨_, hy⟩ => by
    cases h
    rw [nCat, nQry]
    have hq := tyQ hy
    have hl : (elemsD (fieldD y 1)).length ≤ maxLen := hq.p
    refine fn_ok hm envUP k9 ((t9 ((elemsD (fieldD y 1)).length + 1) x y).trans ?_)
    have lp : ∀ b, t9_lp3 Try.prog Try.f9 ((elemsD (fieldD y 1)).length + 1) ((elemsD (fieldD y 1)).length + 1) x y b 0 = some (dat 4 (.lit (.bool (b && (elemsD (fieldD y 1)).all fun e => fewB e 60)))) :=
      fun b => (few_loop hl _ 0 b (Nat.zero_le _) (by omega)).trans (by rw [List.drop_zero])
    rw [m4, lp, lp]
    show _ = some (dat 4 (.lit (.bool (fewQ fewB x y))))
    unfold fewQ tabs qOcc qP qSums qOut
    rw [show ((10 : Int)) = ((10 : Nat) : Int) from rfl, show ((20 : Int)) = ((20 : Nat) : Int) from rfl, show ((8 : Int)) = ((8 : Nat) : Int) from rfl, natLe, natLe, natLe, natLe, natLe]
    generalize decide ((elemsD (fieldD x 0)).length ≤ 10) = b1
    generalize decide ((elemsD (fieldD y 0)).length ≤ 20) = b2
    generalize decide ((elemsD (fieldD y 1)).length ≤ 8) = b3
    generalize decide ((elemsD (fieldD y 3)).length ≤ 20) = b4
    generalize decide ((elemsD (fieldD y 4)).length ≤ 20) = b5
    generalize ((elemsD (fieldD y 1)).all fun e => fewB e 60) = b6
    cases b1 <;> cases b2 <;> cases b3 <;> cases b4 <;> rfl
def Q1 : Tab := e9 :: e18 :: e32 :: e34 :: e59 :: e24 :: e22 :: e46 :: e47 :: e41 :: UP
theorem envQ1 : EnvOK Try.prog (envH Q1 []) := envOK_cons (envOK_cons (envOK_cons (envOK_cons' (envOK_cons (envOK_cons (envOK_cons (envOK_cons (envOK_cons (envOK_cons envUP c41) c47) c46) c22) c24) c59) c34) c32) c18) c9

end X
end Go.Proofs.Ytjgnknkbohlopaa

namespace Go.Proofs.Ytjgnknkbohlopaa
namespace X
open Go.Ev
set_option linter.unusedVariables false
/- roadbook/data.Col -/
def t35_h : Hints := fun _ =>  none
theorem t35 (N : Nat) (x0 : Int) (x1 : Int) : evFn Try.prog (envR Q1 [] [] []) t35_h N Try.f35 [dat 3 (.lit (.int .i64 x0)), dat 3 (.lit (.int .i64 x1))] =
  bif ((!(belowB x0 4)) == false) then
    bif (!(belowB x1 4)) then
      some (dat 3 (.lit (.int .i64 (-1))))
    else some (dat 3 (.lit (.int .i64 (IntKind.wrap .i64 ((IntKind.wrap .i64 (x0 * 4)) + x1)))))
  else some (dat 3 (.lit (.int .i64 (-1)))) := by kernel_rfl

/- roadbook/data.Split -/
def t17_h : Hints := fun _ =>  none
theorem t17 (N : Nat) (x0 : Int) : evFn Try.prog (envR Q1 [] [] []) t17_h N Try.f17 [dat 3 (.lit (.int .i64 x0))] =
  bif (!(belowB x0 16)) then
    some (tupA [3, 3, 4] (.agg [.lit (.int .i64 0), .lit (.int .i64 0), .lit (.bool false)]))
  else some (tupA [3, 3, 4] (.agg [.lit (.int .i64 (IntKind.wrap .i64 (Int.tdiv x0 4))), .lit (.int .i64 (Int.tmod x0 4)), .lit (.bool true)])) := by kernel_rfl

/- roadbook/data.May -/
def t27_h : Hints := fun i => if i = 4 then some ([0, 1, 2, 3, 4, 5, 6, 7, 8, 9, 10, 11, 12, 13, 14, 15, 19, 20, 21, 22, 23, 24, 25, 26], [], []) else none
def t27_lp4 (P : Program) (fn : Func) (N n : Nat) (x0 : D) (v18 : Int) : Option AV := evLoop (preL t27_h (sub [1, 1, 0, 1, 0, 0] (bodyOf fn))) (evCode P (envR Q1 [] [] []) t27_h N (sub [1, 1, 0, 1, 0, 0] (bodyOf fn))) n ⟨[dead, dead, dead, dead, dead, dead, dead, dead, dead, dead, dead, dead, dead, dead, dead, dead, dat 22 (fieldD x0 0), dat 3 (.lit (.int .i64 ((elemsD (fieldD x0 0)).length : Int))), dat 3 (.lit (.int .i64 v18)), dead, dead, dead, dead, dead, dead, dead, dead], lookB []⟩ (blockK 0 (seqC P (envR Q1 [] [] []) t27_h N (sub [1, 1, 1] (bodyOf fn)) (finK P fn) ))
theorem t27_lp4_step (N n : Nat) (x0 : D) (v18 : Int) : t27_lp4 Try.prog Try.f27 N (n + 1) x0 v18 =
  bif decide (v18 < ((elemsD (fieldD x0 0)).length : Int)) then
    bif (decide (0 ≤ v18) && decide (v18 < ((elemsD (fieldD x0 0)).length : Int))) then
      bif (((intD (fieldD (orZeroD ((elemsD (fieldD x0 0)).getD (v18).toNat .nil)) 0)) == 0) && (((intD (fieldD (orZeroD ((elemsD (fieldD x0 0)).getD (v18).toNat .nil)) 1)) == 0) && true)) then
        some (dat 4 (.lit (.bool false)))
      else t27_lp4 Try.prog Try.f27 N n x0 (IntKind.wrap .i64 (v18 + 1))
    else none
  else some (dat 4 (.lit (.bool true))) := by kernel_rfl
theorem t27 (N : Nat) (x0 : D) : evFn Try.prog (envR Q1 [] [] []) t27_h N Try.f27 [dat 24 x0] =
  bif ((decide (((elemsD (fieldD x0 0)).length : Int) < 1)) == false) then
    bif decide (((elemsD (fieldD x0 0)).length : Int) > 4) then
      some (dat 4 (.lit (.bool false)))
    else t27_lp4 Try.prog Try.f27 N N x0 0
  else some (dat 4 (.lit (.bool false))) := by kernel_rfl

/- roadbook/roadbooklaw05.One -/
def t23_h : Hints := fun _ =>  none
theorem t23 (N : Nat)  : evFn Try.prog (envR Q1 [] [] []) t23_h N Try.f23 [] =
  some (dat 28 (.agg [.slice [.lit (.int .i64 0), .lit (.int .i64 0), .lit (.int .i64 1)] [], .slice [pairQ, .agg [.lit (.int .i64 7), .lit (.int .i64 0), .agg [.lit (.int .i64 0), .lit (.int .i64 0)], .slice [.agg [.lit (.int .i64 1), .lit (.int .i64 8), .agg [.lit (.int .i64 0), .lit (.int .i64 0)], .slice [] []], .agg [.lit (.int .i64 0), .lit (.int .i64 0), .agg [.lit (.int .i64 0), .lit (.int .i64 5)], .slice [] []]] []]] [], .lit (.int .i64 (-1)), .slice [] [], .slice [.lit (.int .i64 0), .lit (.int .i64 8)] [], .lit (.int .i64 8)])) := by kernel_rfl

/- roadbook/query.occurrencesMay -/
def t28_h : Hints := fun i => if i = 4 then some ([0, 1, 4, 5, 6, 7, 8, 9, 10, 11, 12, 13, 14, 15, 16, 17, 20, 21, 22, 23, 24, 25, 26, 27, 28, 29, 30, 31, 32], [2, 3], []) else none
def t28_lp4 (P : Program) (fn : Func) (N n : Nat) (x0 : D) (x1 : D) (v19 : Int) : Option AV := evLoop (preL t28_h (sub [1, 1, 0, 1, 0, 0] (bodyOf fn))) (evCode P (envR Q1 [] [] []) t28_h N (sub [1, 1, 0, 1, 0, 0] (bodyOf fn))) n ⟨[dead, dead, bxp 2 24, bxp 3 28, dead, dead, dead, dead, dead, dead, dead, dead, dead, dead, dead, dead, dead, dead, dat 3 (.lit (.int .i64 ((elemsD (fieldD x1 0)).length : Int))), dat 3 (.lit (.int .i64 v19)), dead, dead, dead, dead, dead, dead, dead, dead, dead, dead, dead, dead, dead], lookB [(2, some ⟨24, x0, 0, none⟩), (3, some ⟨28, x1, 0, none⟩)]⟩ (blockK 0 (seqC P (envR Q1 [] [] []) t28_h N (sub [1, 1, 1] (bodyOf fn)) (finK P fn) ))
theorem t28_lp4_step (N n : Nat) (x0 : D) (x1 : D) (v19 : Int) : t28_lp4 Try.prog Try.f28 N (n + 1) x0 x1 v19 =
  bif decide (v19 < ((elemsD (fieldD x1 0)).length : Int)) then
    bif (decide (0 ≤ v19) && decide (v19 < ((elemsD (fieldD x1 0)).length : Int))) then
      bif (!(belowB (intD ((elemsD (fieldD x1 0)).getD (v19).toNat .nil)) ((elemsD (fieldD x0 0)).length : Int))) then
        some (dat 4 (.lit (.bool false)))
      else t28_lp4 Try.prog Try.f28 N n x0 x1 (IntKind.wrap .i64 (v19 + 1))
    else none
  else some (dat 4 (.lit (.bool true))) := by kernel_rfl
theorem t28 (N : Nat) (x0 : D) (x1 : D) : evFn Try.prog (envR Q1 [] [] []) t28_h N Try.f28 [dat 24 x0, dat 28 x1] =
  bif ((decide (((elemsD (fieldD x1 0)).length : Int) < 1)) == false) then
    bif decide (((elemsD (fieldD x1 0)).length : Int) > 4) then
      some (dat 4 (.lit (.bool false)))
    else t28_lp4 Try.prog Try.f28 N N x0 x1 0
  else some (dat 4 (.lit (.bool false))) := by kernel_rfl

end X
end Go.Proofs.Ytjgnknkbohlopaa

namespace Go.Proofs.Ytjgnknkbohlopaa
namespace X
open Go.Ev
set_option linter.unusedVariables false
set_option maxRecDepth 10000
set_option linter.unusedSimpArgs false

theorem any_not (l : List D) (f : D → Bool) : l.any (fun x => !f x) = !l.all f := by rw [List.all_eq_not_any_not, Bool.not_not]
theorem any_may (ts : List D) : ts.any (fun t => !mayDef t) = !ts.all mayDef := any_not ts mayDef
theorem natLt (k : Nat) {a : Nat} : decide ((a : Int) < (k : Int)) = !decide (k ≤ a) := by by_cases h : k ≤ a <;> simp [h] <;> omega
theorem natGt (k : Nat) {a : Nat} : decide ((a : Int) > (k : Int)) = !decide (a ≤ k) := by by_cases h : a ≤ k <;> simp [h] <;> omega
theorem natGt0 {l : List D} : decide ((l.length : Int) > 0) = !l.isEmpty := by cases l <;> simp
theorem natEq0 {l : List D} : ((l.length : Int) == 0) = l.isEmpty := by
  cases l with
  | nil => rfl
  | cons a l => rw [beq_eq_false_iff_ne.2 (by rw [List.length_cons]; omega)]; rfl
theorem split_nonneg (z : Int) : 0 ≤ splitA z ∧ splitA z < 4 := by
  by_cases h : 0 ≤ z ∧ z < 16
  · rw [(split_in h).1]; omega
  · rw [(split_out h).1]; omega
theorem wrap_div {z : Int} (h : 0 ≤ z ∧ z < 16) : IntKind.wrap .i64 (Int.tdiv z 4) = z / 4 := by
  rw [Int.tdiv_eq_ediv_of_nonneg h.1, l_wrapI (l_in (by omega) (by omega))]
def e35 : FuncId × TypeId × (List AV → Bool) × (List AV → Option D) := (35, 3, yes, ent [3, 3] (f2 fun x y => some (.lit (.int .i64 (colN (intD x) (intD y))))))
theorem k35 : FnOK Try.prog 35 Try.f35 := ⟨Try.func35, rfl, by kernel_rfl⟩
theorem c35 : ∀ args d, e35.2.2.2 args = some d → CallOK Try.prog 35 args (mkRes Try.prog 3 d) :=
  ent2 k35 fun x y d h _ _ => by
    cases h
    rw [n3, n3]
    refine fn_ok hm envQ1 k35 ((t35 1 (intD x) (intD y)).trans ?_)
    rw [m3]
    show _ = some (dat 3 (.lit (.int .i64 (colN (intD x) (intD y)))))
    generalize intD x = a
    generalize intD y = b
    cases h1 : belowB a 4 with
    | false => rw [colN_out (by have := below_not.1 h1; omega)]; rfl
    | true =>
      cases h2 : belowB b 4 with
      | false => rw [colN_out (by have := below_not.1 h2; omega)]; rfl
      | true =>
        have a1 := below_iff.1 h1
        have a2 := below_iff.1 h2
        rw [colN_in a1 a2, l_wrapI (z := a * 4) (l_in (by omega) (by omega)), l_wrapI (l_in (by omega) (by omega))]; rfl

def e17 : FuncId × TypeId × (List AV → Bool) × (List AV → Option D) := (17, 42, yes, ent [3] (f1 fun x => some (.agg [.lit (.int .i64 (splitA (intD x))), .lit (.int .i64 (splitB (intD x))), .lit (.bool (belowB (intD x) 16))])))
theorem k17 : FnOK Try.prog 17 Try.f17 := ⟨Try.func17, rfl, by kernel_rfl⟩
theorem c17 : ∀ args d, e17.2.2.2 args = some d → CallOK Try.prog 17 args (mkRes Try.prog 42 d) :=
  ent1 k17 fun x d h _ => by
    cases h
    rw [n3]
    refine fn_ok hm envQ1 k17 ((t17 1 (intD x)).trans ?_)
    rw [mIIB]
    generalize intD x = z
    cases h1 : belowB z 16 with
    | false =>
      obtain ⟨a, b⟩ := split_out (z := z) (below_not.1 h1)
      rw [a, b]; rfl
    | true =>
      have h2 := below_iff.1 h1
      obtain ⟨a, b⟩ := split_in h2
      rw [a, b, wrap_div h2, Int.tmod_eq_emod_of_nonneg h2.1]; rfl

def e27 : FuncId × TypeId × (List AV → Bool) × (List AV → Option D) := (27, 4, yes, ent [24] (f1 fun x => some (.lit (.bool (mayCat x)))))
theorem k27 : FnOK Try.prog 27 Try.f27 := ⟨Try.func27, rfl, by kernel_rfl⟩
theorem c27 : ∀ args d, e27.2.2.2 args = some d → CallOK Try.prog 27 args (mkRes Try.prog 4 d) :=
  ent1 k27 fun x d h ⟨_, hx⟩ => by
    cases h
    rw [nCat]
    obtain ⟨ts, rfl, hl, _⟩ := tyCat hx
    refine fn_ok hm envQ1 k27 ((t27 (ts.length + 1) (catD ts)).trans ?_)
    rw [m4, tabs_cat]
    have := l_loop (fun n v => t27_lp4 Try.prog Try.f27 (ts.length + 1) n (catD ts) v) ts.length (fun i => !mayDef (ts.getD i .nil)) (some (dat 4 (.lit (.bool false)))) (some (dat 4 (.lit (.bool true))))
      (fun n i hi => by
        rw [t27_lp4_step, tabs_cat, l_idx hi, l_lt hi, Int.toNat_natCast, orZero_zero, l_wrap hl hi, cond_true, cond_true])
      (fun n => by rw [t27_lp4_step, tabs_cat, l_ge (by omega), cond_false]) (ts.length + 1) 0 (Nat.zero_le _) (by omega)
    have this : t27_lp4 Try.prog Try.f27 (ts.length + 1) (ts.length + 1) (catD ts) 0 = _ := this
    rw [this, Nat.sub_zero, l_any0 ts (fun t => !mayDef t), any_may]
    show _ = some (dat 4 (.lit (.bool ((decide (1 ≤ ts.length) && decide (ts.length ≤ 4)) && ts.all mayDef))))
    by_cases h1 : 1 ≤ ts.length
    · by_cases h4 : ts.length ≤ 4
      · rw [dF (show ¬ ((ts.length : Int)) < 1 by omega), dF (show ¬ ((ts.length : Int)) > 4 by omega), dT h1, dT h4]
        cases ts.all mayDef <;> rfl
      · rw [dF (show ¬ ((ts.length : Int)) < 1 by omega), dT (show ((ts.length : Int)) > 4 by omega), dT h1, dF h4]
        rfl
    · rw [dT (show ((ts.length : Int)) < 1 by omega), dF h1]
      rfl

def e23 : FuncId × TypeId × (List AV → Bool) × (List AV → Option D) := (23, 28, yes, ent [] (f0 (some oneQ)))
theorem k23 : FnOK Try.prog 23 Try.f23 := ⟨Try.func23, rfl, by kernel_rfl⟩
theorem c23 : ∀ args d, e23.2.2.2 args = some d → CallOK Try.prog 23 args (mkRes Try.prog 28 d) :=
  ent0 fun d h => by
    cases h
    refine fn_ok hm envQ1 k23 ((t23 1).trans ?_)
    rw [mQry]
    rfl
def e28 : FuncId × TypeId × (List AV → Bool) × (List AV → Option D) := (28, 4, yes, ent [24, 28] (f2 fun x y => some (.lit (.bool (occMayB x y)))))
theorem k28 : FnOK Try.prog 28 Try.f28 := ⟨Try.func28, rfl, by kernel_rfl⟩
theorem c28 : ∀ args d, e28.2.2.2 args = some d → CallOK Try.prog 28 args (mkRes Try.prog 4 d) :=
  ent2 k28 fun x y d h _ ⟨_, hy⟩ => by
    cases h
    rw [nCat, nQry]
    have hq : (elemsD (fieldD y 0)).length ≤ maxLen := (tyQ hy).occ
    refine fn_ok hm envQ1 k28 ((t28 ((elemsD (fieldD y 0)).length + 1) x y).trans ?_)
    have lp : t28_lp4 Try.prog Try.f28 ((elemsD (fieldD y 0)).length + 1) ((elemsD (fieldD y 0)).length + 1) x y 0 = some (dat 4 (.lit (.bool ((elemsD (fieldD y 0)).all fun o => belowB (intD o) ((elemsD (fieldD x 0)).length : Int))))) := by
      have := l_loop (fun n v => t28_lp4 Try.prog Try.f28 ((elemsD (fieldD y 0)).length + 1) n x y v) (elemsD (fieldD y 0)).length (fun i => !belowB (intD ((elemsD (fieldD y 0)).getD i .nil)) ((elemsD (fieldD x 0)).length : Int)) (some (dat 4 (.lit (.bool false)))) (some (dat 4 (.lit (.bool true))))
        (fun n i hi => by rw [t28_lp4_step, l_idx hi, l_lt hi, cond_true, cond_true, Int.toNat_natCast, l_wrap hq hi])
        (fun n => by rw [t28_lp4_step, l_ge (by omega), cond_false]) ((elemsD (fieldD y 0)).length + 1) 0 (Nat.zero_le _) (by omega)
      refine this.trans ?_
      rw [Nat.sub_zero, l_any0 (elemsD (fieldD y 0)) (fun o => !belowB (intD o) ((elemsD (fieldD x 0)).length : Int)), any_not]
      cases (elemsD (fieldD y 0)).all fun o => belowB (intD o) ((elemsD (fieldD x 0)).length : Int) <;> rfl
    rw [m4, lp]
    show _ = some (dat 4 (.lit (.bool (occMayB x y))))
    unfold occMayB qOcc tabs
    rw [show decide (((elemsD (fieldD y 0)).length : Int) < 1) = _ from natLt 1, show decide (((elemsD (fieldD y 0)).length : Int) > 4) = _ from natGt 4]
    cases decide (1 ≤ (elemsD (fieldD y 0)).length) <;> cases decide ((elemsD (fieldD y 0)).length ≤ 4) <;> rfl
def Q2 : Tab := e28 :: e23 :: e27 :: e17 :: e35 :: Q1
theorem envQ2 : EnvOK Try.prog (envH Q2 []) := envOK_cons (envOK_cons (envOK_cons (envOK_cons (envOK_cons envQ1 c35) c17) c27) c23) c28

end X
end Go.Proofs.Ytjgnknkbohlopaa
