/- What the evaluator comes to, function by function: by the kernel. Nothing here is trusted. -/
import Derived.Test.YtmopepjahjmdeaaBA
import Derived.Test.YtmopepjahjmdeaaVD
namespace Go.Proofs.Ytmopepjahjmdeaa
open Go.Ev
set_option linter.unusedVariables false
/- roadbook/data.below -/
def t49_h : Hints := fun _ =>  none
theorem t49 (N : Nat) (x0 : Int) (x1 : Int) : evFn Try.prog (envR B2 [] [] []) t49_h N Try.f49 [dat 3 (.lit (.int .i64 x0)), dat 3 (.lit (.int .i64 x1))] =
  bif ((decide (x0 ≥ 0)) == true) then
    some (dat 4 (.lit (.bool (decide (x0 < x1)))))
  else some (dat 4 (.lit (.bool false))) := by kernel_rfl

/- roadbook/data.orZero -/
def t53_h : Hints := fun _ =>  none
theorem t53 (N : Nat) (x0 : D) : evFn Try.prog (envR B2 [] [] []) t53_h N Try.f53 [dat 85 x0] =
  bif ((decide ((intD (fieldD x0 0)) < 1)) == false) then
    bif ((decide ((intD (fieldD x0 0)) > 4)) == false) then
      bif ((decide ((intD (fieldD x0 1)) < 1)) == false) then
        bif decide ((intD (fieldD x0 1)) > 1000000) then
          some (dat 85 (.agg [.lit (.int .i64 0), .lit (.int .i64 0)]))
        else some (dat 85 x0)
      else some (dat 85 (.agg [.lit (.int .i64 0), .lit (.int .i64 0)]))
    else some (dat 85 (.agg [.lit (.int .i64 0), .lit (.int .i64 0)]))
  else some (dat 85 (.agg [.lit (.int .i64 0), .lit (.int .i64 0)])) := by kernel_rfl

/- roadbook/roadbooklaw04.Two -/
def t48_h : Hints := fun _ =>  none
theorem t48 (N : Nat)  : evFn Try.prog (envR B2 [] [] []) t48_h N Try.f48 [] =
  some (tupA [38, 41] (.agg [.agg [.slice [.agg [.lit (.int .i64 2), .lit (.int .i64 100)], .agg [.lit (.int .i64 1), .lit (.int .i64 10)]] []], .agg [.slice [.slice [.slice [.agg [.lit (.int .i64 0), .lit (.int .i64 1)], .agg [.lit (.int .i64 0), .lit (.int .i64 2)]] [], .slice [.agg [.lit (.int .i64 0), .lit (.int .i64 3)], .agg [.lit (.int .i64 0), .lit (.int .i64 4)]] []] [], .slice [.slice [.agg [.lit (.int .i64 0), .lit (.int .i64 4)]] []] []] []]])) := by kernel_rfl

/- roadbook/roadbookref04.Col -/
def t28_h : Hints := fun _ =>  none
theorem t28 (N : Nat) (x0 : Int) (x1 : Int) : evFn Try.prog (envR B2 [] [] []) t28_h N Try.f28 [dat 3 (.lit (.int .i64 x0)), dat 3 (.lit (.int .i64 x1))] =
  bif ((decide (x0 < 0)) == false) then
    bif ((decide (x0 > 3)) == false) then
      bif ((decide (x1 < 0)) == false) then
        bif decide (x1 > 3) then
          some (dat 3 (.lit (.int .i64 (-1))))
        else some (dat 3 (.lit (.int .i64 (IntKind.wrap .i64 ((IntKind.wrap .i64 (4 * x0)) + x1)))))
      else some (dat 3 (.lit (.int .i64 (-1))))
    else some (dat 3 (.lit (.int .i64 (-1))))
  else some (dat 3 (.lit (.int .i64 (-1)))) := by kernel_rfl

/- roadbook/roadbookref04.Split -/
def t21_h : Hints := fun _ =>  none
theorem t21 (N : Nat) (x0 : Int) : evFn Try.prog (envR B2 [] [] []) t21_h N Try.f21 [dat 3 (.lit (.int .i64 x0))] =
  bif ((decide (x0 < 0)) == false) then
    bif decide (x0 > 15) then
      some (tupA [3, 3, 4] (.agg [.lit (.int .i64 0), .lit (.int .i64 0), .lit (.bool false)]))
    else some (tupA [3, 3, 4] (.agg [.lit (.int .i64 (IntKind.wrap .i64 (Int.tdiv x0 4))), .lit (.int .i64 (Int.tmod x0 4)), .lit (.bool true)]))
  else some (tupA [3, 3, 4] (.agg [.lit (.int .i64 0), .lit (.int .i64 0), .lit (.bool false)])) := by kernel_rfl

/- roadbook/roadbooklaw04.few -/
def t15_h : Hints := fun i => if i = 3 then some ([0, 2, 5, 6, 7, 8, 9, 10, 11, 12, 13, 14, 15, 16, 17, 18, 19, 20, 21, 22, 23, 24, 25, 26, 27, 28, 29, 30, 31, 32, 33, 34, 35, 36, 37, 38, 39, 40, 41, 42, 43, 44, 45, 46, 47, 48, 49, 50], [1], []) else if i = 7 then some ([0, 2, 6, 7, 8, 9, 10, 11, 12, 13, 14, 15, 16, 17, 18, 19, 20, 21, 22, 23, 24, 25, 26, 27, 28, 29, 30, 31, 32, 33, 34, 35, 36, 37, 38, 39, 40, 41, 42, 43, 44, 45, 46, 47, 48, 49, 50], [1], []) else none
def t15_lp3 (P : Program) (fn : Func) (N n : Nat) (x0 : D) (v3 : Bool) (v4 : Int) : Option AV := evLoop (preL t15_h (sub [1, 1, 0, 1, 0, 0] (bodyOf fn))) (evCode P (envR B2 [] [] []) t15_h N (sub [1, 1, 0, 1, 0, 0] (bodyOf fn))) n ⟨[dead, bxp 1 41, dead, dat 4 (.lit (.bool v3)), dat 3 (.lit (.int .i64 v4)), dead, dead, dead, dead, dead, dead, dead, dead, dead, dead, dead, dead, dead, dead, dead, dead, dead, dead, dead, dead, dead, dead, dead, dead, dead, dead, dead, dead, dead, dead, dead, dead, dead, dead, dead, dead, dead, dead, dead, dead, dead, dead, dead, dead, dead, dead], lookB [(1, some ⟨41, x0, 0, none⟩)]⟩ (blockK 0 (seqC P (envR B2 [] [] []) t15_h N (sub [1, 1, 1] (bodyOf fn)) (finK P fn) ))
def t15_lp7 (P : Program) (fn : Func) (N n : Nat) (x0 : D) (v3 : Bool) (v4 : Int) (m0 : Nat) (v3q : Bool) (v5 : Int) : Option AV := evLoop (preL t15_h (sub [1, 1, 0, 1, 0, 0, 1, 0, 0, 1, 1, 0, 0] (bodyOf fn))) (evCode P (envR B2 [] [] []) t15_h N (sub [1, 1, 0, 1, 0, 0, 1, 0, 0, 1, 1, 0, 0] (bodyOf fn))) n ⟨[dead, bxp 1 41, dead, dat 4 (.lit (.bool v3q)), dat 3 (.lit (.int .i64 v4)), dat 3 (.lit (.int .i64 v5)), dead, dead, dead, dead, dead, dead, dead, dead, dead, dead, dead, dead, dead, dead, dead, dead, dead, dead, dead, dead, dead, dead, dead, dead, dead, dead, dead, dead, dead, dead, dead, dead, dead, dead, dead, dead, dead, dead, dead, dead, dead, dead, dead, dead, dead], lookB [(1, some ⟨41, x0, 0, none⟩)]⟩ (blockK 2 (blockK 1 (seqC P (envR B2 [] [] []) t15_h N (sub [1, 1, 0, 1, 0, 0, 1, 1] (bodyOf fn)) (seqK (fun s => evLoop (preL t15_h (sub [1, 1, 0, 1, 0, 0] (bodyOf fn))) (evCode P (envR B2 [] [] []) t15_h N (sub [1, 1, 0, 1, 0, 0] (bodyOf fn))) m0 ((preL t15_h (sub [1, 1, 0, 1, 0, 0] (bodyOf fn))) s) (blockK 0 (seqC P (envR B2 [] [] []) t15_h N (sub [1, 1, 1] (bodyOf fn)) (finK P fn) ))) (blockK 0 (seqC P (envR B2 [] [] []) t15_h N (sub [1, 1, 1] (bodyOf fn)) (finK P fn) ))) )))
theorem t15_lp7_step  (N n : Nat) (x0 : D) (v3 : Bool) (v4 : Int) (m0 : Nat) (v3q : Bool) (v5 : Int) : t15_lp7 Try.prog Try.f15 N (n + 1) x0 v3 v4 m0 v3q v5 =
  bif (decide (0 ≤ v4) && decide (v4 < ((elemsD (fieldD x0 0)).length : Int))) then
    bif ((decide (v5 < ((elemsD ((elemsD (fieldD x0 0)).getD (v4).toNat .nil)).length : Int))) == true) then
      bif v3q then
        bif (decide (0 ≤ v4) && decide (v4 < ((elemsD (fieldD x0 0)).length : Int))) then
          bif (decide (0 ≤ v5) && decide (v5 < ((elemsD ((elemsD (fieldD x0 0)).getD (v4).toNat .nil)).length : Int))) then
            t15_lp7 Try.prog Try.f15 N n x0 v3 v4 m0 (decide (((elemsD ((elemsD ((elemsD (fieldD x0 0)).getD (v4).toNat .nil)).getD (v5).toNat .nil)).length : Int) ≤ 20)) (IntKind.wrap .i64 (v5 + 1))
          else none
        else none
      else t15_lp3 Try.prog Try.f15 N m0 x0 v3q (IntKind.wrap .i64 (v4 + 1))
    else t15_lp3 Try.prog Try.f15 N m0 x0 v3q (IntKind.wrap .i64 (v4 + 1))
  else none := by kernel_rfl
theorem t15_lp3_step  (N n : Nat) (x0 : D) (v3 : Bool) (v4 : Int) : t15_lp3 Try.prog Try.f15 N (n + 1) x0 v3 v4 =
  bif ((decide (v4 < ((elemsD (fieldD x0 0)).length : Int))) == true) then
    bif v3 then
      bif (decide (0 ≤ v4) && decide (v4 < ((elemsD (fieldD x0 0)).length : Int))) then
        t15_lp7 Try.prog Try.f15 N N x0 v3 v4 n (decide (((elemsD ((elemsD (fieldD x0 0)).getD (v4).toNat .nil)).length : Int) ≤ 20)) 0
      else none
    else some (dat 4 (.lit (.bool v3)))
  else some (dat 4 (.lit (.bool v3))) := by kernel_rfl
theorem t15 (N : Nat) (x0 : D) : evFn Try.prog (envR B2 [] [] []) t15_h N Try.f15 [dat 41 x0] =
  t15_lp3 Try.prog Try.f15 N N x0 (decide (((elemsD (fieldD x0 0)).length : Int) ≤ 10)) 0 := by kernel_rfl

/- roadbook/roadbookref04.Same -/
def t22_h : Hints := fun i => if i = 4 then some ([0, 1, 4, 6, 7, 8, 9, 10, 11, 12, 13, 14, 15, 16, 17, 18, 19, 20, 21, 22, 23, 24, 25, 26, 27, 28, 29, 30], [2, 3], []) else none
def t22_lp4 (P : Program) (fn : Func) (N n : Nat) (x0 : D) (x1 : D) (v5 : Int) : Option AV := evLoop (preL t22_h (sub [1, 1, 0, 1, 0, 0] (bodyOf fn))) (evCode P (envR B2 [] [] []) t22_h N (sub [1, 1, 0, 1, 0, 0] (bodyOf fn))) n ⟨[dead, dead, bxp 2 38, bxp 3 38, dead, dat 3 (.lit (.int .i64 v5)), dead, dead, dead, dead, dead, dead, dead, dead, dead, dead, dead, dead, dead, dead, dead, dead, dead, dead, dead, dead, dead, dead, dead, dead, dead], lookB [(2, some ⟨38, x0, 0, none⟩), (3, some ⟨38, x1, 0, none⟩)]⟩ (blockK 0 (seqC P (envR B2 [] [] []) t22_h N (sub [1, 1, 1] (bodyOf fn)) (finK P fn) ))
theorem t22_lp4_step  (N n : Nat) (x0 : D) (x1 : D) (v5 : Int) : t22_lp4 Try.prog Try.f22 N (n + 1) x0 x1 v5 =
  bif decide (v5 < ((elemsD (fieldD x0 0)).length : Int)) then
    bif (decide (0 ≤ v5) && decide (v5 < ((elemsD (fieldD x0 0)).length : Int))) then
      bif (decide (0 ≤ v5) && decide (v5 < ((elemsD (fieldD x1 0)).length : Int))) then
        bif (!(((intD (fieldD ((elemsD (fieldD x0 0)).getD (v5).toNat .nil) 0)) == (intD (fieldD ((elemsD (fieldD x1 0)).getD (v5).toNat .nil) 0))) && (((intD (fieldD ((elemsD (fieldD x0 0)).getD (v5).toNat .nil) 1)) == (intD (fieldD ((elemsD (fieldD x1 0)).getD (v5).toNat .nil) 1))) && true))) then
          some (dat 4 (.lit (.bool false)))
        else t22_lp4 Try.prog Try.f22 N n x0 x1 (IntKind.wrap .i64 (v5 + 1))
      else none
    else none
  else some (dat 4 (.lit (.bool true))) := by kernel_rfl
theorem t22 (N : Nat) (x0 : D) (x1 : D) : evFn Try.prog (envR B2 [] [] []) t22_h N Try.f22 [dat 38 x0, dat 38 x1] =
  bif (((elemsD (fieldD x0 0)).length : Int) != ((elemsD (fieldD x1 0)).length : Int)) then
    some (dat 4 (.lit (.bool false)))
  else t22_lp4 Try.prog Try.f22 N N x0 x1 0 := by kernel_rfl

/- roadbook/roadbookref04.May -/
def t24_h : Hints := fun i => if i = 2 then some ([0, 2, 4, 5, 6, 7, 8, 9, 10, 11, 12, 13, 14, 15, 16, 17, 18, 19, 20, 21, 22, 23, 24, 25, 26, 27, 28, 29, 30, 31, 32, 33, 34, 35, 36, 37, 38, 39, 40, 41, 42, 43, 44, 45, 46, 47, 48, 49, 50, 51, 52, 53, 54], [1], []) else none
def t24_lp2 (P : Program) (fn : Func) (N n : Nat) (x0 : D) (v3 : Int) : Option AV := evLoop (preL t24_h (sub [1, 0, 1, 0, 0] (bodyOf fn))) (evCode P (envR B2 [] [] []) t24_h N (sub [1, 0, 1, 0, 0] (bodyOf fn))) n ⟨[dead, bxp 1 38, dead, dat 3 (.lit (.int .i64 v3)), dead, dead, dead, dead, dead, dead, dead, dead, dead, dead, dead, dead, dead, dead, dead, dead, dead, dead, dead, dead, dead, dead, dead, dead, dead, dead, dead, dead, dead, dead, dead, dead, dead, dead, dead, dead, dead, dead, dead, dead, dead, dead, dead, dead, dead, dead, dead, dead, dead, dead, dead], lookB [(1, some ⟨38, x0, 0, none⟩)]⟩ (blockK 0 (seqC P (envR B2 [] [] []) t24_h N (sub [1, 1] (bodyOf fn)) (finK P fn) ))
theorem t24_lp2_step  (N n : Nat) (x0 : D) (v3 : Int) : t24_lp2 Try.prog Try.f24 N (n + 1) x0 v3 =
  bif decide (v3 < ((elemsD (fieldD x0 0)).length : Int)) then
    bif (decide (0 ≤ v3) && decide (v3 < ((elemsD (fieldD x0 0)).length : Int))) then
      bif ((decide ((intD (fieldD ((elemsD (fieldD x0 0)).getD (v3).toNat .nil) 0)) < 1)) == false) then
        bif (decide (0 ≤ v3) && decide (v3 < ((elemsD (fieldD x0 0)).length : Int))) then
          bif ((decide ((intD (fieldD ((elemsD (fieldD x0 0)).getD (v3).toNat .nil) 0)) > 4)) == false) then
            bif (decide (0 ≤ v3) && decide (v3 < ((elemsD (fieldD x0 0)).length : Int))) then
              bif ((decide ((intD (fieldD ((elemsD (fieldD x0 0)).getD (v3).toNat .nil) 1)) < 1)) == false) then
                bif (decide (0 ≤ v3) && decide (v3 < ((elemsD (fieldD x0 0)).length : Int))) then
                  bif decide ((intD (fieldD ((elemsD (fieldD x0 0)).getD (v3).toNat .nil) 1)) > 1000000) then
                    some (dat 4 (.lit (.bool false)))
                  else t24_lp2 Try.prog Try.f24 N n x0 (IntKind.wrap .i64 (v3 + 1))
                else none
              else some (dat 4 (.lit (.bool false)))
            else none
          else some (dat 4 (.lit (.bool false)))
        else none
      else some (dat 4 (.lit (.bool false)))
    else none
  else bif ((decide (((elemsD (fieldD x0 0)).length : Int) ≥ 1)) == true) then
      some (dat 4 (.lit (.bool (decide (((elemsD (fieldD x0 0)).length : Int) ≤ 4)))))
    else some (dat 4 (.lit (.bool false))) := by kernel_rfl
theorem t24 (N : Nat) (x0 : D) : evFn Try.prog (envR B2 [] [] []) t24_h N Try.f24 [dat 38 x0] =
  t24_lp2 Try.prog Try.f24 N N x0 0 := by kernel_rfl

theorem t67 (x1 x2 : D) : evFn Try.prog (envR B2 [] [] []) (fun _ => none) 2 Try.f67 [dat 98 (.slice [] []), dat 22 x1, dat 32 x2] = some (dat 4 (.lit (.bool true))) := by kernel_rfl
/- slices.Clone[[]roadbook/api.Def,roadbook/api.Def] -/
def t52_n_h : Hints := fun _ =>  none
theorem t52_n (N : Nat)  : evFnM Try.prog (envR B2 [] [] []) t52_n_h N Try.f52 [⟨1, 36, .slice [] [], 0, 2, 0, []⟩] =
  some (dat 36 (.slice [] [])) := by kernel_rfl

def t52_s_h : Hints := fun _ => none
theorem t52_s (N : Nat) (x0 : D) : evFnM Try.prog (envR B2 [] [] []) t52_s_h N Try.f52 [⟨1, 36, x0, 0, 3, 0, []⟩] =
  bif decide (0 + (elemsD x0).length ≤ 2147483648) then
    some (dat 36 (.slice ([] ++ (elemsD x0)) []))
  else none := by kernel_rfl
end Go.Proofs.Ytmopepjahjmdeaa

namespace Go.Proofs.Ytmopepjahjmdeaa
open Go.Ev
set_option linter.unusedVariables false
set_option maxRecDepth 10000
set_option linter.unusedSimpArgs false

theorem nDef (x : D) : normD Try.prog 85 x = x := by kernel_rfl
theorem nDefs (x : D) : normD Try.prog 36 x = x := by kernel_rfl
theorem nCat (x : D) : normD Try.prog 38 x = x := by kernel_rfl
theorem nData (x : D) : normD Try.prog 41 x = x := by kernel_rfl
theorem nExs (x : D) : normD Try.prog 98 x = x := by kernel_rfl
theorem mDef (x : D) : mkRes Try.prog 85 x = dat 85 x := by kernel_rfl
theorem mDefs (x : D) : mkRes Try.prog 36 x = dat 36 x := by kernel_rfl
theorem mTCD (x : D) : mkRes Try.prog 79 x = tupA [38, 41] x := by kernel_rfl
theorem mTCB (x : D) : mkRes Try.prog 44 x = tupA [38, 4] x := by kernel_rfl
theorem mIIB (x : D) : mkRes Try.prog 47 x = tupA [3, 3, 4] x := by kernel_rfl
theorem uDefs : Try.prog.underlying 36 = some (.slice 85) := by kernel_rfl
theorem uTabs : Try.prog.underlying 39 = some (.slice 23) := by kernel_rfl
theorem uDef : ∃ f g : Field, Try.prog.underlying 85 = some (.struct #[f, g]) ∧ f.type = 3 ∧ g.type = 3 := ⟨_, _, Try.underlying85, rfl, rfl⟩
theorem uCat : ∃ f : Field, Try.prog.underlying 38 = some (.struct #[f]) ∧ f.type = 36 := ⟨_, Try.underlying38, rfl⟩
theorem uData : ∃ f : Field, Try.prog.underlying 41 = some (.struct #[f]) ∧ f.type = 39 := ⟨_, Try.underlying41, rfl⟩
theorem uExs : Try.prog.underlying 98 = some (.slice 113) := by kernel_rfl

theorem tyDef {n : Nat} {x : D} (h : Ty Try.prog n 85 x) : ∃ c r, x = defD c r ∧ inR c = true ∧ inR r = true := by
  obtain ⟨f, g, hu, hf, hg⟩ := uDef
  obtain ⟨m, a, b, rfl, h1, h2⟩ := ty_struct2 h hu
  rw [hf] at h1
  rw [hg] at h2
  obtain ⟨c, rfl, hc⟩ := ty3' h1
  obtain ⟨r, rfl, hr⟩ := ty3' h2
  exact ⟨c, r, rfl, hc, hr⟩
theorem tyDefs {n : Nat} {x : D} (h : Ty Try.prog n 36 x) : ∃ ts, x = .slice ts [] ∧ ts.length ≤ maxLen ∧ ∀ t ∈ ts, ∃ c r, t = defD c r ∧ inR c = true ∧ inR r = true := by
  obtain ⟨m, ts, rfl, hl, hp⟩ := ty_slice h uDefs
  exact ⟨ts, rfl, hl, fun t ht => tyDef (hp t ht)⟩
theorem tyCat {n : Nat} {x : D} (h : Ty Try.prog n 38 x) : ∃ ts, x = catD ts ∧ ts.length ≤ maxLen ∧ ∀ t ∈ ts, ∃ c r, t = defD c r ∧ inR c = true ∧ inR r = true := by
  obtain ⟨f, hu, hf⟩ := uCat
  obtain ⟨m, a, rfl, h1⟩ := ty_struct1 h hu
  rw [hf] at h1
  obtain ⟨ts, rfl, hl, hp⟩ := tyDefs h1
  exact ⟨ts, rfl, hl, hp⟩
def OKt (t : D) : Prop := ∃ rs, t = .slice rs [] ∧ rs.length ≤ maxLen ∧ ∀ r ∈ rs, OKr r
theorem tyData {n : Nat} {x : D} (h : Ty Try.prog n 41 x) : ∃ ts, x = catD ts ∧ ts.length ≤ maxLen ∧ ∀ t ∈ ts, OKt t := by
  obtain ⟨f, hu, hf⟩ := uData
  obtain ⟨m, a, rfl, h1⟩ := ty_struct1 h hu
  rw [hf] at h1
  obtain ⟨m, ts, rfl, hl, hp⟩ := ty_slice h1 uTabs
  exact ⟨ts, rfl, hl, fun t ht => tyR (hp t ht)⟩

def e49 : FuncId × TypeId × (List AV → Bool) × (List AV → Option D) := (49, 4, yes, ent [3, 3] (f2 fun x y => some (.lit (.bool (belowB (intD x) (intD y))))))
theorem k49 : FnOK Try.prog 49 Try.f49 := ⟨Try.func49, rfl, by kernel_rfl⟩
theorem c49 : ∀ args d, e49.2.2.2 args = some d → CallOK Try.prog 49 args (mkRes Try.prog 4 d) :=
  ent2 k49 fun x y d h _ _ => by
    cases h
    rw [n3, n3]
    refine fn_ok hm envB2 k49 ((t49 1 (intD x) (intD y)).trans ?_)
    rw [m4, ge_not]
    show _ = some (dat 4 (.lit (.bool (belowB (intD x) (intD y)))))
    unfold belowB
    cases decide (0 ≤ intD x) <;> rfl

def e53 : FuncId × TypeId × (List AV → Bool) × (List AV → Option D) := (53, 85, yes, ent [85] (f1 fun x => some (orZeroD x)))
theorem k53 : FnOK Try.prog 53 Try.f53 := ⟨Try.func53, rfl, by kernel_rfl⟩
theorem c53 : ∀ args d, e53.2.2.2 args = some d → CallOK Try.prog 53 args (mkRes Try.prog 85 d) :=
  ent1 k53 fun x d h _ => by
    cases h
    rw [nDef]
    refine fn_ok hm envB2 k53 ((t53 1 x).trans ?_)
    rw [mDef, mayDef_tree]
    unfold orZeroD
    cases mayDef x <;> rfl

def e48 : FuncId × TypeId × (List AV → Bool) × (List AV → Option D) := (48, 79, yes, ent [] (f0 (some (.agg [catTwo, dataTwo]))))
theorem k48 : FnOK Try.prog 48 Try.f48 := ⟨Try.func48, rfl, by kernel_rfl⟩
theorem c48 : ∀ args d, e48.2.2.2 args = some d → CallOK Try.prog 48 args (mkRes Try.prog 79 d) :=
  ent0 fun d h => by
    cases h
    refine fn_ok hm envB2 k48 ((t48 1).trans ?_)
    rw [mTCD]
    rfl

def e28 : FuncId × TypeId × (List AV → Bool) × (List AV → Option D) := (28, 3, yes, ent [3, 3] (f2 fun x y => some (.lit (.int .i64 (colN (intD x) (intD y))))))
theorem k28 : FnOK Try.prog 28 Try.f28 := ⟨Try.func28, rfl, by kernel_rfl⟩
theorem c28 : ∀ args d, e28.2.2.2 args = some d → CallOK Try.prog 28 args (mkRes Try.prog 3 d) :=
  ent2 k28 fun x y d h _ _ => by
    cases h
    rw [n3, n3]
    refine fn_ok hm envB2 k28 ((t28 1 (intD x) (intD y)).trans ?_)
    rw [m3]
    show _ = some (dat 3 (.lit (.int .i64 (colN (intD x) (intD y)))))
    generalize intD x = a
    generalize intD y = b
    by_cases h1 : a < 0
    · rw [dT h1, colN_out (by omega)]; rfl
    · by_cases h2 : a > 3
      · rw [dF h1, dT h2, colN_out (by omega)]; rfl
      · by_cases h3 : b < 0
        · rw [dF h1, dF h2, dT h3, colN_out (by omega)]; rfl
        · by_cases h4 : b > 3
          · rw [dF h1, dF h2, dF h3, dT h4, colN_out (by omega)]; rfl
          · rw [dF h1, dF h2, dF h3, dF h4, colN_in (by omega) (by omega), l_wrapI (z := 4 * a) (l_in (by omega) (by omega)), l_wrapI (l_in (by omega) (by omega)), Int.mul_comm]; rfl

theorem wrap_div {z : Int} (h : 0 ≤ z ∧ z < 16) : IntKind.wrap .i64 (Int.tdiv z 4) = z / 4 := by
  rw [Int.tdiv_eq_ediv_of_nonneg h.1, l_wrapI (l_in (by omega) (by omega))]
def e21 : FuncId × TypeId × (List AV → Bool) × (List AV → Option D) := (21, 47, yes, ent [3] (f1 fun x => some (.agg [.lit (.int .i64 (splitA (intD x))), .lit (.int .i64 (splitB (intD x))), .lit (.bool (belowB (intD x) 16))])))
theorem k21 : FnOK Try.prog 21 Try.f21 := ⟨Try.func21, rfl, by kernel_rfl⟩
theorem c21 : ∀ args d, e21.2.2.2 args = some d → CallOK Try.prog 21 args (mkRes Try.prog 47 d) :=
  ent1 k21 fun x d h _ => by
    cases h
    rw [n3]
    refine fn_ok hm envB2 k21 ((t21 1 (intD x)).trans ?_)
    rw [mIIB]
    generalize intD x = z
    by_cases h1 : z < 0
    · obtain ⟨a, b⟩ := split_out (z := z) (by omega)
      rw [dT h1, a, b, below_not.2 (by omega)]; rfl
    · by_cases h2 : z > 15
      · obtain ⟨a, b⟩ := split_out (z := z) (by omega)
        rw [dF h1, dT h2, a, b, below_not.2 (by omega)]; rfl
      · obtain ⟨a, b⟩ := split_in (z := z) (by omega)
        rw [dF h1, dF h2, a, b, below_iff.2 (by omega), wrap_div (by omega), Int.tmod_eq_emod_of_nonneg (by omega)]; rfl

/-! ### few -/
theorem few_in {N m0 i : Nat} {ts : List D} {v3 : Bool} {t : D} (ht : ts.getD i .nil = t) (hi : i < ts.length) (hl : (elemsD t).length ≤ maxLen) : ∀ (n j : Nat) (b : Bool), j ≤ (elemsD t).length → (elemsD t).length - j < n →
    t15_lp7 Try.prog Try.f15 N n (catD ts) v3 (i : Int) m0 b (j : Int) = t15_lp3 Try.prog Try.f15 N m0 (catD ts) (b && ((elemsD t).drop j).all fewRow) (IntKind.wrap .i64 ((i : Int) + 1))
  | 0, j, b, _, h => by omega
  | n + 1, j, b, hj, h => by
    rw [t15_lp7_step, tabs_cat, l_idx hi, cond_true, Int.toNat_natCast, ht]
    by_cases hlt : j < (elemsD t).length
    · have w1 : IntKind.wrap .i64 ((j : Int) + 1) = ((j + 1 : Nat) : Int) := l_wrap hl hlt
      rw [l_idx hlt, l_lt hlt, Int.toNat_natCast, l_get hlt, w1, List.drop_eq_getElem_cons hlt, List.all_cons]
      cases b with
      | false => rfl
      | true =>
        rw [beq_self_eq_true, cond_true, cond_true, cond_true, few_in ht hi hl n (j + 1) _ (by omega) (by omega), Bool.true_and]
        rfl
    · rw [l_ge hlt, List.drop_of_length_le (by omega), List.all_nil, Bool.and_true]
      rfl
theorem few_out {N : Nat} {ts : List D} (hN : ∀ t ∈ ts, (elemsD t).length < N) (hT : ∀ t ∈ ts, (elemsD t).length ≤ maxLen) (hl : ts.length ≤ maxLen) : ∀ (n i : Nat) (b : Bool), i ≤ ts.length → ts.length - i < n →
    t15_lp3 Try.prog Try.f15 N n (catD ts) b (i : Int) = some (dat 4 (.lit (.bool (b && (ts.drop i).all fewRows))))
  | 0, i, b, _, h => by omega
  | n + 1, i, b, hi, h => by
    rw [t15_lp3_step, tabs_cat]
    by_cases hlt : i < ts.length
    · have hm : ts[i] ∈ ts := List.getElem_mem hlt
      have w1 : IntKind.wrap .i64 ((i : Int) + 1) = ((i + 1 : Nat) : Int) := l_wrap hl hlt
      rw [l_idx hlt, l_lt hlt, Int.toNat_natCast, l_get hlt, List.drop_eq_getElem_cons hlt, List.all_cons]
      cases b with
      | false => rfl
      | true =>
        rw [beq_self_eq_true, cond_true, cond_true, cond_true]
        refine (few_in (t := ts[i]) (l_get hlt) hlt (hT _ hm) N 0 _ (Nat.zero_le _) (by have := hN _ hm; omega)).trans ?_
        rw [w1, few_out hN hT hl n (i + 1) _ (by omega) (by omega), Bool.true_and, List.drop_zero]
        rfl
    · rw [l_ge hlt, List.drop_of_length_le (by omega), List.all_nil, Bool.and_true]
      rfl
def e15 : FuncId × TypeId × (List AV → Bool) × (List AV → Option D) := (15, 4, yes, ent [41] (f1 fun x => some (.lit (.bool (fewData x)))))
theorem k15 : FnOK Try.prog 15 Try.f15 := ⟨Try.func15, rfl, by kernel_rfl⟩
theorem c15 : ∀ args d, e15.2.2.2 args = some d → CallOK Try.prog 15 args (mkRes Try.prog 4 d) :=
  ent1 k15 fun x d h ⟨_, hx⟩ => by
    cases h
    rw [nData]
    obtain ⟨ts, rfl, hl, hp⟩ := tyData hx
    refine fn_ok hm envB2 k15 ((t15 (fuelB ts) (catD ts)).trans ?_)
    rw [m4]
    exact few_out (fun t ht => fuel_row ht) (fun t ht => by obtain ⟨rs, rfl, h1, _⟩ := hp t ht; exact h1) hl (fuelB ts) 0 _ (Nat.zero_le _) (by unfold fuelB; omega)

/-! ### Same, May -/
def e22 : FuncId × TypeId × (List AV → Bool) × (List AV → Option D) := (22, 4, yes, ent [38, 38] (f2 fun x y => some (.lit (.bool (sameCat x y)))))
theorem k22 : FnOK Try.prog 22 Try.f22 := ⟨Try.func22, rfl, by kernel_rfl⟩
theorem c22 : ∀ args d, e22.2.2.2 args = some d → CallOK Try.prog 22 args (mkRes Try.prog 4 d) :=
  ent2 k22 fun x y d h ⟨_, hx⟩ ⟨_, hy⟩ => by
    cases h
    rw [nCat, nCat]
    obtain ⟨ts, rfl, hl, _⟩ := tyCat hx
    obtain ⟨us, rfl, _, _⟩ := tyCat hy
    refine fn_ok hm envB2 k22 ((t22 (ts.length + 1) (catD ts) (catD us)).trans ?_)
    rw [m4, tabs_cat, tabs_cat]
    show _ = some (dat 4 (.lit (.bool (ts.map pairI == us.map pairI))))
    by_cases hle : ts.length = us.length
    · have := l_loop (fun n v => t22_lp4 Try.prog Try.f22 (ts.length + 1) n (catD ts) (catD us) v) ts.length (fun i => !(pairI (ts.getD i .nil) == pairI (us.getD i .nil))) (some (dat 4 (.lit (.bool false)))) (some (dat 4 (.lit (.bool true))))
        (fun n i hi => by
          rw [t22_lp4_step, tabs_cat, tabs_cat, l_idx hi, l_lt hi, l_idx (by omega : i < us.length), cond_true, cond_true, cond_true, l_wrap hl hi, Int.toNat_natCast, pair_beq])
        (fun n => by rw [t22_lp4_step, tabs_cat, l_ge (by omega), cond_false]) (ts.length + 1) 0 (Nat.zero_le _) (by omega)
      have this : t22_lp4 Try.prog Try.f22 (ts.length + 1) (ts.length + 1) (catD ts) (catD us) 0 = _ := this
      have h5 := l_any2 pairI ts us hle
      rw [l_nef hle, this, ← h5, Nat.sub_zero]
      cases (List.range' 0 ts.length).any _ <;> rfl
    · have : (ts.map pairI == us.map pairI) = false := by
        rw [beq_eq_false_iff_ne]
        intro hh
        exact hle (by simpa using congrArg List.length hh)
      rw [l_net hle, this]
      rfl

theorem any_may (ts : List D) : ts.any (fun t => !mayDef t) = !ts.all mayDef := by
  rw [List.all_eq_not_any_not, Bool.not_not]
def e24 : FuncId × TypeId × (List AV → Bool) × (List AV → Option D) := (24, 4, yes, ent [38] (f1 fun x => some (.lit (.bool (mayCat x)))))
theorem k24 : FnOK Try.prog 24 Try.f24 := ⟨Try.func24, rfl, by kernel_rfl⟩
theorem c24 : ∀ args d, e24.2.2.2 args = some d → CallOK Try.prog 24 args (mkRes Try.prog 4 d) :=
  ent1 k24 fun x d h ⟨_, hx⟩ => by
    cases h
    rw [nCat]
    obtain ⟨ts, rfl, hl, _⟩ := tyCat hx
    refine fn_ok hm envB2 k24 ((t24 (ts.length + 1) (catD ts)).trans ?_)
    rw [m4]
    have := l_loop (fun n v => t24_lp2 Try.prog Try.f24 (ts.length + 1) n (catD ts) v) ts.length (fun i => !mayDef (ts.getD i .nil)) (some (dat 4 (.lit (.bool false))))
      (some (dat 4 (.lit (.bool (decide (1 ≤ ts.length) && decide (ts.length ≤ 4))))))
      (fun n i hi => by
        rw [t24_lp2_step, tabs_cat, l_idx hi, l_lt hi, Int.toNat_natCast]
        simp only [cond_true]
        rw [mayDef_tree, l_wrap hl hi])
      (fun n => by
        rw [t24_lp2_step, tabs_cat, l_ge (by omega), cond_false]
        by_cases h1 : 1 ≤ ts.length
        · rw [dT (show ((ts.length : Int)) ≥ 1 by omega), dT h1]
          by_cases h4 : ts.length ≤ 4
          · rw [dT (show ((ts.length : Int)) ≤ 4 by omega), dT h4]; rfl
          · rw [dF (show ¬ ((ts.length : Int)) ≤ 4 by omega), dF h4]; rfl
        · rw [dF (show ¬ ((ts.length : Int)) ≥ 1 by omega), dF h1]; rfl) (ts.length + 1) 0 (Nat.zero_le _) (by omega)
    refine this.trans ?_
    rw [Nat.sub_zero, l_any0 ts (fun t => !mayDef t), any_may]
    show _ = some (dat 4 (.lit (.bool ((decide (1 ≤ ts.length) && decide (ts.length ≤ 4)) && ts.all mayDef))))
    cases (decide (1 ≤ ts.length) && decide (ts.length ≤ 4)) <;> cases ts.all mayDef <;> rfl

def e67 : FuncId × TypeId × (List AV → Bool) × (List AV → Option D) := (67, 4, preD (q3 fun x _ _ => emptyL (elemsD x)), ent [98, 22, 32] (f3 fun _ _ _ => some (.lit (.bool true))))
theorem k67 : FnOK Try.prog 67 Try.f67 := ⟨Try.func67, rfl, by kernel_rfl⟩
theorem c67 : ∀ args d, e67.2.2.1 args = true → e67.2.2.2 args = some d → CallOK Try.prog 67 args (mkRes Try.prog 4 d) :=
  ent3p k67 fun x y z d hq h ⟨_, hx⟩ _ _ => by
    cases h
    rw [nExs, nI, n28]
    obtain ⟨m, es, rfl, _, _⟩ := ty_slice hx uExs
    have hes : es = [] := emptyL_eq hq
    subst hes
    refine fn_ok hm envB2 k67 ((t67 y z).trans ?_)
    rw [m4]
    rfl

theorem c52' {n : Nat} {x : D} (hx : Ty Try.prog n 36 x) (hl : (elemsD x).length ≤ 2147483648) : CallOK Try.prog 52 [dat 36 x] (dat 36 x) := by
  obtain ⟨es, rfl, _, _⟩ := tyDefs hx
  refine evFnM_sound hm envB2 uDefs (fn := Try.f52) Try.func52 (by kernel_rfl) (.inl rfl) (hh := t52_n_h) (fuel := 1) (fun he => ?_) ?_
  · rw [he]; exact t52_n 1
  · have h := t52_s 1 (.slice es [])
    have c1 : decide ((0 : Nat) + (elemsD (.slice es [] : D)).length ≤ 2147483648) = true := by simpa using hl
    exact (show evFnM _ _ _ _ _ _ = evFnM _ _ _ _ _ _ from rfl).trans (h.trans (by first | (rw [c1]; rfl) | (simp only [c1]; rfl)))
def e52 : FuncId × TypeId × (List AV → Bool) × (List AV → Option D) := (52, 36, preD (q1 fun x => decide ((elemsD x).length ≤ 2147483648)), ent [36] (f1 fun x => some x))
theorem k52 : FnOK Try.prog 52 Try.f52 := ⟨Try.func52, rfl, by kernel_rfl⟩
theorem c52 : ∀ args d, e52.2.2.1 args = true → e52.2.2.2 args = some d → CallOK Try.prog 52 args (mkRes Try.prog 36 d) :=
  ent1p k52 fun x d hq h ⟨_, hx⟩ => by
    cases h
    rw [nDefs, mDefs]
    exact c52' hx (by simpa using hq)

def D1 : Tab := e49 :: e53 :: e48 :: e28 :: e21 :: e15 :: e22 :: e24 :: e67 :: e52 :: B2
theorem envD1 : EnvOK Try.prog (envR D1 [] [] []) :=
  envOK_cons (envOK_cons (envOK_cons (envOK_cons (envOK_cons (envOK_cons (envOK_cons (envOK_cons (envOK_cons' (envOK_cons' envB2 c52) c67) c24) c22) c15) c21) c28) c48) c53) c49

end Go.Proofs.Ytmopepjahjmdeaa

namespace Go.Proofs.Ytmopepjahjmdeaa
open Go.Ev
set_option linter.unusedVariables false
/- roadbook/data.Col -/
def t27_h : Hints := fun _ =>  none
theorem t27 (N : Nat) (x0 : Int) (x1 : Int) : evFn Try.prog (envR D1 [] [] []) t27_h N Try.f27 [dat 3 (.lit (.int .i64 x0)), dat 3 (.lit (.int .i64 x1))] =
  bif ((!(belowB x0 4)) == false) then
    bif (!(belowB x1 4)) then
      some (dat 3 (.lit (.int .i64 (-1))))
    else some (dat 3 (.lit (.int .i64 (IntKind.wrap .i64 ((IntKind.wrap .i64 (x0 * 4)) + x1)))))
  else some (dat 3 (.lit (.int .i64 (-1)))) := by kernel_rfl

/- roadbook/data.Split -/
def t20_h : Hints := fun _ =>  none
theorem t20 (N : Nat) (x0 : Int) : evFn Try.prog (envR D1 [] [] []) t20_h N Try.f20 [dat 3 (.lit (.int .i64 x0))] =
  bif (!(belowB x0 16)) then
    some (tupA [3, 3, 4] (.agg [.lit (.int .i64 0), .lit (.int .i64 0), .lit (.bool false)]))
  else some (tupA [3, 3, 4] (.agg [.lit (.int .i64 (IntKind.wrap .i64 (Int.tdiv x0 4))), .lit (.int .i64 (Int.tmod x0 4)), .lit (.bool true)])) := by kernel_rfl

/- roadbook/data.May -/
def t23_h : Hints := fun i => if i = 4 then some ([0, 1, 2, 3, 4, 5, 6, 7, 8, 9, 10, 11, 12, 13, 14, 15, 19, 20, 21, 22, 23, 24, 25, 26], [], []) else none
def t23_lp4 (P : Program) (fn : Func) (N n : Nat) (x0 : D) (v18 : Int) : Option AV := evLoop (preL t23_h (sub [1, 1, 0, 1, 0, 0] (bodyOf fn))) (evCode P (envR D1 [] [] []) t23_h N (sub [1, 1, 0, 1, 0, 0] (bodyOf fn))) n ⟨[dead, dead, dead, dead, dead, dead, dead, dead, dead, dead, dead, dead, dead, dead, dead, dead, dat 36 (fieldD x0 0), dat 3 (.lit (.int .i64 ((elemsD (fieldD x0 0)).length : Int))), dat 3 (.lit (.int .i64 v18)), dead, dead, dead, dead, dead, dead, dead, dead], lookB []⟩ (blockK 0 (seqC P (envR D1 [] [] []) t23_h N (sub [1, 1, 1] (bodyOf fn)) (finK P fn) ))
theorem t23_lp4_step  (N n : Nat) (x0 : D) (v18 : Int) : t23_lp4 Try.prog Try.f23 N (n + 1) x0 v18 =
  bif decide (v18 < ((elemsD (fieldD x0 0)).length : Int)) then
    bif (decide (0 ≤ v18) && decide (v18 < ((elemsD (fieldD x0 0)).length : Int))) then
      bif (((intD (fieldD (orZeroD ((elemsD (fieldD x0 0)).getD (v18).toNat .nil)) 0)) == 0) && (((intD (fieldD (orZeroD ((elemsD (fieldD x0 0)).getD (v18).toNat .nil)) 1)) == 0) && true)) then
        some (dat 4 (.lit (.bool false)))
      else t23_lp4 Try.prog Try.f23 N n x0 (IntKind.wrap .i64 (v18 + 1))
    else none
  else some (dat 4 (.lit (.bool true))) := by kernel_rfl
theorem t23 (N : Nat) (x0 : D) : evFn Try.prog (envR D1 [] [] []) t23_h N Try.f23 [dat 38 x0] =
  bif ((decide (((elemsD (fieldD x0 0)).length : Int) < 1)) == false) then
    bif decide (((elemsD (fieldD x0 0)).length : Int) > 4) then
      some (dat 4 (.lit (.bool false)))
    else t23_lp4 Try.prog Try.f23 N N x0 0
  else some (dat 4 (.lit (.bool false))) := by kernel_rfl

/- roadbook/bag.Keep -/
def t50_h : Hints := fun i => if i = 3 then some ([0, 3, 6, 7, 8, 12, 13, 14, 15, 16, 17, 18, 19, 20, 21, 22, 23, 24, 25, 26, 27, 28, 29, 30], [2, 4, 5, 24, 900000], []) else none
def t50_lp3 (P : Program) (fn : Func) (N n : Nat) (x0 : D) (v11 : Int) (b5 : List D) : Option AV := evLoop (preL t50_h (sub [1, 1, 0, 1, 0, 0] (bodyOf fn))) (evCode P (envR D1 [] [] []) t50_h N (sub [1, 1, 0, 1, 0, 0] (bodyOf fn))) n ⟨[dead, dat 98 (.slice [] []), bxp 2 25, dead, bxp 4 25, bxp 5 23, dead, dead, dead, dat 23 (fieldD x0 1), dat 3 (.lit (.int .i64 ((elemsD (fieldD x0 1)).length : Int))), dat 3 (.lit (.int .i64 v11)), dead, dead, dead, dead, dead, dead, dead, dead, dead, dead, dead, dead, dead, dead, dead, dead, dead, dead, dead], lookB [(2, some ⟨25, x0, 0, none⟩), (4, some ⟨25, .agg [.slice [] [], .slice [] []], 0, none⟩), (5, some ⟨23, .slice b5 [], 1, none⟩), (24, none), (900000, none)]⟩ (blockK 0 (seqC P (envR D1 [] [] []) t50_h N (sub [1, 1, 1] (bodyOf fn)) (finK P fn) ))
theorem t50_lp3_step  (N n : Nat) (x0 : D) (v11 : Int) (b5 : List D) : t50_lp3 Try.prog Try.f50 N (n + 1) x0 v11 b5 =
  bif decide (v11 < ((elemsD (fieldD x0 1)).length : Int)) then
    bif (decide (0 ≤ v11) && decide (v11 < ((elemsD (fieldD x0 1)).length : Int))) then
      bif emptyL [] then
        bif decide ((elemsD ((elemsD (fieldD x0 1)).getD (v11).toNat .nil)).length ≤ 2147483648) then
          bif decide ((b5).length + 1 ≤ 2147483648) then
            t50_lp3 Try.prog Try.f50 N n x0 (IntKind.wrap .i64 (v11 + 1)) (b5 ++ [(elemsD (fieldD x0 1)).getD (v11).toNat .nil])
          else none
        else none
      else none
    else none
  else bif decide ((elemsD (fieldD x0 0)).length ≤ 2147483648) then
      some (dat 25 (.agg [fieldD x0 0, .slice b5 []]))
    else none := by kernel_rfl
theorem t50 (N : Nat) (x0 : D) : evFn Try.prog (envR D1 [] [] []) t50_h N Try.f50 [dat 25 x0, dat 98 (.slice [] [])] =
  t50_lp3 Try.prog Try.f50 N N x0 0 [] := by kernel_rfl

/- roadbook/roadbookref04.New -/
def t19_h : Hints := fun _ =>  none
theorem t19 (N : Nat) (x0 : D) : evFn Try.prog (envR D1 [] [] []) t19_h N Try.f19 [dat 36 x0] =
  bif (!(mayCat (.agg [x0]))) then
    some (tupA [38, 4] (.agg [.agg [.slice [] []], .lit (.bool false)]))
  else some (tupA [38, 4] (.agg [.agg [x0], .lit (.bool true)])) := by kernel_rfl

end Go.Proofs.Ytmopepjahjmdeaa

namespace Go.Proofs.Ytmopepjahjmdeaa
open Go.Ev
set_option linter.unusedVariables false
set_option maxRecDepth 10000
set_option linter.unusedSimpArgs false

def e27 : FuncId × TypeId × (List AV → Bool) × (List AV → Option D) := (27, 3, yes, ent [3, 3] (f2 fun x y => some (.lit (.int .i64 (colN (intD x) (intD y))))))
theorem k27 : FnOK Try.prog 27 Try.f27 := ⟨Try.func27, rfl, by kernel_rfl⟩
theorem c27 : ∀ args d, e27.2.2.2 args = some d → CallOK Try.prog 27 args (mkRes Try.prog 3 d) :=
  ent2 k27 fun x y d h _ _ => by
    cases h
    rw [n3, n3]
    refine fn_ok hm envD1 k27 ((t27 1 (intD x) (intD y)).trans ?_)
    rw [m3]
    show _ = some (dat 3 (.lit (.int .i64 (colN (intD x) (intD y)))))
    generalize intD x = a
    generalize intD y = b
    cases h1 : belowB a 4 with
    | false => rw [colN_out (by have := below_not.1 h1; omega)]; rfl
    | true =>
      cases h2 : belowB b 4 with
      | false => rw [colN_out (by have := below_not.1 h2; omega)]; rfl
      | true =>
        have a1 := below_iff.1 h1
        have a2 := below_iff.1 h2
        rw [colN_in a1 a2, l_wrapI (z := a * 4) (l_in (by omega) (by omega)), l_wrapI (l_in (by omega) (by omega))]; rfl

def e20 : FuncId × TypeId × (List AV → Bool) × (List AV → Option D) := (20, 47, yes, ent [3] (f1 fun x => some (.agg [.lit (.int .i64 (splitA (intD x))), .lit (.int .i64 (splitB (intD x))), .lit (.bool (belowB (intD x) 16))])))
theorem k20 : FnOK Try.prog 20 Try.f20 := ⟨Try.func20, rfl, by kernel_rfl⟩
theorem c20 : ∀ args d, e20.2.2.2 args = some d → CallOK Try.prog 20 args (mkRes Try.prog 47 d) :=
  ent1 k20 fun x d h _ => by
    cases h
    rw [n3]
    refine fn_ok hm envD1 k20 ((t20 1 (intD x)).trans ?_)
    rw [mIIB]
    generalize intD x = z
    cases h1 : belowB z 16 with
    | false =>
      obtain ⟨a, b⟩ := split_out (z := z) (below_not.1 h1)
      rw [a, b]; rfl
    | true =>
      have h2 := below_iff.1 h1
      obtain ⟨a, b⟩ := split_in h2
      rw [a, b, wrap_div h2, Int.tmod_eq_emod_of_nonneg h2.1]; rfl

def e23 : FuncId × TypeId × (List AV → Bool) × (List AV → Option D) := (23, 4, yes, ent [38] (f1 fun x => some (.lit (.bool (mayCat x)))))
theorem k23 : FnOK Try.prog 23 Try.f23 := ⟨Try.func23, rfl, by kernel_rfl⟩
theorem c23 : ∀ args d, e23.2.2.2 args = some d → CallOK Try.prog 23 args (mkRes Try.prog 4 d) :=
  ent1 k23 fun x d h ⟨_, hx⟩ => by
    cases h
    rw [nCat]
    obtain ⟨ts, rfl, hl, _⟩ := tyCat hx
    refine fn_ok hm envD1 k23 ((t23 (ts.length + 1) (catD ts)).trans ?_)
    rw [m4, tabs_cat]
    have := l_loop (fun n v => t23_lp4 Try.prog Try.f23 (ts.length + 1) n (catD ts) v) ts.length (fun i => !mayDef (ts.getD i .nil)) (some (dat 4 (.lit (.bool false)))) (some (dat 4 (.lit (.bool true))))
      (fun n i hi => by
        rw [t23_lp4_step, tabs_cat, l_idx hi, l_lt hi, Int.toNat_natCast, orZero_zero, l_wrap hl hi, cond_true, cond_true])
      (fun n => by rw [t23_lp4_step, tabs_cat, l_ge (by omega), cond_false]) (ts.length + 1) 0 (Nat.zero_le _) (by omega)
    have this : t23_lp4 Try.prog Try.f23 (ts.length + 1) (ts.length + 1) (catD ts) 0 = _ := this
    rw [this, Nat.sub_zero, l_any0 ts (fun t => !mayDef t), any_may]
    show _ = some (dat 4 (.lit (.bool ((decide (1 ≤ ts.length) && decide (ts.length ≤ 4)) && ts.all mayDef))))
    by_cases h1 : 1 ≤ ts.length
    · by_cases h4 : ts.length ≤ 4
      · rw [dF (show ¬ ((ts.length : Int)) < 1 by omega), dF (show ¬ ((ts.length : Int)) > 4 by omega), dT h1, dT h4]
        cases ts.all mayDef <;> rfl
      · rw [dF (show ¬ ((ts.length : Int)) < 1 by omega), dT (show ((ts.length : Int)) > 4 by omega), dT h1, dF h4]
        rfl
    · rw [dT (show ((ts.length : Int)) < 1 by omega), dF h1]
      rfl

theorem keep0_loop {N : Nat} {cs rs : List D} (hc : cs.length ≤ 2147483648) (hb : rs.length ≤ 2147483648) (hr : ∀ r ∈ rs, (elemsD r).length ≤ 2147483648) : ∀ (n i : Nat) (acc : List D), i ≤ rs.length → rs.length - i < n → acc.length ≤ i →
    t50_lp3 Try.prog Try.f50 N n (bagD cs rs) (i : Int) acc = some (dat 25 (bagD cs (acc ++ rs.drop i)))
  | 0, i, acc, _, h, _ => by omega
  | n + 1, i, acc, hi, h, ha => by
    rw [t50_lp3_step, bagR, bagC]
    by_cases hlt : i < rs.length
    · have w1 : IntKind.wrap .i64 ((i : Int) + 1) = ((i + 1 : Nat) : Int) := by rw [l_wrapI (l_in (by omega) (by omega))]; omega
      rw [l_idx hlt, l_lt hlt, Int.toNat_natCast, l_get hlt, w1, dT (hr _ (List.getElem_mem hlt)), dT (show acc.length + 1 ≤ 2147483648 by omega), show emptyL [] = true from rfl]
      simp only [cond_true]
      rw [keep0_loop hc hb hr n (i + 1) (acc ++ [rs[i]]) (by omega) (by omega) (by simp; omega), List.drop_eq_getElem_cons hlt, List.append_assoc]
      rfl
    · rw [l_ge hlt, cond_false, dT hc, cond_true, List.drop_of_length_le (by omega), List.append_nil]
      rfl
def e50 : FuncId × TypeId × (List AV → Bool) × (List AV → Option D) := (50, 25, preD (q2 fun x y => emptyL (elemsD y) && sortOK x), ent [25, 98] (f2 fun x _ => some (keepAll x)))
theorem k50 : FnOK Try.prog 50 Try.f50 := ⟨Try.func50, rfl, by kernel_rfl⟩
theorem c50 : ∀ args d, e50.2.2.1 args = true → e50.2.2.2 args = some d → CallOK Try.prog 50 args (mkRes Try.prog 25 d) :=
  ent2p k50 fun x y d hq h ⟨_, hx⟩ ⟨_, hy⟩ => by
    cases h
    rw [nB, nExs]
    obtain ⟨cs, rs, rfl, h1, h2, h3, h4⟩ := tyB hx
    obtain ⟨m, es, rfl, _, _⟩ := ty_slice hy uExs
    rw [Bool.and_eq_true] at hq
    have hes : es = [] := emptyL_eq hq.1
    subst hes
    have hq := hq.2
    simp only [sortOK, Bool.and_eq_true, decide_eq_true_eq, List.all_eq_true] at hq
    obtain ⟨⟨g1, g2⟩, g3⟩ := hq
    refine fn_ok hm envD1 k50 ((t50 (rs.length + 1) (bagD cs rs)).trans ?_)
    rw [mB]
    exact keep0_loop (N := rs.length + 1) (cs := cs) (rs := rs) g2 g1 g3 (rs.length + 1) 0 [] (Nat.zero_le _) (by omega) (by simp)

def e19 : FuncId × TypeId × (List AV → Bool) × (List AV → Option D) := (19, 44, yes, ent [36] (f1 fun x => some (.agg [newCat (elemsD x), .lit (.bool (mayCat (catD (elemsD x))))])))
theorem k19 : FnOK Try.prog 19 Try.f19 := ⟨Try.func19, rfl, by kernel_rfl⟩
theorem c19 : ∀ args d, e19.2.2.2 args = some d → CallOK Try.prog 19 args (mkRes Try.prog 44 d) :=
  ent1 k19 fun x d h ⟨_, hx⟩ => by
    cases h
    rw [nDefs]
    obtain ⟨ts, rfl, hl, _⟩ := tyDefs hx
    refine fn_ok hm envD1 k19 ((t19 1 (.slice ts [])).trans ?_)
    rw [mTCB, show mayCat (.agg [.slice ts []]) = mayCat (catD ts) from rfl]
    unfold newCat
    show _ = some (tupA [38, 4] (.agg [bif mayCat (catD ts) then catD ts else catD [], .lit (.bool (mayCat (catD ts)))]))
    cases mayCat (catD ts) <;> rfl

def D2 : Tab := e27 :: e20 :: e23 :: e50 :: e19 :: D1
theorem envD2 : EnvOK Try.prog (envR D2 [] [] []) := envOK_cons (envOK_cons (envOK_cons (envOK_cons' (envOK_cons envD1 c19) c50) c23) c20) c27

end Go.Proofs.Ytmopepjahjmdeaa

namespace Go.Proofs.Ytmopepjahjmdeaa
open Go.Ev
set_option linter.unusedVariables false
/- roadbook/data.seen -/
def t51_h : Hints := fun i => if i = 3 then some ([0, 3, 4, 5, 8, 9, 10, 11, 12, 15, 16, 17, 18, 19, 20, 21, 22, 23, 24, 25, 26], [6, 11], []) else none
def t51_lp3 (P : Program) (fn : Func) (N n : Nat) (x0 : D) (x1 : D) (x2 : Int) (v14 : Int) (b11 : List D) : Option AV := evLoop (preL t51_h (sub [1, 1, 0, 1, 0, 0] (bodyOf fn))) (evCode P (envR D2 [] [] []) t51_h N (sub [1, 1, 0, 1, 0, 0] (bodyOf fn))) n ⟨[dead, dat 23 x1, dat 3 (.lit (.int .i64 x2)), dead, dead, dead, bxp 6 25, bxp 11 22, dead, dead, dead, dead, dead, dat 3 (.lit (.int .i64 ((List.replicate (intD (fieldD x0 0)).toNat ((.lit (.int .i64 0)) : D)).length : Int))), dat 3 (.lit (.int .i64 v14)), dead, dead, dead, dead, dead, dead, dead, dead, dead, dead, dead, dead], lookB [(6, some ⟨25, .agg [.slice [] [], .slice [] []], 0, none⟩), (11, some ⟨22, .slice b11 [], 2, none⟩)]⟩ (blockK 0 (seqC P (envR D2 [] [] []) t51_h N (sub [1, 1, 1] (bodyOf fn)) (finK P fn) ))
theorem t51_lp3_step  (N n : Nat) (x0 : D) (x1 : D) (x2 : Int) (v14 : Int) (b11 : List D) : t51_lp3 Try.prog Try.f51 N (n + 1) x0 x1 x2 v14 b11 =
  bif decide (v14 < ((List.replicate (intD (fieldD x0 0)).toNat ((.lit (.int .i64 0)) : D)).length : Int)) then
    bif (decide (0 ≤ v14) && decide (v14 < (b11.length : Int))) then
      t51_lp3 Try.prog Try.f51 N n x0 x1 x2 (IntKind.wrap .i64 (v14 + 1)) (b11.set (v14).toNat (.lit (.int .i64 (colN x2 v14))))
    else none
  else some (dat 25 (.agg [.slice b11 [], x1])) := by kernel_rfl
theorem t51 (N : Nat) (x0 : D) (x1 : D) (x2 : Int) : evFn Try.prog (envR D2 [] [] []) t51_h N Try.f51 [dat 85 x0, dat 23 x1, dat 3 (.lit (.int .i64 x2))] =
  bif (decide (0 ≤ (intD (fieldD x0 0))) && decide ((intD (fieldD x0 0)) ≤ 2147483648)) then
    t51_lp3 Try.prog Try.f51 N N x0 x1 x2 0 (List.replicate (intD (fieldD x0 0)).toNat (.lit (.int .i64 0)))
  else none := by kernel_rfl

/- roadbook/data.New -/
def t18_h : Hints := fun _ =>  none
theorem t18 (N : Nat) (x0 : D) : evFn Try.prog (envR D2 [] [] []) t18_h N Try.f18 [dat 36 x0] =
  bif (!(mayCat (.agg [x0]))) then
    some (tupA [38, 4] (.agg [.agg [.slice [] []], .lit (.bool false)]))
  else bif decide ((elemsD x0).length ≤ 2147483648) then
      some (tupA [38, 4] (.agg [.agg [x0], .lit (.bool true)]))
    else none := by kernel_rfl

/- roadbook/roadbookref04.Fits -/
def t26_h : Hints := fun i => if i = 5 then some ([0, 1, 4, 5, 7, 8, 9, 10, 11, 12, 13, 14, 15, 16, 17, 18, 19, 20, 21, 22, 23, 24, 25, 26, 27, 28, 29, 30, 31, 32, 33, 34, 35, 36, 37, 38, 39, 40, 41, 42, 43, 44, 45, 46, 47, 48, 49, 50, 51, 52, 53, 54, 55, 56, 57, 58, 59, 60, 61, 62, 63, 64, 65, 66, 67, 68, 69, 70, 71, 72, 73, 74, 75, 76, 77, 78, 79, 80, 81, 82, 83, 84, 85, 86, 87, 88, 89], [2, 3], []) else if i = 10 then some ([0, 1, 4, 5, 8, 9, 10, 11, 12, 13, 14, 15, 16, 17, 18, 19, 20, 21, 22, 23, 24, 25, 26, 27, 28, 29, 30, 31, 32, 33, 34, 35, 36, 37, 38, 39, 40, 41, 42, 43, 44, 45, 46, 47, 48, 49, 50, 51, 52, 53, 54, 55, 56, 57, 58, 59, 60, 61, 62, 63, 64, 65, 66, 67, 68, 69, 70, 71, 72, 73, 74, 75, 76, 77, 78, 79, 80, 81, 82, 83, 84, 85, 86, 87, 88, 89], [2, 3], []) else if i = 15 then some ([0, 1, 4, 5, 9, 10, 11, 12, 13, 14, 15, 16, 17, 18, 19, 20, 21, 22, 23, 24, 25, 26, 27, 28, 29, 30, 31, 32, 33, 34, 35, 36, 37, 38, 39, 40, 41, 42, 43, 44, 45, 46, 47, 48, 49, 50, 51, 52, 53, 54, 55, 56, 57, 58, 59, 60, 61, 62, 63, 64, 65, 66, 67, 68, 69, 70, 71, 72, 73, 74, 75, 76, 77, 78, 79, 80, 81, 82, 83, 84, 85, 86, 87, 88, 89], [2, 3], []) else none
def t26_lp5 (P : Program) (fn : Func) (N n : Nat) (x0 : D) (x1 : D) (v6 : Int) : Option AV := evLoop (preL t26_h (sub [1, 1, 1, 0, 1, 0, 0] (bodyOf fn))) (evCode P (envR D2 [] [] []) t26_h N (sub [1, 1, 1, 0, 1, 0, 0] (bodyOf fn))) n ⟨[dead, dead, bxp 2 38, bxp 3 41, dead, dead, dat 3 (.lit (.int .i64 v6)), dead, dead, dead, dead, dead, dead, dead, dead, dead, dead, dead, dead, dead, dead, dead, dead, dead, dead, dead, dead, dead, dead, dead, dead, dead, dead, dead, dead, dead, dead, dead, dead, dead, dead, dead, dead, dead, dead, dead, dead, dead, dead, dead, dead, dead, dead, dead, dead, dead, dead, dead, dead, dead, dead, dead, dead, dead, dead, dead, dead, dead, dead, dead, dead, dead, dead, dead, dead, dead, dead, dead, dead, dead, dead, dead, dead, dead, dead, dead, dead, dead, dead, dead], lookB [(2, some ⟨38, x0, 0, none⟩), (3, some ⟨41, x1, 0, none⟩)]⟩ (blockK 0 (seqC P (envR D2 [] [] []) t26_h N (sub [1, 1, 1, 1] (bodyOf fn)) (finK P fn) ))
def t26_lp10 (P : Program) (fn : Func) (N n : Nat) (x0 : D) (x1 : D) (v6 : Int) (m0 : Nat) (v7 : Int) : Option AV := evLoop (preL t26_h (sub [1, 1, 1, 0, 1, 0, 0, 1, 0, 0, 1, 1, 0, 0] (bodyOf fn))) (evCode P (envR D2 [] [] []) t26_h N (sub [1, 1, 1, 0, 1, 0, 0, 1, 0, 0, 1, 1, 0, 0] (bodyOf fn))) n ⟨[dead, dead, bxp 2 38, bxp 3 41, dead, dead, dat 3 (.lit (.int .i64 v6)), dat 3 (.lit (.int .i64 v7)), dead, dead, dead, dead, dead, dead, dead, dead, dead, dead, dead, dead, dead, dead, dead, dead, dead, dead, dead, dead, dead, dead, dead, dead, dead, dead, dead, dead, dead, dead, dead, dead, dead, dead, dead, dead, dead, dead, dead, dead, dead, dead, dead, dead, dead, dead, dead, dead, dead, dead, dead, dead, dead, dead, dead, dead, dead, dead, dead, dead, dead, dead, dead, dead, dead, dead, dead, dead, dead, dead, dead, dead, dead, dead, dead, dead, dead, dead, dead, dead, dead, dead], lookB [(2, some ⟨38, x0, 0, none⟩), (3, some ⟨41, x1, 0, none⟩)]⟩ (blockK 2 (blockK 1 (seqC P (envR D2 [] [] []) t26_h N (sub [1, 1, 1, 0, 1, 0, 0, 1, 1] (bodyOf fn)) (seqK (fun s => evLoop (preL t26_h (sub [1, 1, 1, 0, 1, 0, 0] (bodyOf fn))) (evCode P (envR D2 [] [] []) t26_h N (sub [1, 1, 1, 0, 1, 0, 0] (bodyOf fn))) m0 ((preL t26_h (sub [1, 1, 1, 0, 1, 0, 0] (bodyOf fn))) s) (blockK 0 (seqC P (envR D2 [] [] []) t26_h N (sub [1, 1, 1, 1] (bodyOf fn)) (finK P fn) ))) (blockK 0 (seqC P (envR D2 [] [] []) t26_h N (sub [1, 1, 1, 1] (bodyOf fn)) (finK P fn) ))) )))
def t26_lp15 (P : Program) (fn : Func) (N n : Nat) (x0 : D) (x1 : D) (v6 : Int) (m0 : Nat) (v7 : Int) (m1 : Nat) (v8 : Int) : Option AV := evLoop (preL t26_h (sub [1, 1, 1, 0, 1, 0, 0, 1, 0, 0, 1, 1, 0, 0, 1, 0, 0, 1, 1, 0, 0] (bodyOf fn))) (evCode P (envR D2 [] [] []) t26_h N (sub [1, 1, 1, 0, 1, 0, 0, 1, 0, 0, 1, 1, 0, 0, 1, 0, 0, 1, 1, 0, 0] (bodyOf fn))) n ⟨[dead, dead, bxp 2 38, bxp 3 41, dead, dead, dat 3 (.lit (.int .i64 v6)), dat 3 (.lit (.int .i64 v7)), dat 3 (.lit (.int .i64 v8)), dead, dead, dead, dead, dead, dead, dead, dead, dead, dead, dead, dead, dead, dead, dead, dead, dead, dead, dead, dead, dead, dead, dead, dead, dead, dead, dead, dead, dead, dead, dead, dead, dead, dead, dead, dead, dead, dead, dead, dead, dead, dead, dead, dead, dead, dead, dead, dead, dead, dead, dead, dead, dead, dead, dead, dead, dead, dead, dead, dead, dead, dead, dead, dead, dead, dead, dead, dead, dead, dead, dead, dead, dead, dead, dead, dead, dead, dead, dead, dead, dead], lookB [(2, some ⟨38, x0, 0, none⟩), (3, some ⟨41, x1, 0, none⟩)]⟩ (blockK 4 (blockK 3 (seqC P (envR D2 [] [] []) t26_h N (sub [1, 1, 1, 0, 1, 0, 0, 1, 0, 0, 1, 1, 0, 0, 1, 1] (bodyOf fn)) (seqK (fun s => evLoop (preL t26_h (sub [1, 1, 1, 0, 1, 0, 0, 1, 0, 0, 1, 1, 0, 0] (bodyOf fn))) (evCode P (envR D2 [] [] []) t26_h N (sub [1, 1, 1, 0, 1, 0, 0, 1, 0, 0, 1, 1, 0, 0] (bodyOf fn))) m1 ((preL t26_h (sub [1, 1, 1, 0, 1, 0, 0, 1, 0, 0, 1, 1, 0, 0] (bodyOf fn))) s) (blockK 2 (blockK 1 (seqC P (envR D2 [] [] []) t26_h N (sub [1, 1, 1, 0, 1, 0, 0, 1, 1] (bodyOf fn)) (seqK (fun s => evLoop (preL t26_h (sub [1, 1, 1, 0, 1, 0, 0] (bodyOf fn))) (evCode P (envR D2 [] [] []) t26_h N (sub [1, 1, 1, 0, 1, 0, 0] (bodyOf fn))) m0 ((preL t26_h (sub [1, 1, 1, 0, 1, 0, 0] (bodyOf fn))) s) (blockK 0 (seqC P (envR D2 [] [] []) t26_h N (sub [1, 1, 1, 1] (bodyOf fn)) (finK P fn) ))) (blockK 0 (seqC P (envR D2 [] [] []) t26_h N (sub [1, 1, 1, 1] (bodyOf fn)) (finK P fn) ))) )))) (blockK 2 (blockK 1 (seqC P (envR D2 [] [] []) t26_h N (sub [1, 1, 1, 0, 1, 0, 0, 1, 1] (bodyOf fn)) (seqK (fun s => evLoop (preL t26_h (sub [1, 1, 1, 0, 1, 0, 0] (bodyOf fn))) (evCode P (envR D2 [] [] []) t26_h N (sub [1, 1, 1, 0, 1, 0, 0] (bodyOf fn))) m0 ((preL t26_h (sub [1, 1, 1, 0, 1, 0, 0] (bodyOf fn))) s) (blockK 0 (seqC P (envR D2 [] [] []) t26_h N (sub [1, 1, 1, 1] (bodyOf fn)) (finK P fn) ))) (blockK 0 (seqC P (envR D2 [] [] []) t26_h N (sub [1, 1, 1, 1] (bodyOf fn)) (finK P fn) ))) )))) )))
theorem t26_lp15_step  (N n : Nat) (x0 : D) (x1 : D) (v6 : Int) (m0 : Nat) (v7 : Int) (m1 : Nat) (v8 : Int) : t26_lp15 Try.prog Try.f26 N (n + 1) x0 x1 v6 m0 v7 m1 v8 =
  bif (decide (0 ≤ v6) && decide (v6 < ((elemsD (fieldD x1 0)).length : Int))) then
    bif (decide (0 ≤ v7) && decide (v7 < ((elemsD ((elemsD (fieldD x1 0)).getD (v6).toNat .nil)).length : Int))) then
      bif decide (v8 < ((elemsD ((elemsD ((elemsD (fieldD x1 0)).getD (v6).toNat .nil)).getD (v7).toNat .nil)).length : Int)) then
        bif (decide (0 ≤ v6) && decide (v6 < ((elemsD (fieldD x1 0)).length : Int))) then
          bif (decide (0 ≤ v7) && decide (v7 < ((elemsD ((elemsD (fieldD x1 0)).getD (v6).toNat .nil)).length : Int))) then
            bif (decide (0 ≤ v8) && decide (v8 < ((elemsD ((elemsD ((elemsD (fieldD x1 0)).getD (v6).toNat .nil)).getD (v7).toNat .nil)).length : Int))) then
              bif (!(mayB ((elemsD ((elemsD ((elemsD (fieldD x1 0)).getD (v6).toNat .nil)).getD (v7).toNat .nil)).getD (v8).toNat .nil))) then
                some (dat 4 (.lit (.bool false)))
              else t26_lp15 Try.prog Try.f26 N n x0 x1 v6 m0 v7 m1 (IntKind.wrap .i64 (v8 + 1))
            else none
          else none
        else none
      else t26_lp10 Try.prog Try.f26 N m1 x0 x1 v6 m0 (IntKind.wrap .i64 (v7 + 1))
    else none
  else none := by kernel_rfl
theorem t26_lp10_step  (N n : Nat) (x0 : D) (x1 : D) (v6 : Int) (m0 : Nat) (v7 : Int) : t26_lp10 Try.prog Try.f26 N (n + 1) x0 x1 v6 m0 v7 =
  bif (decide (0 ≤ v6) && decide (v6 < ((elemsD (fieldD x1 0)).length : Int))) then
    bif decide (v7 < ((elemsD ((elemsD (fieldD x1 0)).getD (v6).toNat .nil)).length : Int)) then
      bif (decide (0 ≤ v6) && decide (v6 < ((elemsD (fieldD x1 0)).length : Int))) then
        bif (decide (0 ≤ v7) && decide (v7 < ((elemsD ((elemsD (fieldD x1 0)).getD (v6).toNat .nil)).length : Int))) then
          bif (decide (0 ≤ v6) && decide (v6 < ((elemsD (fieldD x0 0)).length : Int))) then
            bif (((elemsD ((elemsD ((elemsD (fieldD x1 0)).getD (v6).toNat .nil)).getD (v7).toNat .nil)).length : Int) != (intD (fieldD ((elemsD (fieldD x0 0)).getD (v6).toNat .nil) 0))) then
              some (dat 4 (.lit (.bool false)))
            else t26_lp15 Try.prog Try.f26 N N x0 x1 v6 m0 v7 n 0
          else none
        else none
      else none
    else t26_lp5 Try.prog Try.f26 N m0 x0 x1 (IntKind.wrap .i64 (v6 + 1))
  else none := by kernel_rfl
theorem t26_lp5_step  (N n : Nat) (x0 : D) (x1 : D) (v6 : Int) : t26_lp5 Try.prog Try.f26 N (n + 1) x0 x1 v6 =
  bif decide (v6 < ((elemsD (fieldD x1 0)).length : Int)) then
    bif (decide (0 ≤ v6) && decide (v6 < ((elemsD (fieldD x1 0)).length : Int))) then
      bif decide (((elemsD ((elemsD (fieldD x1 0)).getD (v6).toNat .nil)).length : Int) > 8) then
        some (dat 4 (.lit (.bool false)))
      else t26_lp10 Try.prog Try.f26 N N x0 x1 v6 n 0
    else none
  else some (dat 4 (.lit (.bool true))) := by kernel_rfl
theorem t26 (N : Nat) (x0 : D) (x1 : D) : evFn Try.prog (envR D2 [] [] []) t26_h N Try.f26 [dat 38 x0, dat 41 x1] =
  bif ((!(mayCat x0)) == false) then
    bif (((elemsD (fieldD x1 0)).length : Int) != ((elemsD (fieldD x0 0)).length : Int)) then
      some (dat 4 (.lit (.bool false)))
    else t26_lp5 Try.prog Try.f26 N N x0 x1 0
  else some (dat 4 (.lit (.bool false))) := by kernel_rfl

end Go.Proofs.Ytmopepjahjmdeaa

namespace Go.Proofs.Ytmopepjahjmdeaa
open Go.Ev
set_option linter.unusedVariables false
set_option maxRecDepth 10000
set_option linter.unusedSimpArgs false

theorem seen_loop {N m : Nat} {t x1 : D} {occ : Int} (hm : (intD (fieldD t 0)).toNat = m) (h4 : m ≤ 4) : ∀ (n i : Nat) (tl : List D), i ≤ m → m - i < n → tl.length = m - i →
    t51_lp3 Try.prog Try.f51 N n t x1 occ (i : Int) (((List.range m).take i).map (seenCol occ) ++ tl) = some (dat 25 (.agg [.slice (seenCols m occ) [], x1]))
  | 0, i, tl, _, h, _ => by omega
  | n + 1, i, tl, hi, h, ht => by
    rw [t51_lp3_step, List.length_replicate, hm]
    by_cases hlt : i < m
    · have hl2 : (((List.range m).take i).map (seenCol occ) ++ tl).length = m := by simp; omega
      have w1 : IntKind.wrap .i64 ((i : Int) + 1) = ((i + 1 : Nat) : Int) := by rw [l_wrapI (l_in (by omega) (by omega))]; omega
      have hr : i < (List.range m).length := by simpa using hlt
      have e1 : (DataW.lit (.int .i64 (colN occ (i : Int))) : D) = seenCol occ (List.range m)[i] := by rw [List.getElem_range]; rfl
      rw [hl2, l_idx hlt, l_lt hlt, cond_true, cond_true, Int.toNat_natCast, w1, e1, l_set (seenCol occ) hr (by simpa using ht)]
      exact seen_loop hm h4 n (i + 1) (tl.drop 1) (by omega) (by omega) (by simp; omega)
    · have hi2 : i = m := by omega
      have htl : tl = [] := List.length_eq_zero_iff.1 (by omega)
      rw [l_ge hlt, cond_false, htl, hi2, List.append_nil, List.take_of_length_le (by simp)]
      rfl
def e51 : FuncId × TypeId × (List AV → Bool) × (List AV → Option D) := (51, 25, preD (q3 fun x _ _ => belowB (defC x) 5), ent [85, 23, 3] (f3 fun x y z => some (seenBag x (elemsD y) (intD z))))
theorem k51 : FnOK Try.prog 51 Try.f51 := ⟨Try.func51, rfl, by kernel_rfl⟩
theorem c51 : ∀ args d, e51.2.2.1 args = true → e51.2.2.2 args = some d → CallOK Try.prog 51 args (mkRes Try.prog 25 d) :=
  ent3p k51 fun x y z d hq h _ ⟨_, hy⟩ _ => by
    cases h
    rw [nDef, nR, n3]
    have hq := below_iff.1 hq
    obtain ⟨rs, rfl, _, _⟩ := tyR hy
    refine fn_ok hm envD2 k51 ((t51 6 x (.slice rs []) (intD z)).trans ?_)
    rw [mB]
    have hq : 0 ≤ intD (fieldD x 0) ∧ intD (fieldD x 0) < 5 := hq
    have g1 : (decide (0 ≤ (intD (fieldD x 0))) && decide ((intD (fieldD x 0)) ≤ 2147483648)) = true := by simp only [Bool.and_eq_true, decide_eq_true_eq]; omega
    rw [g1, cond_true]
    exact seen_loop (N := 6) (t := x) (x1 := .slice rs []) (occ := intD z) rfl (by omega) 6 0 (List.replicate (intD (fieldD x 0)).toNat (.lit (.int .i64 0))) (Nat.zero_le _) (by omega) (by simp)

def e18 : FuncId × TypeId × (List AV → Bool) × (List AV → Option D) := (18, 44, preD (q1 fun x => decide ((elemsD x).length ≤ 2147483648)), ent [36] (f1 fun x => some (.agg [newCat (elemsD x), .lit (.bool (mayCat (catD (elemsD x))))])))
theorem k18 : FnOK Try.prog 18 Try.f18 := ⟨Try.func18, rfl, by kernel_rfl⟩
theorem c18 : ∀ args d, e18.2.2.1 args = true → e18.2.2.2 args = some d → CallOK Try.prog 18 args (mkRes Try.prog 44 d) :=
  ent1p k18 fun x d hq h ⟨_, hx⟩ => by
    cases h
    rw [nDefs]
    obtain ⟨ts, rfl, hl, _⟩ := tyDefs hx
    refine fn_ok hm envD2 k18 ((t18 1 (.slice ts [])).trans ?_)
    rw [mTCB, show mayCat (.agg [.slice ts []]) = mayCat (catD ts) from rfl, show decide ((elemsD (.slice ts [] : D)).length ≤ 2147483648) = true from hq]
    unfold newCat
    show _ = some (tupA [38, 4] (.agg [bif mayCat (catD ts) then catD ts else catD [], .lit (.bool (mayCat (catD ts)))]))
    cases mayCat (catD ts) <;> rfl

/-! ### The document's Fits -/
/-- Rounds enough for each table, each row, and each value. -/
def fuelT (ts : List D) : Nat := (ts.map fun t => fuelB (elemsD t)).sum + ts.length + 1
theorem fuel_tab {ts : List D} {t : D} (h : t ∈ ts) : fuelB (elemsD t) < fuelT ts := by
  have : fuelB (elemsD t) ≤ (ts.map fun t => fuelB (elemsD t)).sum := le_sum _ _ (List.mem_map.2 ⟨t, h, rfl⟩)
  unfold fuelT; omega
section
variable {cs ts : List D} {N i : Nat} (hi : i < ts.length) (hlc : ts.length = cs.length) (hc : mayDef (cs.getD i .nil) = true) (hl : (elemsD (ts.getD i .nil)).length ≤ maxLen)
  (hr : ∀ r ∈ elemsD (ts.getD i .nil), (elemsD r).length ≤ maxLen) (hN : fuelB (elemsD (ts.getD i .nil)) < N)
include hi hl hr hN
theorem rfits_in {m0 m1 j : Nat} (hj : j < (elemsD (ts.getD i .nil)).length) :
    t26_lp15 Try.prog Try.f26 N N (catD cs) (catD ts) (i : Int) m0 (j : Int) m1 0 =
      bif (elemsD ((elemsD (ts.getD i .nil)).getD j .nil)).all mayB then t26_lp10 Try.prog Try.f26 N m1 (catD cs) (catD ts) (i : Int) m0 ((j + 1 : Nat) : Int) else some (dat 4 (.lit (.bool false))) := by
  have hm : (elemsD (ts.getD i .nil)).getD j .nil ∈ elemsD (ts.getD i .nil) := by rw [l_get hj]; exact List.getElem_mem hj
  have hrl := hr _ hm
  have := l_loop (fun n v => t26_lp15 Try.prog Try.f26 N n (catD cs) (catD ts) (i : Int) m0 (j : Int) m1 v) (elemsD ((elemsD (ts.getD i .nil)).getD j .nil)).length
    (fun k => !mayB ((elemsD ((elemsD (ts.getD i .nil)).getD j .nil)).getD k .nil)) (some (dat 4 (.lit (.bool false)))) (t26_lp10 Try.prog Try.f26 N m1 (catD cs) (catD ts) (i : Int) m0 ((j + 1 : Nat) : Int))
    (fun n k hk => by
      rw [t26_lp15_step, tabs_cat, l_idx hi, Int.toNat_natCast, Int.toNat_natCast, l_idx hj, l_idx hk, l_lt hk, Int.toNat_natCast, l_wrap hrl hk]
      simp only [cond_true])
    (fun n => by
      rw [t26_lp15_step, tabs_cat, l_idx hi, Int.toNat_natCast, Int.toNat_natCast, l_idx hj, l_ge (by omega), l_wrap hl hj]
      rfl) N 0 (Nat.zero_le _) (by have := fuel_row hm; omega)
  refine this.trans ?_
  rw [Nat.sub_zero, l_any0 (elemsD ((elemsD (ts.getD i .nil)).getD j .nil)) (fun v => !mayB v)]
  have : (elemsD ((elemsD (ts.getD i .nil)).getD j .nil)).any (fun v => !mayB v) = !(elemsD ((elemsD (ts.getD i .nil)).getD j .nil)).all mayB := by
    rw [List.all_eq_not_any_not, Bool.not_not]
  rw [this]
  cases (elemsD ((elemsD (ts.getD i .nil)).getD j .nil)).all mayB <;> rfl
include hlc hc
theorem rfits_mid {m0 : Nat} :
    t26_lp10 Try.prog Try.f26 N N (catD cs) (catD ts) (i : Int) m0 0 =
      bif (elemsD (ts.getD i .nil)).all (fitsRow (cs.getD i .nil)) then t26_lp5 Try.prog Try.f26 N m0 (catD cs) (catD ts) (IntKind.wrap .i64 ((i : Int) + 1)) else some (dat 4 (.lit (.bool false))) := by
  obtain ⟨d1, d2, _, _⟩ := mayDef_iff.1 hc
  have := l_loop (fun n v => t26_lp10 Try.prog Try.f26 N n (catD cs) (catD ts) (i : Int) m0 v) (elemsD (ts.getD i .nil)).length
    (fun j => !fitsRow (cs.getD i .nil) ((elemsD (ts.getD i .nil)).getD j .nil)) (some (dat 4 (.lit (.bool false)))) (t26_lp5 Try.prog Try.f26 N m0 (catD cs) (catD ts) (IntKind.wrap .i64 ((i : Int) + 1)))
    (fun n j hj => by
      rw [t26_lp10_step, tabs_cat, tabs_cat, l_idx hi, Int.toNat_natCast, Int.toNat_natCast, l_idx hj, l_lt hj, l_idx (by omega : i < cs.length), rfits_in hi hl hr hN hj]
      simp only [cond_true]
      unfold fitsRow
      by_cases he : (elemsD ((elemsD (ts.getD i .nil)).getD j .nil)).length = (defC (cs.getD i .nil)).toNat
      · have q1 : (((elemsD ((elemsD (ts.getD i .nil)).getD j .nil)).length : Int) != (intD (fieldD (cs.getD i .nil) 0))) = false := by
          rw [bne_eq_false_iff_eq]
          show _ = defC (cs.getD i .nil)
          omega
        rw [q1, l_eqt he]
        cases (elemsD ((elemsD (ts.getD i .nil)).getD j .nil)).all mayB <;> rfl
      · have q1 : (((elemsD ((elemsD (ts.getD i .nil)).getD j .nil)).length : Int) != (intD (fieldD (cs.getD i .nil) 0))) = true := by
          rw [bne_iff_ne]
          show _ ≠ defC (cs.getD i .nil)
          omega
        rw [q1, l_eqf he]
        rfl)
    (fun n => by
      rw [t26_lp10_step, tabs_cat, l_idx hi, Int.toNat_natCast, l_ge (by omega)]
      rfl) N 0 (Nat.zero_le _) (by unfold fuelB at hN; omega)
  refine this.trans ?_
  rw [Nat.sub_zero, l_any0 (elemsD (ts.getD i .nil)) (fun r => !fitsRow (cs.getD i .nil) r)]
  have : (elemsD (ts.getD i .nil)).any (fun r => !fitsRow (cs.getD i .nil) r) = !(elemsD (ts.getD i .nil)).all (fitsRow (cs.getD i .nil)) := by
    rw [List.all_eq_not_any_not, Bool.not_not]
  rw [this]
  cases (elemsD (ts.getD i .nil)).all (fitsRow (cs.getD i .nil)) <;> rfl
end
theorem cat_len {ts : List D} (h : mayCat (catD ts) = true) : ts.length ≤ 4 := (mayCat_iff.1 h).2.1
theorem cat_def {ts : List D} (h : mayCat (catD ts) = true) {i : Nat} (hi : i < ts.length) : mayDef (ts.getD i .nil) = true := by
  rw [l_get hi]
  exact (mayCat_iff.1 h).2.2 _ (List.getElem_mem hi)
def e26 : FuncId × TypeId × (List AV → Bool) × (List AV → Option D) := (26, 4, yes, ent [38, 41] (f2 fun x y => some (.lit (.bool (fitsD x y)))))
theorem k26 : FnOK Try.prog 26 Try.f26 := ⟨Try.func26, rfl, by kernel_rfl⟩
theorem c26 : ∀ args d, e26.2.2.2 args = some d → CallOK Try.prog 26 args (mkRes Try.prog 4 d) :=
  ent2 k26 fun x y d h ⟨_, hx⟩ ⟨_, hy⟩ => by
    cases h
    rw [nCat, nData]
    obtain ⟨cs, rfl, _, _⟩ := tyCat hx
    obtain ⟨ts, rfl, hl, hp⟩ := tyData hy
    refine fn_ok hm envD2 k26 ((t26 (fuelT ts) (catD cs) (catD ts)).trans ?_)
    rw [m4, tabs_cat, tabs_cat]
    show _ = some (dat 4 (.lit (.bool (mayCat (catD cs) && ((ts.length == cs.length) && !(List.range' 0 cs.length).any fun i => !fitsTab (cs.getD i .nil) (ts.getD i .nil))))))
    cases hmay : mayCat (catD cs) with
    | false => rfl
    | true =>
      by_cases hle : ts.length = cs.length
      · have := l_loop (fun n v => t26_lp5 Try.prog Try.f26 (fuelT ts) n (catD cs) (catD ts) v) cs.length (fun i => !fitsTab (cs.getD i .nil) (ts.getD i .nil)) (some (dat 4 (.lit (.bool false)))) (some (dat 4 (.lit (.bool true))))
          (fun n i hi => by
            have hi2 : i < ts.length := by omega
            have hmem : ts.getD i .nil ∈ ts := by rw [l_get hi2]; exact List.getElem_mem hi2
            obtain ⟨rs, hrs, h1, h2⟩ := hp _ hmem
            rw [t26_lp5_step, tabs_cat, l_idx hi2, l_lt hi2, Int.toNat_natCast, cond_true, cond_true]
            rw [rfits_mid hi2 hle (cat_def hmay hi) (by rw [hrs]; exact h1) (by rw [hrs]; exact fun r hr => by obtain ⟨vs, rfl, hv, _⟩ := h2 r hr; exact hv) (fuel_tab hmem), l_wrap hl hi2]
            unfold fitsTab
            rw [gt_not]
            cases decide (((elemsD (ts.getD i .nil)).length : Int) ≤ 8) <;> cases (elemsD (ts.getD i .nil)).all (fitsRow (cs.getD i .nil)) <;> rfl)
          (fun n => by rw [t26_lp5_step, tabs_cat, l_ge (by omega), cond_false]) (fuelT ts) 0 (Nat.zero_le _) (by unfold fuelT; omega)
        have this : t26_lp5 Try.prog Try.f26 (fuelT ts) (fuelT ts) (catD cs) (catD ts) 0 = _ := this
        rw [l_nef hle, l_eqt hle, this, Nat.sub_zero]
        cases (List.range' 0 cs.length).any _ <;> rfl
      · rw [l_net hle, l_eqf hle]
        rfl

def D3 : Tab := e51 :: e18 :: e26 :: D2
theorem envD3 : EnvOK Try.prog (envR D3 [] [] []) := envOK_cons' (envOK_cons' (envOK_cons envD2 c26) c18) c51

end Go.Proofs.Ytmopepjahjmdeaa
