/- What the evaluator comes to, function by function: by the kernel. Nothing here is trusted. -/
import Derived.Test.YtmopepjahjmdeaaDA
namespace Go.Proofs.Ytmopepjahjmdeaa
open Go.Ev
set_option linter.unusedVariables false
/- roadbook/data.Fits -/
def t25_h : Hints := fun i => if i = 4 then some ([0, 1, 2, 4, 5, 6, 7, 8, 9, 10, 11, 12, 13, 14, 15, 16, 17, 18, 19, 23, 24, 25, 26, 27, 28, 29, 30, 31, 32, 33, 34, 35, 36, 37, 38, 39, 40, 41, 42, 43, 44, 45], [3], []) else none
def t25_lp4 (P : Program) (fn : Func) (N n : Nat) (x0 : D) (x1 : D) (v22 : Int) : Option AV := evLoop (preL t25_h (sub [1, 1, 0, 1, 0, 0] (bodyOf fn))) (evCode P (envR D3 [] [] []) t25_h N (sub [1, 1, 0, 1, 0, 0] (bodyOf fn))) n ⟨[dead, dead, dead, bxp 3 41, dead, dead, dead, dead, dead, dead, dead, dead, dead, dead, dead, dead, dead, dead, dead, dead, dat 36 (fieldD x0 0), dat 3 (.lit (.int .i64 ((elemsD (fieldD x0 0)).length : Int))), dat 3 (.lit (.int .i64 v22)), dead, dead, dead, dead, dead, dead, dead, dead, dead, dead, dead, dead, dead, dead, dead, dead, dead, dead, dead, dead, dead, dead, dead], lookB [(3, some ⟨41, x1, 0, none⟩)]⟩ (blockK 0 (seqC P (envR D3 [] [] []) t25_h N (sub [1, 1, 1] (bodyOf fn)) (finK P fn) ))
theorem t25_lp4_step  (N n : Nat) (x0 : D) (x1 : D) (v22 : Int) : t25_lp4 Try.prog Try.f25 N (n + 1) x0 x1 v22 =
  bif decide (v22 < ((elemsD (fieldD x0 0)).length : Int)) then
    bif (decide (0 ≤ v22) && decide (v22 < ((elemsD (fieldD x0 0)).length : Int))) then
      bif (decide (0 ≤ v22) && decide (v22 < ((elemsD (fieldD x1 0)).length : Int))) then
        bif ((decide (((elemsD ((elemsD (fieldD x1 0)).getD (v22).toNat .nil)).length : Int) > 8)) == false) then
          bif (decide (0 ≤ v22) && decide (v22 < ((elemsD (fieldD x1 0)).length : Int))) then
            bif belowB (defC ((elemsD (fieldD x0 0)).getD (v22).toNat .nil)) 5 then
              bif (!(mayBagB (seenBag ((elemsD (fieldD x0 0)).getD (v22).toNat .nil) (elemsD ((elemsD (fieldD x1 0)).getD (v22).toNat .nil)) 0))) then
                some (dat 4 (.lit (.bool false)))
              else t25_lp4 Try.prog Try.f25 N n x0 x1 (IntKind.wrap .i64 (v22 + 1))
            else none
          else none
        else some (dat 4 (.lit (.bool false)))
      else none
    else none
  else some (dat 4 (.lit (.bool true))) := by kernel_rfl
theorem t25 (N : Nat) (x0 : D) (x1 : D) : evFn Try.prog (envR D3 [] [] []) t25_h N Try.f25 [dat 38 x0, dat 41 x1] =
  bif ((!(mayCat x0)) == false) then
    bif (((elemsD (fieldD x1 0)).length : Int) != ((elemsD (fieldD x0 0)).length : Int)) then
      some (dat 4 (.lit (.bool false)))
    else t25_lp4 Try.prog Try.f25 N N x0 x1 0
  else some (dat 4 (.lit (.bool false))) := by kernel_rfl

end Go.Proofs.Ytmopepjahjmdeaa

namespace Go.Proofs.Ytmopepjahjmdeaa
open Go.Ev
set_option linter.unusedVariables false
set_option maxRecDepth 10000
set_option linter.unusedSimpArgs false

theorem def_below {t : D} (h : mayDef t = true) : belowB (defC t) 5 = true := by
  obtain ⟨a, b, _, _⟩ := mayDef_iff.1 h
  exact below_iff.2 ⟨by omega, by omega⟩
def e25 : FuncId × TypeId × (List AV → Bool) × (List AV → Option D) := (25, 4, yes, ent [38, 41] (f2 fun x y => some (.lit (.bool (fitsD x y)))))
theorem k25 : FnOK Try.prog 25 Try.f25 := ⟨Try.func25, rfl, by kernel_rfl⟩
theorem c25 : ∀ args d, e25.2.2.2 args = some d → CallOK Try.prog 25 args (mkRes Try.prog 4 d) :=
  ent2 k25 fun x y d h ⟨_, hx⟩ ⟨_, hy⟩ => by
    cases h
    rw [nCat, nData]
    obtain ⟨cs, rfl, hlc, _⟩ := tyCat hx
    obtain ⟨ts, rfl, hl, hp⟩ := tyData hy
    refine fn_ok hm envD3 k25 ((t25 (cs.length + 1) (catD cs) (catD ts)).trans ?_)
    rw [m4, tabs_cat, tabs_cat]
    show _ = some (dat 4 (.lit (.bool (mayCat (catD cs) && ((ts.length == cs.length) && !(List.range' 0 cs.length).any fun i => !fitsTab (cs.getD i .nil) (ts.getD i .nil))))))
    cases hmay : mayCat (catD cs) with
    | false => rfl
    | true =>
      by_cases hle : ts.length = cs.length
      · have := l_loop (fun n v => t25_lp4 Try.prog Try.f25 (cs.length + 1) n (catD cs) (catD ts) v) cs.length (fun i => !fitsTab (cs.getD i .nil) (ts.getD i .nil)) (some (dat 4 (.lit (.bool false)))) (some (dat 4 (.lit (.bool true))))
          (fun n i hi => by
            have hi2 : i < ts.length := by omega
            have hd := cat_def hmay hi
            rw [t25_lp4_step, tabs_cat, tabs_cat, l_idx hi, l_lt hi, l_idx hi2, Int.toNat_natCast, def_below hd, l_wrap hlc hi, gt_not]
            simp only [cond_true]
            unfold fitsTab
            by_cases h8 : ((elemsD (ts.getD i .nil)).length : Int) ≤ 8
            · rw [seen_may hd (by omega) ⟨by omega, by omega⟩, dT h8]
              cases (elemsD (ts.getD i .nil)).all (fitsRow (cs.getD i .nil)) <;> rfl
            · rw [dF h8]
              rfl)
          (fun n => by rw [t25_lp4_step, tabs_cat, l_ge (by omega), cond_false]) (cs.length + 1) 0 (Nat.zero_le _) (by omega)
        have this : t25_lp4 Try.prog Try.f25 (cs.length + 1) (cs.length + 1) (catD cs) (catD ts) 0 = _ := this
        rw [l_nef hle, l_eqt hle, this, Nat.sub_zero]
        cases (List.range' 0 cs.length).any _ <;> rfl
      · rw [l_net hle, l_eqf hle]
        rfl
def D4 : Tab := e25 :: D3
theorem envD4 : EnvOK Try.prog (envR D4 [] [] []) := envOK_cons envD3 c25

end Go.Proofs.Ytmopepjahjmdeaa

namespace Go.Proofs.Ytmopepjahjmdeaa
open Go.Ev
set_option linter.unusedVariables false
/- roadbook/data.Of -/
def t16_h : Hints := fun _ =>  none
theorem t16 (N : Nat) (x0 : D) (x1 : D) (x2 : Int) (x3 : Int) : evFn Try.prog (envR D4 [] [] []) t16_h N Try.f16 [dat 38 x0, dat 41 x1, dat 3 (.lit (.int .i64 x2)), dat 3 (.lit (.int .i64 x3))] =
  bif ((!(fitsD x0 x1)) == false) then
    bif ((!(belowB x2 ((elemsD (fieldD x0 0)).length : Int))) == false) then
      bif (!(belowB x3 4)) then
        some (tupA [25, 4] (.agg [.agg [.slice [] [], .slice [] []], .lit (.bool false)]))
      else bif (decide (0 ≤ x2) && decide (x2 < ((elemsD (fieldD x0 0)).length : Int))) then
          bif (decide (0 ≤ x2) && decide (x2 < ((elemsD (fieldD x1 0)).length : Int))) then
            bif belowB (defC ((elemsD (fieldD x0 0)).getD (x2).toNat .nil)) 5 then
              bif (emptyL [] && sortOK (seenBag ((elemsD (fieldD x0 0)).getD (x2).toNat .nil) (elemsD ((elemsD (fieldD x1 0)).getD (x2).toNat .nil)) x3)) then
                some (tupA [25, 4] (.agg [keepAll (seenBag ((elemsD (fieldD x0 0)).getD (x2).toNat .nil) (elemsD ((elemsD (fieldD x1 0)).getD (x2).toNat .nil)) x3), .lit (.bool true)]))
              else none
            else none
          else none
        else none
    else some (tupA [25, 4] (.agg [.agg [.slice [] [], .slice [] []], .lit (.bool false)]))
  else some (tupA [25, 4] (.agg [.agg [.slice [] [], .slice [] []], .lit (.bool false)])) := by kernel_rfl

end Go.Proofs.Ytmopepjahjmdeaa

namespace Go.Proofs.Ytmopepjahjmdeaa
open Go.Ev
set_option linter.unusedVariables false
set_option maxRecDepth 10000
set_option linter.unusedSimpArgs false

def e16 : FuncId × TypeId × (List AV → Bool) × (List AV → Option D) := (16, 28, yes, ent [38, 41, 3, 3] (f4 fun x y z u => some (.agg [ofBag x y (intD z) (intD u), .lit (.bool (ofOK x y (intD z) (intD u)))])))
theorem k16 : FnOK Try.prog 16 Try.f16 := ⟨Try.func16, rfl, by kernel_rfl⟩
theorem c16 : ∀ args d, e16.2.2.2 args = some d → CallOK Try.prog 16 args (mkRes Try.prog 28 d) :=
  ent4 k16 fun x y z u d h ⟨_, hx⟩ ⟨_, hy⟩ _ _ => by
    cases h
    rw [nCat, nData, n3, n3]
    obtain ⟨cs, rfl, hlc, _⟩ := tyCat hx
    obtain ⟨ts, rfl, hl, hp⟩ := tyData hy
    refine fn_ok hm envD4 k16 ((t16 1 (catD cs) (catD ts) (intD z) (intD u)).trans ?_)
    rw [mTBB, tabs_cat, tabs_cat]
    generalize intD z = a
    generalize intD u = b
    have ho : ofOK (catD cs) (catD ts) a b = (fitsD (catD cs) (catD ts) && (belowB a (cs.length : Int) && belowB b 4)) := rfl
    unfold ofBag
    rw [ho]
    cases h1 : fitsD (catD cs) (catD ts) with
    | false => rfl
    | true =>
      cases h2 : belowB a (cs.length : Int) with
      | false => rfl
      | true =>
        cases h3 : belowB b 4 with
        | false => rfl
        | true =>
          obtain ⟨f1, f2, f3⟩ := fits_iff.1 h1
          have f2 : ts.length = cs.length := f2
          have a1 := below_iff.1 h2
          have hi : a.toNat < cs.length := by omega
          have hi2 : a.toNat < ts.length := by omega
          have hd := cat_def f1 hi
          have hmem : ts.getD a.toNat .nil ∈ ts := by rw [l_get hi2]; exact List.getElem_mem hi2
          obtain ⟨rs, hrs, _, _⟩ := hp _ hmem
          have hft : fitsTab (cs.getD a.toNat .nil) (.slice (elemsD (ts.getD a.toNat .nil)) []) = true := f3 _ hi
          have g1 : (decide (0 ≤ a) && decide (a < (cs.length : Int))) = true := h2
          have g2 : (decide (0 ≤ a) && decide (a < (ts.length : Int))) = true := by rw [f2]; exact h2
          rw [g1, g2, def_below hd, seen_sort hd hft]
          rfl
def D5 : Tab := e16 :: D4
theorem envD5 : EnvOK Try.prog (envR D5 [] [] []) := envOK_cons envD4 c16

end Go.Proofs.Ytmopepjahjmdeaa

namespace Go.Proofs.Ytmopepjahjmdeaa
open Go.Ev
set_option linter.unusedVariables false
/- roadbook/roadbooklaw04.awake -/
def t14_h : Hints := fun _ =>  none
theorem t14 (N : Nat)  : evFn Try.prog (envR D5 [] [] []) t14_h N Try.f14 [] =
  bif (((colN 2 1) == 9) == true) then
    bif ((mayCat catTwo) == true) then
      bif ((fitsD catTwo dataTwo) == true) then
        bif ((ofOK catTwo dataTwo 0 2) == true) then
          bif ((((elemsD (fieldD (ofBag catTwo dataTwo 0 2) 1)).length : Int) == 2) == true) then
            bif ((((elemsD (fieldD (ofBag catTwo dataTwo 0 2) 0)).length : Int) == 2) == true) then
              bif (decide (0 ≤ (1 : Int)) && decide ((1 : Int) < ((elemsD (fieldD (ofBag catTwo dataTwo 0 2) 0)).length : Int))) then
                some (dat 4 (.lit (.bool ((intD ((elemsD (fieldD (ofBag catTwo dataTwo 0 2) 0)).getD 1 .nil)) == 9))))
              else none
            else some (dat 4 (.lit (.bool false)))
          else some (dat 4 (.lit (.bool false)))
        else some (dat 4 (.lit (.bool false)))
      else some (dat 4 (.lit (.bool false)))
    else some (dat 4 (.lit (.bool false)))
  else some (dat 4 (.lit (.bool false))) := by kernel_rfl

end Go.Proofs.Ytmopepjahjmdeaa

namespace Go.Proofs.Ytmopepjahjmdeaa
open Go.Ev
set_option linter.unusedVariables false
set_option maxRecDepth 10000

def e14 : FuncId × TypeId × (List AV → Bool) × (List AV → Option D) := (14, 4, yes, ent [] (f0 (some (.lit (.bool true)))))
theorem k14 : FnOK Try.prog 14 Try.f14 := ⟨Try.func14, rfl, by kernel_rfl⟩
theorem c14 : ∀ args d, e14.2.2.2 args = some d → CallOK Try.prog 14 args (mkRes Try.prog 4 d) :=
  ent0 fun d h => by
    cases h
    refine fn_ok hm envD5 k14 ((t14 1).trans ?_)
    rw [m4]
    kernel_rfl
def D6 : Tab := e14 :: D5
theorem envD6 : EnvOK Try.prog (envR D6 [] [] []) := envOK_cons envD5 c14

end Go.Proofs.Ytmopepjahjmdeaa
