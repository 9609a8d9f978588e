/- DataTells: whether data fit a catalogue, and what is told of a table, are as the document says. Proved for every world, every order, every argument that the statement takes. -/
import Derived.Test.YtmopepjahjmdeaaDB
import Derived.WalkKit
import Derived.ProofKit
import Derived.OpenShut
import Derived.ShutString
import Derived.ChangeOld
import Derived.Below
namespace Go.Proofs.Ytmopepjahjmdeaa
open Go.Ev
set_option linter.unusedVariables false
/- roadbook/roadbookref04.Of -/
def t17_h : Hints := fun i => if i = 6 then some ([0, 1, 5, 6, 7, 9, 10, 13, 14, 15, 16, 17, 18, 19, 20, 21, 22, 23, 24, 25, 26, 27, 28, 29, 30, 31, 32, 33, 34, 35, 36, 37, 38, 39, 40, 41, 42, 43, 44, 45, 46, 47, 48, 49, 50, 51, 52, 53, 54, 55, 56, 57, 58, 59, 60, 61, 62, 63], [4, 8, 11, 200011], []) else none
def t17_lp6 (P : Program) (fn : Func) (N n : Nat) (x0 : D) (x1 : D) (x2 : Int) (x3 : Int) (v12 : Int) (b200011 : List D) : Option AV := evLoop (preL t17_h (sub [1, 1, 1, 1, 0, 1, 0, 0] (bodyOf fn))) (evCode P (envS (envR D4 [] [] []) [(11, 0)]) t17_h N (sub [1, 1, 1, 1, 0, 1, 0, 0] (bodyOf fn))) n ⟨[dead, dead, dat 3 (.lit (.int .i64 x2)), dat 3 (.lit (.int .i64 x3)), bxp 4 38, dead, dead, dead, bxp 8 25, dead, dead, bxp 11 25, dat 3 (.lit (.int .i64 v12)), dead, dead, dead, dead, dead, dead, dead, dead, dead, dead, dead, dead, dead, dead, dead, dead, dead, dead, dead, dead, dead, dead, dead, dead, dead, dead, dead, dead, dead, dead, dead, dead, dead, dead, dead, dead, dead, dead, dead, dead, dead, dead, dead, dead, dead, dead, dead, dead, dead, dead, dead], lookB [(4, some ⟨38, x0, 0, none⟩), (8, some ⟨25, .agg [.slice [] [], .slice [] []], 0, none⟩), (11, some ⟨25, .nil, 0, some (⟨7, 25, .agg [.slice [] [], (elemsD (fieldD x1 0)).getD (x2).toNat .nil], 0, 0, 0, [200013, 0]⟩)⟩), (200011, some ⟨22, .slice b200011 [], 1, none⟩)]⟩ (blockK 0 (seqC P (envS (envR D4 [] [] []) [(11, 0)]) t17_h N (sub [1, 1, 1, 1, 1] (bodyOf fn)) (finK P fn) ))
theorem t17_lp6_step  (N n : Nat) (x0 : D) (x1 : D) (x2 : Int) (x3 : Int) (v12 : Int) (b200011 : List D) : t17_lp6 Try.prog Try.f17 N (n + 1) x0 x1 x2 x3 v12 b200011 =
  bif (decide (0 ≤ x2) && decide (x2 < ((elemsD (fieldD x0 0)).length : Int))) then
    bif decide (v12 < (intD (fieldD ((elemsD (fieldD x0 0)).getD (x2).toNat .nil) 0))) then
      bif decide ((b200011).length + 1 ≤ 2147483648) then
        t17_lp6 Try.prog Try.f17 N n x0 x1 x2 x3 (IntKind.wrap .i64 (v12 + 1)) (b200011 ++ [.lit (.int .i64 (IntKind.wrap .i64 ((IntKind.wrap .i64 (4 * x3)) + v12)))])
      else none
    else some (tupA [25, 4] (.agg [.agg [.slice b200011 [], (elemsD (fieldD x1 0)).getD (x2).toNat .nil], .lit (.bool true)]))
  else none := by kernel_rfl
theorem t17 (N : Nat) (x0 : D) (x1 : D) (x2 : Int) (x3 : Int) : evFn Try.prog (envS (envR D4 [] [] []) [(11, 0)]) t17_h N Try.f17 [dat 38 x0, dat 41 x1, dat 3 (.lit (.int .i64 x2)), dat 3 (.lit (.int .i64 x3))] =
  bif ((!(fitsD x0 x1)) == false) then
    bif ((decide (x2 < 0)) == false) then
      bif ((decide (x2 ≥ ((elemsD (fieldD x0 0)).length : Int))) == false) then
        bif ((decide (x3 < 0)) == false) then
          bif decide (x3 > 3) then
            some (tupA [25, 4] (.agg [.agg [.slice [] [], .slice [] []], .lit (.bool false)]))
          else bif (decide (0 ≤ x2) && decide (x2 < ((elemsD (fieldD x1 0)).length : Int))) then
              t17_lp6 Try.prog Try.f17 N N x0 x1 x2 x3 0 []
            else none
        else some (tupA [25, 4] (.agg [.agg [.slice [] [], .slice [] []], .lit (.bool false)]))
      else some (tupA [25, 4] (.agg [.agg [.slice [] [], .slice [] []], .lit (.bool false)]))
    else some (tupA [25, 4] (.agg [.agg [.slice [] [], .slice [] []], .lit (.bool false)]))
  else some (tupA [25, 4] (.agg [.agg [.slice [] [], .slice [] []], .lit (.bool false)])) := by kernel_rfl

end Go.Proofs.Ytmopepjahjmdeaa

namespace Go.Proofs.Ytmopepjahjmdeaa
open Go.Ev
set_option linter.unusedVariables false
set_option maxRecDepth 10000
set_option linter.unusedSimpArgs false

theorem rof_loop {N m : Nat} {cs ts : List D} {t occ : Int} (ht : (decide (0 ≤ t) && decide (t < (cs.length : Int))) = true) (hm : intD (fieldD (cs.getD t.toNat .nil) 0) = (m : Int)) (h4 : m ≤ 4) (ho : 0 ≤ occ ∧ occ < 4) : ∀ (n i : Nat), i ≤ m → m - i < n →
    t17_lp6 Try.prog Try.f17 N n (catD cs) (catD ts) t occ (i : Int) (seenCols i occ) = some (tupA [25, 4] (.agg [.agg [.slice (seenCols m occ) [], ts.getD t.toNat .nil], .lit (.bool true)]))
  | 0, i, _, h => by omega
  | n + 1, i, hi, h => by
    rw [t17_lp6_step, tabs_cat, tabs_cat, ht, cond_true, hm, seenCols_len]
    by_cases hlt : i < m
    · have w1 : IntKind.wrap .i64 ((i : Int) + 1) = ((i + 1 : Nat) : Int) := by rw [l_wrapI (l_in (by omega) (by omega))]; omega
      have w2 : IntKind.wrap .i64 (4 * occ) = 4 * occ := l_wrapI (l_in (by omega) (by omega))
      have w3 : IntKind.wrap .i64 (4 * occ + (i : Int)) = 4 * occ + (i : Int) := l_wrapI (l_in (by omega) (by omega))
      have e1 : seenCols i occ ++ [.lit (.int .i64 (4 * occ + (i : Int)))] = seenCols (i + 1) occ := by
        unfold seenCols
        rw [List.range_succ, List.map_append]
        have : seenCol occ i = .lit (.int .i64 (4 * occ + (i : Int))) := by
          unfold seenCol
          rw [colN_in ho (by omega), Int.mul_comm]
          rfl
        rw [List.map_singleton, this]
      rw [l_lt hlt, cond_true, dT (show i + 1 ≤ 2147483648 by omega), cond_true, w1, w2, w3, e1]
      exact rof_loop ht hm h4 ho n (i + 1) (by omega) (by omega)
    · have : i = m := by omega
      rw [l_ge hlt, cond_false, this]
def e17 : FuncId × TypeId × (List AV → Bool) × (List AV → Option D) := (17, 28, yes, ent [38, 41, 3, 3] (f4 fun x y z u => some (.agg [ofBag x y (intD z) (intD u), .lit (.bool (ofOK x y (intD z) (intD u)))])))
theorem k17 : FnOK Try.prog 17 Try.f17 := ⟨Try.func17, rfl, by kernel_rfl⟩
theorem c17 : ∀ args d, e17.2.2.2 args = some d → CallOK Try.prog 17 args (mkRes Try.prog 28 d) :=
  ent4 k17 fun x y z u d h ⟨_, hx⟩ ⟨_, hy⟩ _ _ => by
    cases h
    rw [nCat, nData, n3, n3]
    obtain ⟨cs, rfl, hlc, _⟩ := tyCat hx
    obtain ⟨ts, rfl, hl, hp⟩ := tyData hy
    refine fn_ok hm (envOK_S envD4 [(11, 0)]) k17 ((t17 6 (catD cs) (catD ts) (intD z) (intD u)).trans ?_)
    rw [mTBB, tabs_cat, tabs_cat]
    generalize intD z = a
    generalize intD u = b
    have ho : ofOK (catD cs) (catD ts) a b = (fitsD (catD cs) (catD ts) && (belowB a (cs.length : Int) && belowB b 4)) := rfl
    unfold ofBag
    rw [ho]
    cases h1 : fitsD (catD cs) (catD ts) with
    | false => rfl
    | true =>
      by_cases h2 : a < 0
      · rw [dT h2, below_not.2 (show ¬ (0 ≤ a ∧ a < (cs.length : Int)) by omega)]
        rfl
      · by_cases h3 : a ≥ (cs.length : Int)
        · rw [dF h2, dT h3, below_not.2 (show ¬ (0 ≤ a ∧ a < (cs.length : Int)) by omega)]
          rfl
        · by_cases h4 : b < 0
          · rw [dF h2, dF h3, dT h4, below_iff.2 (show 0 ≤ a ∧ a < (cs.length : Int) by omega), below_not.2 (show ¬ (0 ≤ b ∧ b < 4) by omega)]
            rfl
          · by_cases h5 : b > 3
            · rw [dF h2, dF h3, dF h4, dT h5, below_iff.2 (show 0 ≤ a ∧ a < (cs.length : Int) by omega), below_not.2 (show ¬ (0 ≤ b ∧ b < 4) by omega)]
              rfl
            · obtain ⟨f1, f2, f3⟩ := fits_iff.1 h1
              have f2 : ts.length = cs.length := f2
              have hi : a.toNat < cs.length := by omega
              have hi2 : a.toNat < ts.length := by omega
              have hd := cat_def f1 hi
              obtain ⟨d1, d2, _, _⟩ := mayDef_iff.1 hd
              have hmem : ts.getD a.toNat .nil ∈ ts := by rw [l_get hi2]; exact List.getElem_mem hi2
              obtain ⟨rs, hrs, _, _⟩ := hp _ hmem
              have g0 : (decide (0 ≤ a) && decide (a < (cs.length : Int))) = true := below_iff.2 (show 0 ≤ a ∧ a < (cs.length : Int) by omega)
              have g1 : (decide (0 ≤ a) && decide (a < (ts.length : Int))) = true := below_iff.2 (show 0 ≤ a ∧ a < (ts.length : Int) by omega)
              have key := rof_loop (N := 6) (cs := cs) (ts := ts) (t := a) (occ := b) (m := (defC (cs.getD a.toNat .nil)).toNat) g0 (by show defC _ = _; omega) (by omega) (by omega) 6 0 (Nat.zero_le _) (by omega)
              have key : t17_lp6 Try.prog Try.f17 6 6 (catD cs) (catD ts) a b 0 [] = _ := key
              rw [dF h2, dF h3, dF h4, dF h5, below_iff.2 (show 0 ≤ a ∧ a < (cs.length : Int) by omega), below_iff.2 (show 0 ≤ b ∧ b < 4 by omega), g1, key]
              show some (tupA [25, 4] (.agg [.agg [.slice (seenCols (defC (cs.getD a.toNat .nil)).toNat b) [], ts.getD a.toNat .nil], .lit (.bool true)])) = some (tupA [25, 4] (.agg [.agg [.slice (seenCols (defC (cs.getD a.toNat .nil)).toNat b) [], .slice (elemsD (ts.getD a.toNat .nil)) []], .lit (.bool true)]))
              rw [hrs]
              rfl
def D8 : Tab := e17 :: D6
theorem envD8 : EnvOK Try.prog (envR D8 [] [] []) := ⟨(envOK_cons ⟨envD6.p, envD6.h, envD6.r, envD6.f⟩ c17).p, envD6.h, envD6.r, envD6.f⟩

end Go.Proofs.Ytmopepjahjmdeaa

namespace Go.Proofs.Ytmopepjahjmdeaa
open Go.Ev
set_option linter.unusedVariables false
/- roadbook/roadbooklaw04.DataTells -/
def t4_h : Hints := fun _ =>  none
theorem t4 (N : Nat) (x0 : D) (x1 : D) (x2 : Int) (x3 : Int) (x4 : Int) : evFn Try.prog (envR D8 [] [] []) t4_h N Try.f4 [dat 38 x0, dat 41 x1, dat 3 (.lit (.int .i64 x2)), dat 3 (.lit (.int .i64 x3)), dat 3 (.lit (.int .i64 x4))] =
  bif ((!(fewData x1)) == false) then
    bif decide (((elemsD (fieldD x0 0)).length : Int) > 10) then
      some (dat 4 (.lit (.bool true)))
    else bif decide ((elemsD (fieldD x0 0)).length ≤ 2147483648) then
        bif ((likeB (ofBag x0 x1 x2 x3) (ofBag x0 x1 x2 x3)) == true) then
          bif (((ofOK x0 x1 x2 x3) == (ofOK x0 x1 x2 x3)) == true) then
            bif ((sameCat (newCat (elemsD (fieldD x0 0))) (newCat (elemsD (fieldD x0 0)))) == true) then
              bif (((mayCat (catD (elemsD (fieldD x0 0)))) == (mayCat (catD (elemsD (fieldD x0 0))))) == true) then
                bif (((splitA x4) == (splitA x4)) == true) then
                  bif (((splitB x4) == (splitB x4)) == true) then
                    bif (((belowB x4 16) == (belowB x4 16)) == true) then
                      bif (((mayCat x0) == (mayCat x0)) == true) then
                        bif (((fitsD x0 x1) == (fitsD x0 x1)) == true) then
                          some (dat 4 (.lit (.bool ((colN x3 x2) == (colN x3 x2)))))
                        else some (dat 4 (.lit (.bool false)))
                      else some (dat 4 (.lit (.bool false)))
                    else some (dat 4 (.lit (.bool false)))
                  else some (dat 4 (.lit (.bool false)))
                else some (dat 4 (.lit (.bool false)))
              else some (dat 4 (.lit (.bool false)))
            else some (dat 4 (.lit (.bool false)))
          else some (dat 4 (.lit (.bool false)))
        else some (dat 4 (.lit (.bool false)))
      else none
  else some (dat 4 (.lit (.bool true))) := by kernel_rfl

end Go.Proofs.Ytmopepjahjmdeaa

namespace Go.Proofs.Ytmopepjahjmdeaa
open Go.Ev
set_option linter.unusedVariables false
set_option maxRecDepth 10000
set_option linter.unusedSimpArgs false

theorem same_refl (c : D) : sameCat c c = true := by unfold sameCat; simp
theorem k4 : FnOK Try.prog 4 Try.f4 := ⟨Try.func4, rfl, by kernel_rfl⟩
theorem law4 {n2 n3 n4 : Nat} (x0 x1 : D) {x2 x3 x4 : D} (h2 : Ty Try.prog n2 3 x2) (h3 : Ty Try.prog n3 3 x3) (h4 : Ty Try.prog n4 3 x4) :
    CallOK Try.prog 4 [dat 38 x0, dat 41 x1, dat 3 x2, dat 3 x3, dat 3 x4] (dat 4 (.lit (.bool true))) := by
  obtain ⟨t, rfl, _⟩ := ty3' h2
  obtain ⟨a, rfl, _⟩ := ty3' h3
  obtain ⟨b, rfl, _⟩ := ty3' h4
  have e0 : (dat 4 (.lit (.bool true)) : AV) = mkRes Try.prog 4 (.lit (.bool true)) := (m4 (.lit (.bool true))).symm
  rw [e0]
  refine fn_ok hm envD8 k4 ((t4 1 x0 x1 t a b).trans ?_)
  rw [← e0]
  cases q1 : fewData x1 with
  | false => rfl
  | true =>
    by_cases q2 : ((elemsD (fieldD x0 0)).length : Int) > 10
    · rw [dT q2]
      rfl
    · rw [dF q2, dT (show (elemsD (fieldD x0 0)).length ≤ 2147483648 by omega), like_refl, same_refl]
      simp only [beq_self_eq_true, cond_true, cond_false, Bool.not_true]

end Go.Proofs.Ytmopepjahjmdeaa

namespace Go.Proofs.Ytmopepjahjmdeaa
open Go.Ev
open Go.ChangeShapes Go.WideShapes Go.ChangeAt Go.RowKit
set_option linter.unusedVariables false

namespace dataTellsLaw

theorem own : ownKnob Try.prog.godebug = none := by kernel_rfl
theorem laidOut : laidOutB Try.prog = true := by kernel_rfl
theorem types : okTypes Try.prog [3, 23, 32, 34, 36, 38, 39, 41, 85] = true := by kernel_rfl

set_option maxRecDepth 100000 in
theorem lifted (os : Os) (started : os.Started) (H : Type) (enc : TypeId × Value → H) :
    ReturnsInHanded {} Try.checked os 4 .any (Rows.dataTellsSpec.pre6 enc Try.prog Try.f4 Rows.dataTellsRow.domain false) (Rows.dataTellsSpec.post enc Try.prog Try.f4 false true false false) := by
  refine returnsInHanded_of_change (C := Try.checked) own started (by kernel_rfl) Try.func4
    (ChangeSpec.witness6 (enc := enc) (C := Try.checked) false ⟨#[], #[.agg #[.slice none 0 0], .agg #[.slice none 0 0], .int .i64 0, .int .i64 0, .int .i64 0], []⟩ 8 (by kernel_rfl) (by kernel_rfl) (by kernel_rfl) (by kernel_rfl)) ?_
  intro W base args ds gs before hval0 hW hcnd _
  have hval : ∀ (j : Nat) t v, Try.f4.params[j]? = some t → args[j]? = some v → Value.okWide Try.prog W .any base t v := hval0
  have hW' := hW
  obtain ⟨p, q, hA0, hV, rfl, hfz, hnd⟩ := hW
  have hA : DataW.TrodAll enc Try.prog W 0 (fun _ => true) true Try.f4.params.toList args.toList ds p := hA0
  rw [Try.params4] at hA hval
  obtain ⟨v0, vs0, d0, ds0, p0, q0, hargs, rfl, rfl, h0, r0⟩ := trodAll_cons hA
  obtain ⟨v1, vs1, d1, ds1, p1, q1, rfl, rfl, rfl, h1, r1⟩ := trodAll_cons r0
  obtain ⟨v2, vs2, d2, ds2, p2, q2, rfl, rfl, rfl, h2, r2⟩ := trodAll_cons r1
  obtain ⟨v3, vs3, d3, ds3, p3, q3, rfl, rfl, rfl, h3, r3⟩ := trodAll_cons r2
  obtain ⟨v4, vs4, d4, ds4, p4, q4, rfl, rfl, rfl, h4, r4⟩ := trodAll_cons r3
  obtain ⟨rfl, rfl, rfl⟩ := trodAll_nil r4
  obtain rfl : args = #[v0, v1, v2, v3, v4] := by cases args; simp_all
  obtain ⟨rfl, rfl⟩ := trodVars_none hV
  have lt0 : ∀ x ∈ p0, x.block < W.heap.size := by obtain ⟨m, hm⟩ := h0; exact DataW.trod_lt m _ _ _ hm
  obtain ⟨n0, x0, ty0, rep0⟩ := arg_rep types (by decide) (hval 0 38 v0 rfl rfl) h0
  have lt1 : ∀ x ∈ p1, x.block < W.heap.size := by obtain ⟨m, hm⟩ := h1; exact DataW.trod_lt m _ _ _ hm
  obtain ⟨n1, x1, ty1, rep1⟩ := arg_rep types (by decide) (hval 1 41 v1 rfl rfl) h1
  have lt2 : ∀ x ∈ p2, x.block < W.heap.size := by obtain ⟨m, hm⟩ := h2; exact DataW.trod_lt m _ _ _ hm
  obtain ⟨n2, x2, ty2, rep2⟩ := arg_rep types (by decide) (hval 2 3 v2 rfl rfl) h2
  have lt3 : ∀ x ∈ p3, x.block < W.heap.size := by obtain ⟨m, hm⟩ := h3; exact DataW.trod_lt m _ _ _ hm
  obtain ⟨n3, x3, ty3, rep3⟩ := arg_rep types (by decide) (hval 3 3 v3 rfl rfl) h3
  have lt4 : ∀ x ∈ p4, x.block < W.heap.size := by obtain ⟨m, hm⟩ := h4; exact DataW.trod_lt m _ _ _ hm
  obtain ⟨n4, x4, ty4, rep4⟩ := arg_rep types (by decide) (hval 4 3 v4 rfl rfl) h4
  clear hA0 hval0
  refine (calls_true Try.underlying4 (law4 x0 x1 ty2 ty3 ty4) (w := W) (vs := [v0, v1, v2, v3, v4]) ⟨⟨rfl, rep0⟩, ⟨rfl, rep1⟩, ⟨rfl, rep2⟩, ⟨rfl, rep3⟩, ⟨rfl, rep4⟩, trivial⟩).mono fun e W' ⟨he, bel⟩ => ?_
  subst he
  exact ⟨_, rfl, _, _, _, [], _, [], hW', trodAll_mk1 (shut_bool Try.underlying4 _), (trodAll_cons_mk (Below.trod laidOut (by kernel_rfl) (of_decide_eq_true (by kernel_rfl)) h0 bel lt0) (trodAll_cons_mk (Below.trod laidOut (by kernel_rfl) (of_decide_eq_true (by kernel_rfl)) h1 bel lt1) (trodAll_cons_mk (Below.trod laidOut (by kernel_rfl) (of_decide_eq_true (by kernel_rfl)) h2 bel lt2) (trodAll_cons_mk (Below.trod laidOut (by kernel_rfl) (of_decide_eq_true (by kernel_rfl)) h3 bel lt3) (trodAll_cons_mk (Below.trod laidOut (by kernel_rfl) (of_decide_eq_true (by kernel_rfl)) h4 bel lt4) trodAll_mk0))))), rfl, bel.frame _, fun h => by cases h⟩

theorem over : Rows.dataTellsRow.holds Try.pinned (OpenSpec.ofChange Rows.dataTellsSpec) :=
  OpenClaim.holds_of_wide 4 Try.f4 rfl rfl rfl rfl rfl rfl rfl ⟨rfl, rfl, rfl, rfl, rfl⟩ rfl rfl rfl rfl rfl (by kernel_rfl) Try.func4 (by kernel_rfl)
    (of_decide_eq_true (by kernel_rfl)) (by unfold Func.isWrapper; first | (rw [if_pos (by decide +kernel)]; kernel_rfl) | (rw [if_neg (by decide +kernel)]; exact ⟨rfl, rfl⟩))
    (fun os started H enc _ => lifted os started H enc)

end dataTellsLaw

/-- The statement. -/
theorem dataTellsProved : Rows.DataTellsSaid := dataTellsLaw.over

end Go.Proofs.Ytmopepjahjmdeaa
