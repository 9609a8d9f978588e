/- TreeParts: each of two trees of one that may be may be, and their sets are apart, and together its own; a tree of n occurrences has a text of 3n - 2 signs. Proved for every world, every order, every argument that the statement takes; the tables of strconv and math/bits as the card ties them. -/
import Derived.Test.YtbabfocagkkboaaDoorTR
import Derived.Test.YtbabfocagkkboaaDoorTie
import Derived.Test.YtbabfocagkkboaaDoorCards
import Derived.WalkKit
import Derived.ProofKit
import Derived.OpenShut
import Derived.ShutString
import Derived.ChangeOld
import Derived.Below
import Derived.JoinedOf
import Derived.LaidLaws
import Derived.SevenTiedAt
import Derived.Stop.Joined
import Derived.Lib.AppendIntMem
namespace Go.Proofs.YtbabfocagkkboaaDoor
namespace X
open Go.Ev
set_option linter.unusedVariables false
/- roadbook/roadbooklaw06.TreeParts -/
def t7_h : Hints := fun _ =>  none
theorem t7 (N : Nat) (x0 : D) : evFn Tryd.prog (envH SN []) t7_h N Tryd.f7 [dat 24 x0] =
  bif (decide (0 ≤ 100) && decide (100 < ((101 : Nat) : Int)) && decide (101 ≤ 101)) then
    bif ((decide ((szK 101 x0 100) > 100)) == false) then
      bif (!(mayT x0)) then
        some (dat 4 (.lit (.bool true)))
      else bif (((((textT x0).length : Nat) : Int) != (IntKind.wrap .i64 ((IntKind.wrap .i64 (3 * (((lvK 4 x0).1).length : Int))) - 2))) == false) then
          bif ((decide ((((lvK 4 x0).1).length : Int) < 1)) == false) then
            bif decide ((((lvK 4 x0).1).length : Int) > 4) then
              some (dat 4 (.lit (.bool false)))
            else bif (((elemsD (fieldD x0 1)).length : Int) == 0) then
                bif smT x0 then
                  some (dat 4 (.lit (.bool (eqT x0 (leafD (intD (fieldD x0 0)))))))
                else none
              else bif (decide (0 ≤ (0 : Int)) && decide ((0 : Int) < ((elemsD (fieldD x0 1)).length : Int))) then
                  bif (decide (0 ≤ (1 : Int)) && decide ((1 : Int) < ((elemsD (fieldD x0 1)).length : Int))) then
                    bif ((decide ((setT ((elemsD (fieldD x0 1)).getD 0 .nil)) > 0)) == true) then
                      bif ((decide ((setT ((elemsD (fieldD x0 1)).getD 1 .nil)) > 0)) == true) then
                        bif (((andI .i64 (setT ((elemsD (fieldD x0 1)).getD 0 .nil)) (setT ((elemsD (fieldD x0 1)).getD 1 .nil))) == 0) == true) then
                          bif (((orI .i64 (setT ((elemsD (fieldD x0 1)).getD 0 .nil)) (setT ((elemsD (fieldD x0 1)).getD 1 .nil))) == (setT x0)) == true) then
                            bif (decide (0 ≤ (0 : Int)) && decide ((0 : Int) < ((elemsD (fieldD x0 1)).length : Int))) then
                              bif (decide (0 ≤ (1 : Int)) && decide ((1 : Int) < ((elemsD (fieldD x0 1)).length : Int))) then
                                bif (smT ((elemsD (fieldD x0 1)).getD 0 .nil) && smT ((elemsD (fieldD x0 1)).getD 1 .nil)) then
                                  bif smT x0 then
                                    some (dat 4 (.lit (.bool (eqT x0 (nodeD [(elemsD (fieldD x0 1)).getD 0 .nil, (elemsD (fieldD x0 1)).getD 1 .nil])))))
                                  else none
                                else none
                              else none
                            else none
                          else some (dat 4 (.lit (.bool false)))
                        else some (dat 4 (.lit (.bool false)))
                      else some (dat 4 (.lit (.bool false)))
                    else some (dat 4 (.lit (.bool false)))
                  else none
                else none
          else some (dat 4 (.lit (.bool false)))
        else some (dat 4 (.lit (.bool false)))
    else some (dat 4 (.lit (.bool true)))
  else none := by kernel_rfl

end X
end Go.Proofs.YtbabfocagkkboaaDoor

namespace Go.Proofs.YtbabfocagkkboaaDoor
namespace X
open Go.Ev
set_option linter.unusedVariables false
set_option linter.unusedSimpArgs false

theorem k7 : FnOK Tryd.prog 7 Tryd.f7 := ⟨Tryd.func7, rfl, by kernel_rfl⟩
theorem pre100 : (decide (0 ≤ 100) && decide (100 < ((101 : Nat) : Int)) && decide (101 ≤ 101)) = true := rfl
theorem kid_small {t y : D} (h : szK 101 t 100 ≤ 100) (hy : y ∈ tkids t) : smT y = true := by
  obtain ⟨h1, h2⟩ := few_small h
  unfold smT smK
  rw [Bool.and_eq_true, decide_eq_true_eq]
  rw [okT_succ, List.all_eq_true] at h1
  refine ⟨okT_le (h1 y hy) (by omega), ?_⟩
  have h3 : szT 129 y + 1 ≤ szT 130 t := sz_kid hy
  have h4 : szT 130 y = szT 129 y := by rw [szT_le y (h1 y hy) (by omega : 100 ≤ 130), szT_le y (h1 y hy) (by omega : 100 ≤ 129)]
  omega
theorem law7 (x0 : D) : CallOK Tryd.prog 7 [dat 24 x0] (dat 4 (.lit (.bool true))) := by
  refine CallOK.typed k7.ex (.inl rfl) fun hty => ?_
  obtain ⟨_, ty0⟩ := hty (dat 24 x0) (by simp)
  have ty0 : Ty Tryd.prog _ 24 x0 := ty0
  refine fn_ok (t := 4) (d := .lit (.bool true)) hm envSN k7 ((t7 0 x0).trans ?_)
  rw [m4]
  show _ = some (dat 4 (.lit (.bool true)))
  rw [pre100, cond_true]
  by_cases ha : szK 101 x0 100 > 100
  · have d : decide (szK 101 x0 100 > 100) = true := by simpa using ha
    rw [d]; rfl
  · have d : decide (szK 101 x0 100 > 100) = false := by simpa using ha
    rw [d, show (false == false) = true from rfl, cond_true]
    have hok := (few_small (t := x0) (by omega)).1
    have c0 := ty_cano ty0 hok
    have sa := few_smT (t := x0) (by omega)
    cases m0 : mayT x0 with
    | false => rfl
    | true =>
      have hs : setK (3 + 1) x0 ≠ 0 := by simpa [mayT, setT] using m0
      have ht : textT x0 = textK 4 x0 := by unfold textT; rw [m0]; rfl
      have h3 := text_len3 4 _ x0 c0 hs
      have hp := lv_pop 4 _ x0 c0 hs
      have p4 := pop_le (setK_in 4 x0)
      have p1 := (b4 (setK_in 4 x0) (setK_in 4 x0)).one hs
      have w1 : IntKind.wrap .i64 (3 * (((lvK 4 x0).1).length : Int)) = 3 * (((lvK 4 x0).1).length : Int) := wrap_in (by rw [inR_iff]; omega)
      have w2 : IntKind.wrap .i64 (3 * (((lvK 4 x0).1).length : Int) - 2) = 3 * (((lvK 4 x0).1).length : Int) - 2 := wrap_in (by rw [inR_iff]; omega)
      have e1 : ((((textT x0).length : Nat) : Int) != 3 * (((lvK 4 x0).1).length : Int) - 2) = false := by
        rw [ht, bne_eq_false_iff_eq]; omega
      have e2 : decide ((((lvK 4 x0).1).length : Int) < 1) = false := by rw [decide_eq_false_iff_not]; omega
      have e3 : decide ((((lvK 4 x0).1).length : Int) > 4) = false := by rw [decide_eq_false_iff_not]; omega
      rw [w1, w2, e1, e2, e3, sa, show elemsD (fieldD x0 1) = tkids x0 from rfl, show intD (fieldD x0 0) = tocc x0 from rfl]
      rcases may_shape c0 hs with ⟨m, rfl, hm'⟩ | ⟨a, b, i, rfl, hi, ca, cb, s1, s2, hand, hor⟩
      · have er : eqT (leafD m) (leafD m) = true := eqT_refl sa
        show some (dat 4 (.lit (.bool (eqT (leafD m) (leafD m))))) = _
        rw [er]
      · have ka := kid_small (t := nodeD [a, b]) (y := a) (by omega) (by show a ∈ [a, b]; simp)
        have kb := kid_small (t := nodeD [a, b]) (y := b) (by omega) (by show b ∈ [a, b]; simp)
        have ea : setT a = setK 3 a := setK_mono 3 a s1
        have eb : setT b = setK 3 b := setK_mono 3 b s2
        have ia := (setK_in 3 a).1
        have ib := (setK_in 3 b).1
        have g1 : decide (setT a > 0) = true := by rw [decide_eq_true_eq, ea]; omega
        have g2 : decide (setT b > 0) = true := by rw [decide_eq_true_eq, eb]; omega
        have g3 : (andI .i64 (setT a) (setT b) == 0) = true := by rw [ea, eb, hand]; rfl
        have g4 : (orI .i64 (setT a) (setT b) == setT (nodeD [a, b])) = true := by
          rw [ea, eb, ← hor]
          show (setK 4 (nodeD [a, b]) == setK 4 (nodeD [a, b])) = true
          simp
        have er : eqT (nodeD [a, b]) (nodeD [a, b]) = true := eqT_refl sa
        show (bif ((decide (setT a > 0)) == true) then (bif ((decide (setT b > 0)) == true) then (bif ((andI .i64 (setT a) (setT b) == 0) == true) then (bif ((orI .i64 (setT a) (setT b) == setT (nodeD [a, b])) == true) then (bif (smT a && smT b) then some (dat 4 (.lit (.bool (eqT (nodeD [a, b]) (nodeD [a, b]))))) else none) else _) else _) else _) else _) = _
        rw [g1, g2, g3, g4, ka, kb, er]
        rfl
end X
end Go.Proofs.YtbabfocagkkboaaDoor

namespace Go.Proofs.YtbabfocagkkboaaDoor
open Go.Ev
open Go.ChangeShapes Go.WideShapes Go.ChangeAt Go.RowKit
set_option linter.unusedVariables false

namespace treePartsLaw

theorem own : ownKnob Tryd.prog.godebug = none := by kernel_rfl
theorem laidOut : laidOutB Tryd.prog = true := by kernel_rfl
theorem types : okTypes Tryd.prog [3, 22, 24] = true := by kernel_rfl

def valsOf (d : DataW Unit) : Array Value := match d with
  | .agg l => (l.filterMap fun x => match x with | .lit (.int k z) => some (Value.int k z) | _ => none).toArray
  | _ => #[]
/-- A world in which the tables are laid. -/
noncomputable def laidWorld (os : Os) : World :=
  let w0 := World.holding Tryd.prog os ⟨#[], #[], []⟩
  let put (h : Array Obj) (g : Nat) (cs : Array Value) : Array Obj := h.modify g fun
    | .cells _ t frozen => .cells cs t frozen
    | o => o
  { w0 with heap := put (put (put w0.heap 2 (valsOf Rows.laid_internal_strconv_uint64pow10)) 0 (valsOf Rows.laid_math_bits_deBruijn32tab)) 1 (valsOf Rows.laid_math_bits_deBruijn64tab) }
theorem laid_met (os : Os) (args : Array Value) : laidMetH Tryd.prog Rows.treePartsRow.laid ((laidWorld os).forCall (fun _ _ => 0) ⟨#[], args, []⟩).memory :=
  show laidMet _ _ _ from laidMet_of_run' 8 (by kernel_rfl) (by kernel_rfl)

/-- What the row's condition gives: the tables. -/
theorem tab_of {W : World} (h : laidMetH Tryd.prog Rows.treePartsRow.laid W) : TabOn Tryd.prog (fun _ => False) W := by
  have h' : laidMet Tryd.prog [("math/bits.deBruijn32tab", Rows.laid_math_bits_deBruijn32tab), ("math/bits.deBruijn64tab", Lib.tabData .u8 deBruijn), ("internal/strconv.uint64pow10", Lib.tabData .u64 ((List.range 20).map fun i => (10 : Int) ^ i))] W := h
  obtain ⟨ps, ⟨_, _, _, _, _, _, _, _, _, _, ⟨g1, t1, cs1, fuel1, p1, q1, hg1, ht1, hvar1, hd1, ⟨g', t', cs, fuel, p, q, hg', ht', hvar, hd, _, _⟩, _⟩, _⟩, _⟩ := h'
  obtain rfl := Option.some.inj ((show Tryd.prog.globalNamed "internal/strconv.uint64pow10" = some 2 by kernel_rfl).symm.trans hg')
  obtain rfl := Option.some.inj ((show (Tryd.prog.globals[2]?).map (·.type) = some 69 by kernel_rfl).symm.trans ht')
  obtain rfl := Option.some.inj ((show Tryd.prog.globalNamed "math/bits.deBruijn64tab" = some 1 by kernel_rfl).symm.trans hg1)
  obtain rfl := Option.some.inj ((show (Tryd.prog.globals[1]?).map (·.type) = some 62 by kernel_rfl).symm.trans ht1)
  have hT : Lib.TabIs Tryd.prog W "internal/strconv.uint64pow10" .u64 ((List.range 20).map fun i => (10 : Int) ^ i) := by
    unfold Lib.TabIs
    rw [hvar, ← Lib.cells_of_tab Tryd.underlying69 Tryd.underlying60 (by kernel_rfl) (by kernel_rfl) hd]
  have hT1 : Lib.TabIs Tryd.prog W "math/bits.deBruijn64tab" .u8 deBruijn := by
    unfold Lib.TabIs
    rw [hvar1, ← Lib.cells_of_tab Tryd.underlying62 Tryd.underlying5 (by kernel_rfl) (by kernel_rfl) hd1]
  have hB := Lib.tabBelow_of_tabIs hT
  have hB1 := Lib.tabBelow_of_tabIs hT1
  intro w' hw x hx hv
  rcases List.mem_cons.1 hx with hx | hx
  · subst hx
    exact hB w' (hw.plain (fun _ h => h))
  · have hx := List.mem_singleton.1 hx
    subst hx
    exact hB1 w' (hw.plain (fun _ h => h))

set_option maxRecDepth 100000 in
theorem lifted (os : Os) (started : os.Started) (H : Type) (enc : TypeId × Value → H) :
    ReturnsInHanded {} Tryd.checked os 7 .any (fun w args => (Rows.treePartsSpec.pre enc Tryd.prog Tryd.f7 Rows.treePartsRow.domain false w args ∧ laidMetH Tryd.prog Rows.treePartsRow.laid w) ∧ sizedMet enc Tryd.prog Tryd.f7 (OpenSpec.ofChange Rows.treePartsSpec) false w args)
      (Rows.treePartsSpec.post enc Tryd.prog Tryd.f7 false true false false) := by
  refine returnsInHanded_of_change_and (C := Tryd.checked) (X := fun w _ => laidMetH Tryd.prog Rows.treePartsRow.laid w) (fun _ _ _ hh h => h.of_heap hh) own started (by kernel_rfl) Tryd.func7
    (ChangeSpec.witness_at (enc := enc) (C := Tryd.checked) (os := os) (X := fun w _ => laidMetH Tryd.prog Rows.treePartsRow.laid w) false (laidWorld os) #[.agg #[.int .i64 0, .slice none 0 0]] 8 rfl (by kernel_rfl) (by kernel_rfl) (by kernel_rfl) (by kernel_rfl) (by kernel_rfl) (laid_met os _)) ?_
  intro W base args ds gs before hval0 hW _ _ hL _
  have hval : ∀ (j : Nat) t v, Tryd.f7.params[j]? = some t → args[j]? = some v → Value.okWide Tryd.prog W .any base t v := hval0
  have hW' := hW
  obtain ⟨p, q, hA0, hV, rfl, hfz, hnd⟩ := hW
  have hA : DataW.TrodAll enc Tryd.prog W 0 (fun _ => true) true Tryd.f7.params.toList args.toList ds p := hA0
  rw [Tryd.params7] at hA hval
  obtain ⟨v0, vs0, d0, ds0, p0, q0, hargs, rfl, rfl, h0, r0⟩ := trodAll_cons hA
  obtain ⟨rfl, rfl, rfl⟩ := trodAll_nil r0
  obtain rfl : args = #[v0] := by cases args; simp_all
  obtain ⟨rfl, rfl⟩ := trodVars_none hV
  have lt0 : ∀ x ∈ p0, x.block < W.heap.size := by obtain ⟨m, hm⟩ := h0; exact DataW.trod_lt m _ _ _ hm
  obtain ⟨n0, x0, ty0, rep0⟩ := arg_rep types (by decide) (hval 0 24 v0 rfl rfl) h0
  clear hA0 hval0
  refine (calls_true Tryd.underlying4 (tab_of hL) (X.law7 x0) (w := W) (vs := [v0]) ⟨⟨rfl, rep0⟩, trivial⟩).mono fun e W' ⟨he, bel⟩ => ?_
  subst he
  exact ⟨_, rfl, _, _, _, [], _, [], hW', trodAll_mk1 (shut_bool Tryd.underlying4 _), (trodAll_cons_mk (Below.trod laidOut (by kernel_rfl) (of_decide_eq_true (by kernel_rfl)) h0 bel lt0) trodAll_mk0), rfl, bel.frame _, fun h => by cases h⟩

theorem over : Rows.treePartsRow.holds Tryd.pinned (OpenSpec.ofChange Rows.treePartsSpec) :=
  OpenClaim.holds_of_wide 7 Tryd.f7 rfl rfl rfl rfl rfl rfl rfl ⟨rfl, rfl, rfl, rfl, rfl⟩ rfl rfl rfl rfl rfl (by kernel_rfl) Tryd.func7 (by kernel_rfl)
    (of_decide_eq_true (by kernel_rfl)) (by unfold Func.isWrapper; first | (rw [if_pos (by decide +kernel)]; kernel_rfl) | (rw [if_neg (by decide +kernel)]; exact ⟨rfl, rfl⟩))
    (fun os started H enc _ => lifted os started H enc)

end treePartsLaw

/-- The statement. -/
theorem treePartsProved : Rows.TreePartsCardSaid :=
  Claim7.holds_tied_plain_at .later [] [.data, .data, .data] true (true, "9bc0f571c8058ed4b83d555bdca7df4b328b4fcd7765dacf30626d61e2885453") false
    treePartsLaw.over (fun _ h => by cases h) (by kernel_rfl) (fun _ h => by cases h) treeParts_row_tie rfl ⟨rfl, rfl⟩ (by kernel_rfl) rfl
    (fun f fn hf hfn => by
      obtain rfl : f = 7 := Option.some.inj ((show Tryd.prog.funcNamed "roadbook/roadbooklaw06.TreeParts" = some 7 by kernel_rfl).symm.trans hf) |>.symm
      obtain rfl : fn = Tryd.f7 := (Option.some.inj (Tryd.func7.symm.trans hfn)).symm
      exact ⟨by kernel_rfl, fun j t ht => by
        rw [Tryd.params7] at ht
        rcases j with _ | j
        · obtain rfl : t = 24 := by simpa using ht.symm
          exact (show Tryd.prog.wantsStandIn 24 = false by kernel_rfl)
        · simp at ht⟩)
    (by kernel_rfl)

end Go.Proofs.YtbabfocagkkboaaDoor
