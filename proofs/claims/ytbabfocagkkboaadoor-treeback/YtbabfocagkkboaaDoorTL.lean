/- TreeBack: the text of a tree is read as it; a text that is read is its text. Proved for every world, every order, every argument that the statement takes; the tables of strconv and math/bits as the card ties them. -/
import Derived.Test.YtbabfocagkkboaaDoorTR
import Derived.Test.YtbabfocagkkboaaDoorTie
import Derived.Test.YtbabfocagkkboaaDoorCards
import Derived.WalkKit
import Derived.ProofKit
import Derived.OpenShut
import Derived.ShutString
import Derived.ChangeOld
import Derived.Below
import Derived.JoinedOf
import Derived.LaidLaws
import Derived.SevenTiedAt
import Derived.Stop.Joined
import Derived.Lib.AppendIntMem
namespace Go.Proofs.YtbabfocagkkboaaDoor
namespace X
open Go.Ev
set_option linter.unusedVariables false
/- roadbook/roadbooklaw06.TreeBack -/
def t4_h : Hints := fun _ =>  none
theorem t4 (N : Nat) (x0 : D) (x1 : List UInt8) : evFn Tryd.prog (envH SM []) t4_h N Tryd.f4 [dat 24 x0, dat 9 (.lit (.string x1))] =
  bif (decide (0 ≤ 100) && decide (100 < ((101 : Nat) : Int)) && decide (101 ≤ 101)) then
    bif ((decide ((szK 101 x0 100) > 100)) == false) then
      bif decide ((((x1).length : Nat) : Int) > 1000) then
        some (dat 4 (.lit (.bool true)))
      else bif ((!((rdIs (textT x0)) == (mayT x0))) == false) then
          bif ((rdIs (textT x0)) == true) then
            bif okT 130 (rdTree (textT x0)) then
              bif (!(eqT (rdTree (textT x0)) x0)) then
                some (dat 4 (.lit (.bool false)))
              else bif ((!(rdIs x1)) == false) then
                  bif ((mayT (rdTree x1)) == true) then
                    some (dat 4 (.lit (.bool ((textT (rdTree x1)) == x1))))
                  else some (dat 4 (.lit (.bool false)))
                else some (dat 4 (.lit (.bool true)))
            else none
          else bif ((!(rdIs x1)) == false) then
              bif ((mayT (rdTree x1)) == true) then
                some (dat 4 (.lit (.bool ((textT (rdTree x1)) == x1))))
              else some (dat 4 (.lit (.bool false)))
            else some (dat 4 (.lit (.bool true)))
        else some (dat 4 (.lit (.bool false)))
    else some (dat 4 (.lit (.bool true)))
  else none := by kernel_rfl

end X
end Go.Proofs.YtbabfocagkkboaaDoor

namespace Go.Proofs.YtbabfocagkkboaaDoor
namespace X
open Go.Ev
set_option linter.unusedVariables false
set_option linter.unusedSimpArgs false

theorem k4 : FnOK Tryd.prog 4 Tryd.f4 := ⟨Tryd.func4, rfl, by kernel_rfl⟩
theorem pre100 : (decide (0 ≤ 100) && decide (100 < ((101 : Nat) : Int)) && decide (101 ≤ 101)) = true := rfl
/-- A text that is read is its text. -/
theorem back (s : List UInt8) : (bif ((!(rdIs s)) == false) then
                  bif ((mayT (rdTree s)) == true) then
                    some (dat 4 (.lit (.bool ((textT (rdTree s)) == s))))
                  else some (dat 4 (.lit (.bool false)))
                else some (dat 4 (.lit (.bool true)))) = some (dat 4 (.lit (.bool true))) := by
  cases h : readT s with
  | none =>
    have e : rdIs s = false := by unfold rdIs; rw [h]; rfl
    rw [e]
    rfl
  | some y =>
    have e : rdIs s = true := by unfold rdIs; rw [h]; rfl
    have e2 : rdTree s = y := by unfold rdTree; rw [h]; rfl
    obtain ⟨h1, h2⟩ := read_back h
    have h3 : (s == s) = true := by simp
    rw [e, e2, h1, h2, h3]
    rfl
theorem law4 (x0 x1 : D) : CallOK Tryd.prog 4 [dat 24 x0, dat 9 x1] (dat 4 (.lit (.bool true))) := by
  refine CallOK.typed k4.ex (.inl rfl) fun hty => ?_
  obtain ⟨_, ty0⟩ := hty (dat 24 x0) (by simp)
  obtain ⟨_, ty1⟩ := hty (dat 9 x1) (by simp)
  have ty0 : Ty Tryd.prog _ 24 x0 := ty0
  have ty1 : Ty Tryd.prog _ 9 x1 := ty1
  obtain ⟨s, rfl, hs⟩ := ty9' ty1
  refine fn_ok (t := 4) (d := .lit (.bool true)) hm envSM k4 ((t4 0 x0 s).trans ?_)
  rw [m4]
  show _ = some (dat 4 (.lit (.bool true)))
  rw [pre100, cond_true, back s]
  by_cases ha : szK 101 x0 100 > 100
  · have d : decide (szK 101 x0 100 > 100) = true := by simpa using ha
    rw [d]; rfl
  · have d : decide (szK 101 x0 100 > 100) = false := by simpa using ha
    rw [d, show (false == false) = true from rfl, cond_true]
    have hok := (few_small (t := x0) (by omega)).1
    have c0 := ty_cano ty0 hok
    have o130 : okT 130 x0 = true := okT_le hok (by omega)
    cases decide (((s.length : Nat) : Int) > 1000) with
    | true => rfl
    | false =>
      cases m0 : mayT x0 with
      | true =>
        have hr := read_text c0 m0
        have e : rdIs (textT x0) = true := by unfold rdIs; rw [hr]; rfl
        have e2 : rdTree (textT x0) = x0 := by unfold rdTree; rw [hr]; rfl
        have e3 : eqT x0 x0 = true := eqK_refl 130 x0 o130
        rw [e, e2, o130, e3]
        rfl
      | false =>
        have ht : textT x0 = [] := by unfold textT; rw [m0]; rfl
        have e : rdIs (textT x0) = false := by unfold rdIs; rw [ht, read_none]; rfl
        rw [e]
        rfl
end X
end Go.Proofs.YtbabfocagkkboaaDoor

namespace Go.Proofs.YtbabfocagkkboaaDoor
open Go.Ev
open Go.ChangeShapes Go.WideShapes Go.ChangeAt Go.RowKit
set_option linter.unusedVariables false

namespace treeBackLaw

theorem own : ownKnob Tryd.prog.godebug = none := by kernel_rfl
theorem laidOut : laidOutB Tryd.prog = true := by kernel_rfl
theorem types : okTypes Tryd.prog [3, 9, 22, 24] = true := by kernel_rfl

def valsOf (d : DataW Unit) : Array Value := match d with
  | .agg l => (l.filterMap fun x => match x with | .lit (.int k z) => some (Value.int k z) | _ => none).toArray
  | _ => #[]
/-- A world in which the tables are laid. -/
noncomputable def laidWorld (os : Os) : World :=
  let w0 := World.holding Tryd.prog os ⟨#[], #[], []⟩
  let put (h : Array Obj) (g : Nat) (cs : Array Value) : Array Obj := h.modify g fun
    | .cells _ t frozen => .cells cs t frozen
    | o => o
  { w0 with heap := put (put (put w0.heap 2 (valsOf Rows.laid_internal_strconv_uint64pow10)) 0 (valsOf Rows.laid_math_bits_deBruijn32tab)) 1 (valsOf Rows.laid_math_bits_deBruijn64tab) }
theorem laid_met (os : Os) (args : Array Value) : laidMetH Tryd.prog Rows.treeBackRow.laid ((laidWorld os).forCall (fun _ _ => 0) ⟨#[], args, []⟩).memory :=
  show laidMet _ _ _ from laidMet_of_run' 8 (by kernel_rfl) (by kernel_rfl)

/-- What the row's condition gives: the tables. -/
theorem tab_of {W : World} (h : laidMetH Tryd.prog Rows.treeBackRow.laid W) : TabOn Tryd.prog (fun _ => False) W := by
  have h' : laidMet Tryd.prog [("math/bits.deBruijn32tab", Rows.laid_math_bits_deBruijn32tab), ("math/bits.deBruijn64tab", Lib.tabData .u8 deBruijn), ("internal/strconv.uint64pow10", Lib.tabData .u64 ((List.range 20).map fun i => (10 : Int) ^ i))] W := h
  obtain ⟨ps, ⟨_, _, _, _, _, _, _, _, _, _, ⟨g1, t1, cs1, fuel1, p1, q1, hg1, ht1, hvar1, hd1, ⟨g', t', cs, fuel, p, q, hg', ht', hvar, hd, _, _⟩, _⟩, _⟩, _⟩ := h'
  obtain rfl := Option.some.inj ((show Tryd.prog.globalNamed "internal/strconv.uint64pow10" = some 2 by kernel_rfl).symm.trans hg')
  obtain rfl := Option.some.inj ((show (Tryd.prog.globals[2]?).map (·.type) = some 69 by kernel_rfl).symm.trans ht')
  obtain rfl := Option.some.inj ((show Tryd.prog.globalNamed "math/bits.deBruijn64tab" = some 1 by kernel_rfl).symm.trans hg1)
  obtain rfl := Option.some.inj ((show (Tryd.prog.globals[1]?).map (·.type) = some 62 by kernel_rfl).symm.trans ht1)
  have hT : Lib.TabIs Tryd.prog W "internal/strconv.uint64pow10" .u64 ((List.range 20).map fun i => (10 : Int) ^ i) := by
    unfold Lib.TabIs
    rw [hvar, ← Lib.cells_of_tab Tryd.underlying69 Tryd.underlying60 (by kernel_rfl) (by kernel_rfl) hd]
  have hT1 : Lib.TabIs Tryd.prog W "math/bits.deBruijn64tab" .u8 deBruijn := by
    unfold Lib.TabIs
    rw [hvar1, ← Lib.cells_of_tab Tryd.underlying62 Tryd.underlying5 (by kernel_rfl) (by kernel_rfl) hd1]
  have hB := Lib.tabBelow_of_tabIs hT
  have hB1 := Lib.tabBelow_of_tabIs hT1
  intro w' hw x hx hv
  rcases List.mem_cons.1 hx with hx | hx
  · subst hx
    exact hB w' (hw.plain (fun _ h => h))
  · have hx := List.mem_singleton.1 hx
    subst hx
    exact hB1 w' (hw.plain (fun _ h => h))

set_option maxRecDepth 100000 in
theorem lifted (os : Os) (started : os.Started) (H : Type) (enc : TypeId × Value → H) :
    ReturnsInHanded {} Tryd.checked os 4 .any (fun w args => (Rows.treeBackSpec.pre enc Tryd.prog Tryd.f4 Rows.treeBackRow.domain false w args ∧ laidMetH Tryd.prog Rows.treeBackRow.laid w) ∧ sizedMet enc Tryd.prog Tryd.f4 (OpenSpec.ofChange Rows.treeBackSpec) false w args)
      (Rows.treeBackSpec.post enc Tryd.prog Tryd.f4 false true false false) := by
  refine returnsInHanded_of_change_and (C := Tryd.checked) (X := fun w _ => laidMetH Tryd.prog Rows.treeBackRow.laid w) (fun _ _ _ hh h => h.of_heap hh) own started (by kernel_rfl) Tryd.func4
    (ChangeSpec.witness_at (enc := enc) (C := Tryd.checked) (os := os) (X := fun w _ => laidMetH Tryd.prog Rows.treeBackRow.laid w) false (laidWorld os) #[.agg #[.int .i64 0, .slice none 0 0], .string ⟨#[]⟩] 8 rfl (by kernel_rfl) (by kernel_rfl) (by kernel_rfl) (by kernel_rfl) (by kernel_rfl) (laid_met os _)) ?_
  intro W base args ds gs before hval0 hW _ _ hL _
  have hval : ∀ (j : Nat) t v, Tryd.f4.params[j]? = some t → args[j]? = some v → Value.okWide Tryd.prog W .any base t v := hval0
  have hW' := hW
  obtain ⟨p, q, hA0, hV, rfl, hfz, hnd⟩ := hW
  have hA : DataW.TrodAll enc Tryd.prog W 0 (fun _ => true) true Tryd.f4.params.toList args.toList ds p := hA0
  rw [Tryd.params4] at hA hval
  obtain ⟨v0, vs0, d0, ds0, p0, q0, hargs, rfl, rfl, h0, r0⟩ := trodAll_cons hA
  obtain ⟨v1, vs1, d1, ds1, p1, q1, rfl, rfl, rfl, h1, r1⟩ := trodAll_cons r0
  obtain ⟨rfl, rfl, rfl⟩ := trodAll_nil r1
  obtain rfl : args = #[v0, v1] := by cases args; simp_all
  obtain ⟨rfl, rfl⟩ := trodVars_none hV
  have lt0 : ∀ x ∈ p0, x.block < W.heap.size := by obtain ⟨m, hm⟩ := h0; exact DataW.trod_lt m _ _ _ hm
  obtain ⟨n0, x0, ty0, rep0⟩ := arg_rep types (by decide) (hval 0 24 v0 rfl rfl) h0
  have lt1 : ∀ x ∈ p1, x.block < W.heap.size := by obtain ⟨m, hm⟩ := h1; exact DataW.trod_lt m _ _ _ hm
  obtain ⟨n1, x1, ty1, rep1⟩ := arg_rep types (by decide) (hval 1 9 v1 rfl rfl) h1
  clear hA0 hval0
  refine (calls_true Tryd.underlying4 (tab_of hL) (X.law4 x0 x1) (w := W) (vs := [v0, v1]) ⟨⟨rfl, rep0⟩, ⟨rfl, rep1⟩, trivial⟩).mono fun e W' ⟨he, bel⟩ => ?_
  subst he
  exact ⟨_, rfl, _, _, _, [], _, [], hW', trodAll_mk1 (shut_bool Tryd.underlying4 _), (trodAll_cons_mk (Below.trod laidOut (by kernel_rfl) (of_decide_eq_true (by kernel_rfl)) h0 bel lt0) (trodAll_cons_mk (Below.trod laidOut (by kernel_rfl) (of_decide_eq_true (by kernel_rfl)) h1 bel lt1) trodAll_mk0)), rfl, bel.frame _, fun h => by cases h⟩

theorem over : Rows.treeBackRow.holds Tryd.pinned (OpenSpec.ofChange Rows.treeBackSpec) :=
  OpenClaim.holds_of_wide 4 Tryd.f4 rfl rfl rfl rfl rfl rfl rfl ⟨rfl, rfl, rfl, rfl, rfl⟩ rfl rfl rfl rfl rfl (by kernel_rfl) Tryd.func4 (by kernel_rfl)
    (of_decide_eq_true (by kernel_rfl)) (by unfold Func.isWrapper; first | (rw [if_pos (by decide +kernel)]; kernel_rfl) | (rw [if_neg (by decide +kernel)]; exact ⟨rfl, rfl⟩))
    (fun os started H enc _ => lifted os started H enc)

end treeBackLaw

/-- The statement. -/
theorem treeBackProved : Rows.TreeBackCardSaid :=
  Claim7.holds_tied_plain_at .later [] [.data, .data, .data] true (true, "9bc0f571c8058ed4b83d555bdca7df4b328b4fcd7765dacf30626d61e2885453") false
    treeBackLaw.over (fun _ h => by cases h) (by kernel_rfl) (fun _ h => by cases h) treeBack_row_tie rfl ⟨rfl, rfl⟩ (by kernel_rfl) rfl
    (fun f fn hf hfn => by
      obtain rfl : f = 4 := Option.some.inj ((show Tryd.prog.funcNamed "roadbook/roadbooklaw06.TreeBack" = some 4 by kernel_rfl).symm.trans hf) |>.symm
      obtain rfl : fn = Tryd.f4 := (Option.some.inj (Tryd.func4.symm.trans hfn)).symm
      exact ⟨by kernel_rfl, fun j t ht => by
        rw [Tryd.params4] at ht
        rcases j with _ | _ | j
        · obtain rfl : t = 24 := by simpa using ht.symm
          exact (show Tryd.prog.wantsStandIn 24 = false by kernel_rfl)
        · obtain rfl : t = 9 := by simpa using ht.symm
          exact (show Tryd.prog.wantsStandIn 9 = false by kernel_rfl)
        · simp at ht⟩)
    (by kernel_rfl)

end Go.Proofs.YtbabfocagkkboaaDoor
