/- TreeTells: any tree may be, or not, has the set, and the text; any text is read, any set has all trees, as the document says. Proved for every world, every order, every argument that the statement takes; the tables of strconv and math/bits as the card ties them. -/
import Derived.Test.YtbabfocagkkboaaDoorTW
import Derived.Test.YtbabfocagkkboaaDoorTie
import Derived.Test.YtbabfocagkkboaaDoorCards
import Derived.WalkKit
import Derived.ProofKit
import Derived.OpenShut
import Derived.ShutString
import Derived.ChangeOld
import Derived.Below
import Derived.JoinedOf
import Derived.LaidLaws
import Derived.SevenTiedAt
import Derived.Stop.Joined
import Derived.Lib.AppendIntMem
namespace Go.Proofs.YtbabfocagkkboaaDoor
namespace X
open Go.Ev
set_option linter.unusedVariables false
set_option linter.unusedSimpArgs false

theorem k3 : FnOK Tryd.prog 3 Tryd.f3 := ⟨Tryd.func3, rfl, by kernel_rfl⟩
theorem pre100 : (decide (0 ≤ 100) && decide (100 < ((101 : Nat) : Int)) && decide (101 ≤ 101)) = true := rfl
theorem law3 (x0 x1 x2 x3 : D) : CallOK Tryd.prog 3 [dat 24 x0, dat 24 x1, dat 9 x2, dat 3 x3] (dat 4 (.lit (.bool true))) := by
  refine CallOK.typed k3.ex (.inl rfl) fun hty => ?_
  obtain ⟨_, ty2⟩ := hty (dat 9 x2) (by simp)
  obtain ⟨_, ty3⟩ := hty (dat 3 x3) (by simp)
  have ty2 : Ty Tryd.prog _ 9 x2 := ty2
  have ty3 : Ty Tryd.prog _ 3 x3 := ty3
  obtain ⟨s, rfl, hs⟩ := ty9' ty2
  obtain ⟨z, rfl, hz⟩ := ty3' ty3
  refine fn_ok (t := 4) (d := .lit (.bool true)) hm envST k3 ((t3 0 x0 x1 s z).trans ?_)
  rw [m4]
  show _ = some (dat 4 (.lit (.bool true)))
  rw [pre100]
  by_cases ha : szK 101 x0 100 > 100
  · have d : decide (szK 101 x0 100 > 100) = true := by simpa using ha
    rw [d]; rfl
  · have d : decide (szK 101 x0 100 > 100) = false := by simpa using ha
    by_cases hb : szK 101 x1 100 > 100
    · have d1 : decide (szK 101 x1 100 > 100) = true := by simpa using hb
      rw [d, d1]; rfl
    · have d1 : decide (szK 101 x1 100 > 100) = false := by simpa using hb
      have o0 := (few_small (t := x0) (by omega)).1
      have o1 := (few_small (t := x1) (by omega)).1
      have s0 : smT x0 = true := few_smT (by omega)
      have s1 : smT x1 = true := few_smT (by omega)
      have q0 : okT 130 x0 = true := okT_le o0 (by omega)
      have qn : okT 130 (nodeD [x0, x1]) = true := by
        rw [okT_succ]
        show (okT 129 x0 && (okT 129 x1 && true)) = true
        rw [okT_le o0 (by omega : 101 ≤ 129), okT_le o1 (by omega : 101 ≤ 129)]
        rfl
      have r1 := eqK_refl 130 _ (rd_ok s)
      have r2 := eqK_refl 130 _ (first_ok z)
      have r3 := eqK_refl 130 _ qn
      have r1 : eqT (rdTree s) (rdTree s) = true := r1
      have r2 : eqT (firstD z) (firstD z) = true := r2
      have r3 : eqT (nodeD [x0, x1]) (nodeD [x0, x1]) = true := r3
      have ql : okT 130 (leafD z) = true := rfl
      have r4 : eqT (leafD z) (.agg [.lit (.int .i64 z), .slice [] []]) = true := eqK_refl 130 (leafD z) ql
      have r5 := lists_refl (all_deep z)
      have b1 : ∀ b : Bool, (b == b) = true := fun b => by cases b <;> rfl
      have b2 : (setT x0 == setT x0) = true := by simp
      have b3 : (textT x0 == textT x0) = true := by simp
      rw [d, d1, b1 (mayT x0), b2, b3, s0, s1, q0, rd_ok s, r1, b1 (rdIs s), first_ok z, r2, ql, b1 (eqT x0 x1), r4, qn, r3, all_deep z, r5]
      cases decide (((s.length : Nat) : Int) > 1000) <;> rfl
end X
end Go.Proofs.YtbabfocagkkboaaDoor

namespace Go.Proofs.YtbabfocagkkboaaDoor
open Go.Ev
open Go.ChangeShapes Go.WideShapes Go.ChangeAt Go.RowKit
set_option linter.unusedVariables false

namespace treeTellsLaw

theorem own : ownKnob Tryd.prog.godebug = none := by kernel_rfl
theorem laidOut : laidOutB Tryd.prog = true := by kernel_rfl
theorem types : okTypes Tryd.prog [3, 9, 22, 24] = true := by kernel_rfl

def valsOf (d : DataW Unit) : Array Value := match d with
  | .agg l => (l.filterMap fun x => match x with | .lit (.int k z) => some (Value.int k z) | _ => none).toArray
  | _ => #[]
/-- A world in which the tables are laid. -/
noncomputable def laidWorld (os : Os) : World :=
  let w0 := World.holding Tryd.prog os ⟨#[], #[], []⟩
  let put (h : Array Obj) (g : Nat) (cs : Array Value) : Array Obj := h.modify g fun
    | .cells _ t frozen => .cells cs t frozen
    | o => o
  { w0 with heap := put (put (put w0.heap 2 (valsOf Rows.laid_internal_strconv_uint64pow10)) 0 (valsOf Rows.laid_math_bits_deBruijn32tab)) 1 (valsOf Rows.laid_math_bits_deBruijn64tab) }
theorem laid_met (os : Os) (args : Array Value) : laidMetH Tryd.prog Rows.treeTellsRow.laid ((laidWorld os).forCall (fun _ _ => 0) ⟨#[], args, []⟩).memory :=
  show laidMet _ _ _ from laidMet_of_run' 8 (by kernel_rfl) (by kernel_rfl)

/-- What the row's condition gives: the tables. -/
theorem tab_of {W : World} (h : laidMetH Tryd.prog Rows.treeTellsRow.laid W) : TabOn Tryd.prog (fun _ => False) W := by
  have h' : laidMet Tryd.prog [("math/bits.deBruijn32tab", Rows.laid_math_bits_deBruijn32tab), ("math/bits.deBruijn64tab", Lib.tabData .u8 deBruijn), ("internal/strconv.uint64pow10", Lib.tabData .u64 ((List.range 20).map fun i => (10 : Int) ^ i))] W := h
  obtain ⟨ps, ⟨_, _, _, _, _, _, _, _, _, _, ⟨g1, t1, cs1, fuel1, p1, q1, hg1, ht1, hvar1, hd1, ⟨g', t', cs, fuel, p, q, hg', ht', hvar, hd, _, _⟩, _⟩, _⟩, _⟩ := h'
  obtain rfl := Option.some.inj ((show Tryd.prog.globalNamed "internal/strconv.uint64pow10" = some 2 by kernel_rfl).symm.trans hg')
  obtain rfl := Option.some.inj ((show (Tryd.prog.globals[2]?).map (·.type) = some 69 by kernel_rfl).symm.trans ht')
  obtain rfl := Option.some.inj ((show Tryd.prog.globalNamed "math/bits.deBruijn64tab" = some 1 by kernel_rfl).symm.trans hg1)
  obtain rfl := Option.some.inj ((show (Tryd.prog.globals[1]?).map (·.type) = some 62 by kernel_rfl).symm.trans ht1)
  have hT : Lib.TabIs Tryd.prog W "internal/strconv.uint64pow10" .u64 ((List.range 20).map fun i => (10 : Int) ^ i) := by
    unfold Lib.TabIs
    rw [hvar, ← Lib.cells_of_tab Tryd.underlying69 Tryd.underlying60 (by kernel_rfl) (by kernel_rfl) hd]
  have hT1 : Lib.TabIs Tryd.prog W "math/bits.deBruijn64tab" .u8 deBruijn := by
    unfold Lib.TabIs
    rw [hvar1, ← Lib.cells_of_tab Tryd.underlying62 Tryd.underlying5 (by kernel_rfl) (by kernel_rfl) hd1]
  have hB := Lib.tabBelow_of_tabIs hT
  have hB1 := Lib.tabBelow_of_tabIs hT1
  intro w' hw x hx hv
  rcases List.mem_cons.1 hx with hx | hx
  · subst hx
    exact hB w' (hw.plain (fun _ h => h))
  · have hx := List.mem_singleton.1 hx
    subst hx
    exact hB1 w' (hw.plain (fun _ h => h))

set_option maxRecDepth 100000 in
theorem lifted (os : Os) (started : os.Started) (H : Type) (enc : TypeId × Value → H) :
    ReturnsInHanded {} Tryd.checked os 3 .any (fun w args => (Rows.treeTellsSpec.pre enc Tryd.prog Tryd.f3 Rows.treeTellsRow.domain false w args ∧ laidMetH Tryd.prog Rows.treeTellsRow.laid w) ∧ sizedMet enc Tryd.prog Tryd.f3 (OpenSpec.ofChange Rows.treeTellsSpec) false w args)
      (Rows.treeTellsSpec.post enc Tryd.prog Tryd.f3 false true false false) := by
  refine returnsInHanded_of_change_and (C := Tryd.checked) (X := fun w _ => laidMetH Tryd.prog Rows.treeTellsRow.laid w) (fun _ _ _ hh h => h.of_heap hh) own started (by kernel_rfl) Tryd.func3
    (ChangeSpec.witness_at (enc := enc) (C := Tryd.checked) (os := os) (X := fun w _ => laidMetH Tryd.prog Rows.treeTellsRow.laid w) false (laidWorld os) #[.agg #[.int .i64 0, .slice none 0 0], .agg #[.int .i64 0, .slice none 0 0], .string ⟨#[]⟩, .int .i64 0] 8 rfl (by kernel_rfl) (by kernel_rfl) (by kernel_rfl) (by kernel_rfl) (by kernel_rfl) (laid_met os _)) ?_
  intro W base args ds gs before hval0 hW _ _ hL _
  have hval : ∀ (j : Nat) t v, Tryd.f3.params[j]? = some t → args[j]? = some v → Value.okWide Tryd.prog W .any base t v := hval0
  have hW' := hW
  obtain ⟨p, q, hA0, hV, rfl, hfz, hnd⟩ := hW
  have hA : DataW.TrodAll enc Tryd.prog W 0 (fun _ => true) true Tryd.f3.params.toList args.toList ds p := hA0
  rw [Tryd.params3] at hA hval
  obtain ⟨v0, vs0, d0, ds0, p0, q0, hargs, rfl, rfl, h0, r0⟩ := trodAll_cons hA
  obtain ⟨v1, vs1, d1, ds1, p1, q1, rfl, rfl, rfl, h1, r1⟩ := trodAll_cons r0
  obtain ⟨v2, vs2, d2, ds2, p2, q2, rfl, rfl, rfl, h2, r2⟩ := trodAll_cons r1
  obtain ⟨v3, vs3, d3, ds3, p3, q3, rfl, rfl, rfl, h3, r3⟩ := trodAll_cons r2
  obtain ⟨rfl, rfl, rfl⟩ := trodAll_nil r3
  obtain rfl : args = #[v0, v1, v2, v3] := by cases args; simp_all
  obtain ⟨rfl, rfl⟩ := trodVars_none hV
  have lt0 : ∀ x ∈ p0, x.block < W.heap.size := by obtain ⟨m, hm⟩ := h0; exact DataW.trod_lt m _ _ _ hm
  obtain ⟨n0, x0, ty0, rep0⟩ := arg_rep types (by decide) (hval 0 24 v0 rfl rfl) h0
  have lt1 : ∀ x ∈ p1, x.block < W.heap.size := by obtain ⟨m, hm⟩ := h1; exact DataW.trod_lt m _ _ _ hm
  obtain ⟨n1, x1, ty1, rep1⟩ := arg_rep types (by decide) (hval 1 24 v1 rfl rfl) h1
  have lt2 : ∀ x ∈ p2, x.block < W.heap.size := by obtain ⟨m, hm⟩ := h2; exact DataW.trod_lt m _ _ _ hm
  obtain ⟨n2, x2, ty2, rep2⟩ := arg_rep types (by decide) (hval 2 9 v2 rfl rfl) h2
  have lt3 : ∀ x ∈ p3, x.block < W.heap.size := by obtain ⟨m, hm⟩ := h3; exact DataW.trod_lt m _ _ _ hm
  obtain ⟨n3, x3, ty3, rep3⟩ := arg_rep types (by decide) (hval 3 3 v3 rfl rfl) h3
  clear hA0 hval0
  refine (calls_true Tryd.underlying4 (tab_of hL) (X.law3 x0 x1 x2 x3) (w := W) (vs := [v0, v1, v2, v3]) ⟨⟨rfl, rep0⟩, ⟨rfl, rep1⟩, ⟨rfl, rep2⟩, ⟨rfl, rep3⟩, trivial⟩).mono fun e W' ⟨he, bel⟩ => ?_
  subst he
  exact ⟨_, rfl, _, _, _, [], _, [], hW', trodAll_mk1 (shut_bool Tryd.underlying4 _), (trodAll_cons_mk (Below.trod laidOut (by kernel_rfl) (of_decide_eq_true (by kernel_rfl)) h0 bel lt0) (trodAll_cons_mk (Below.trod laidOut (by kernel_rfl) (of_decide_eq_true (by kernel_rfl)) h1 bel lt1) (trodAll_cons_mk (Below.trod laidOut (by kernel_rfl) (of_decide_eq_true (by kernel_rfl)) h2 bel lt2) (trodAll_cons_mk (Below.trod laidOut (by kernel_rfl) (of_decide_eq_true (by kernel_rfl)) h3 bel lt3) trodAll_mk0)))), rfl, bel.frame _, fun h => by cases h⟩

theorem over : Rows.treeTellsRow.holds Tryd.pinned (OpenSpec.ofChange Rows.treeTellsSpec) :=
  OpenClaim.holds_of_wide 3 Tryd.f3 rfl rfl rfl rfl rfl rfl rfl ⟨rfl, rfl, rfl, rfl, rfl⟩ rfl rfl rfl rfl rfl (by kernel_rfl) Tryd.func3 (by kernel_rfl)
    (of_decide_eq_true (by kernel_rfl)) (by unfold Func.isWrapper; first | (rw [if_pos (by decide +kernel)]; kernel_rfl) | (rw [if_neg (by decide +kernel)]; exact ⟨rfl, rfl⟩))
    (fun os started H enc _ => lifted os started H enc)

end treeTellsLaw

/-- The statement. -/
theorem treeTellsProved : Rows.TreeTellsCardSaid :=
  Claim7.holds_tied_plain_at .later [] [.data, .data, .data] true (true, "9bc0f571c8058ed4b83d555bdca7df4b328b4fcd7765dacf30626d61e2885453") false
    treeTellsLaw.over (fun _ h => by cases h) (by kernel_rfl) (fun _ h => by cases h) treeTells_row_tie rfl ⟨rfl, rfl⟩ (by kernel_rfl) rfl
    (fun f fn hf hfn => by
      obtain rfl : f = 3 := Option.some.inj ((show Tryd.prog.funcNamed "roadbook/roadbooklaw06.TreeTells" = some 3 by kernel_rfl).symm.trans hf) |>.symm
      obtain rfl : fn = Tryd.f3 := (Option.some.inj (Tryd.func3.symm.trans hfn)).symm
      exact ⟨by kernel_rfl, fun j t ht => by
        rw [Tryd.params3] at ht
        rcases j with _ | _ | _ | _ | j
        · obtain rfl : t = 24 := by simpa using ht.symm
          exact (show Tryd.prog.wantsStandIn 24 = false by kernel_rfl)
        · obtain rfl : t = 24 := by simpa using ht.symm
          exact (show Tryd.prog.wantsStandIn 24 = false by kernel_rfl)
        · obtain rfl : t = 9 := by simpa using ht.symm
          exact (show Tryd.prog.wantsStandIn 9 = false by kernel_rfl)
        · obtain rfl : t = 3 := by simpa using ht.symm
          exact (show Tryd.prog.wantsStandIn 3 = false by kernel_rfl)
        · simp at ht⟩)
    (by kernel_rfl)

end Go.Proofs.YtbabfocagkkboaaDoor
