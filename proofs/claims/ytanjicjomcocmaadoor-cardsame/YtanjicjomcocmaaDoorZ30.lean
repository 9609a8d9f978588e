/- CardSame: occurrences that a query has not add no rows to a set; in another order of its expressions a set has the same rows; an empty set has one. Proved for every world, every order, every argument that the statement takes; the table of divisors as the card ties it. -/
import Derived.Test.YtanjicjomcocmaaDoorZ29
import Derived.Test.YtanjicjomcocmaaDoorTie
import Derived.Test.YtanjicjomcocmaaDoorCards
import Derived.WalkKit
import Derived.ProofKit
import Derived.OpenShut
import Derived.ShutString
import Derived.ChangeOld
import Derived.Below
import Derived.JoinedOf
import Derived.LaidLaws
import Derived.SevenTiedAt
import Derived.Stop.Joined
namespace Go.Proofs.YtanjicjomcocmaaDoor
open Go.Ev
open Go.ChangeShapes Go.WideShapes Go.ChangeAt Go.RowKit
set_option linter.unusedVariables false
namespace cardSameLaw

theorem own : ownKnob Tryd.prog.godebug = none := by kernel_rfl
theorem laidOut : laidOutB Tryd.prog = true := by kernel_rfl
theorem types : okTypes Tryd.prog [3, 22, 26, 28, 29, 31, 38, 40, 43] = true := by kernel_rfl

def valsOf (d : DataW Unit) : Array Value := match d with
 | .agg l => (l.filterMap fun x => match x with | .lit (.int k z) => some (Value.int k z) | _ => none).toArray
 | _ => #[]
/-- A world in which the table is laid. -/
noncomputable def laidWorld (os : Os) : World :=
 let w0 := World.holding Tryd.prog os ⟨#[], #[], []⟩
 let put (h : Array Obj) (g : Nat) (cs : Array Value) : Array Obj := h.modify g fun
  | .cells _ t frozen => .cells cs t frozen
  | o => o
 { w0 with heap := put w0.heap 0 (valsOf Rows.laid_roadbook_card_divisors) }
theorem laid_met (os : Os) (args : Array Value) : laidMetH Tryd.prog Rows.cardSameRow.laid ((laidWorld os).forCall (fun _ _ => 0) ⟨#[], args, []⟩).memory :=
 show laidMet _ _ _ from laidMet_of_run' 8 (by kernel_rfl) (by kernel_rfl)

/-- What the row's condition gives: the table. -/
theorem tab_of {W : World} (h : laidMetH Tryd.prog Rows.cardSameRow.laid W) : TabOn Tryd.prog (fun _ => False) W := by
 have h' : laidMet Tryd.prog [("roadbook/card.divisors", Lib.tabData .i64 [10, 3])] W := h
 obtain ⟨ps, ⟨g', t', cs, fuel, p, q, hg', ht', hvar, hd, _, _⟩, _⟩ := h'
 obtain rfl := Option.some.inj ((show Tryd.prog.globalNamed "roadbook/card.divisors" = some 0 by kernel_rfl).symm.trans hg')
 obtain rfl := Option.some.inj ((show (Tryd.prog.globals[0]?).map (·.type) = some 65 by kernel_rfl).symm.trans ht')
 have hT : Lib.TabIs Tryd.prog W "roadbook/card.divisors" .i64 [10, 3] := by
  unfold Lib.TabIs
  rw [hvar, <- Lib.cells_of_tab Tryd.underlying65 Tryd.underlying3 (by kernel_rfl) (by kernel_rfl) hd]
 have no0 : hasVar Tryd.prog "internal/strconv.uint64pow10" = false := by kernel_rfl
 have no1 : hasVar Tryd.prog "math/bits.deBruijn64tab" = false := by kernel_rfl
 intro w' hw x hx hv
 rcases List.mem_cons.1 hx with hx | hx
 ·subst hx
  rw [no0] at hv
  cases hv
 rcases List.mem_cons.1 hx with hx | hx
 ·subst hx
  rw [no1] at hv
  cases hv
 ·have hx := List.mem_singleton.1 hx
  subst hx
  exact tab_keep hT hw

set_option maxRecDepth 100000 in
theorem lifted (os : Os) (started : os.Started) (H : Type) (enc : TypeId × Value -> H) :
  ReturnsInHanded {} Tryd.checked os 7 .any (fun w args => (Rows.cardSameSpec.pre enc Tryd.prog Tryd.f7 Rows.cardSameRow.domain false w args /\ laidMetH Tryd.prog Rows.cardSameRow.laid w) /\ sizedMet enc Tryd.prog Tryd.f7 (OpenSpec.ofChange Rows.cardSameSpec) false w args)
   (Rows.cardSameSpec.post enc Tryd.prog Tryd.f7 false true false false) := by
 refine returnsInHanded_of_change_and (C := Tryd.checked) (X := fun w _ => laidMetH Tryd.prog Rows.cardSameRow.laid w) (fun _ _ _ hh h => h.of_heap hh) own started (by kernel_rfl) Tryd.func7
  (ChangeSpec.witness_at (enc := enc) (C := Tryd.checked) (os := os) (X := fun w _ => laidMetH Tryd.prog Rows.cardSameRow.laid w) false (laidWorld os) #[.agg #[.slice none 0 0], .agg #[.slice none 0 0, .slice none 0 0, .int .i64 0, .slice none 0 0, .slice none 0 0, .int .i64 0], .int .i64 0] 8 rfl (by kernel_rfl) (by kernel_rfl) (by kernel_rfl) (by kernel_rfl) (by kernel_rfl) (laid_met os _)) ?_
 intro W base args ds gs before hval0 hW _ hwt hL _
 have hval : ∀ (j : Nat) t v, Tryd.f7.params[j]? = some t -> args[j]? = some v -> Value.okWide Tryd.prog W .any base t v := hval0
 have hW' := hW
 obtain ⟨p, q, hA0, hV, rfl, hfz, hnd⟩ := hW
 have hA : DataW.TrodAll enc Tryd.prog W 0 (fun _ => true) true Tryd.f7.params.toList args.toList ds p := hA0
 rw [Tryd.params7] at hA hval
 obtain ⟨v0, vs0, d0, ds0, p0, q0, hargs, rfl, rfl, h0, r0⟩ := trodAll_cons hA
 obtain ⟨v1, vs1, d1, ds1, p1, q1, rfl, rfl, rfl, h1, r1⟩ := trodAll_cons r0
 obtain ⟨v2, vs2, d2, ds2, p2, q2, rfl, rfl, rfl, h2, r2⟩ := trodAll_cons r1
 obtain ⟨rfl, rfl, rfl⟩ := trodAll_nil r2
 obtain rfl : args = #[v0, v1, v2] := by cases args; simp_all
 obtain ⟨rfl, rfl⟩ := trodVars_none hV
 have lt0 : ∀ x ∈ p0, x.block < W.heap.size := by obtain ⟨m, hm⟩ := h0; exact DataW.trod_lt m _ _ _ hm
 obtain ⟨n0, x0, ty0, rep0⟩ := arg_rep types (by decide) (hval 0 28 v0 rfl rfl) h0
 have lt1 : ∀ x ∈ p1, x.block < W.heap.size := by obtain ⟨m, hm⟩ := h1; exact DataW.trod_lt m _ _ _ hm
 obtain ⟨n1, x1, ty1, rep1⟩ := arg_rep types (by decide) (hval 1 31 v1 rfl rfl) h1
 have lt2 : ∀ x ∈ p2, x.block < W.heap.size := by obtain ⟨m, hm⟩ := h2; exact DataW.trod_lt m _ _ _ hm
 obtain ⟨n2, x2, ty2, rep2⟩ := arg_rep types (by decide) (hval 2 3 v2 rfl rfl) h2
 clear hA0 hval0
 refine (calls_true Tryd.underlying4 (tab_of hL) (X.lawSame ty0 ty1 ty2) (w := W) (vs := [v0, v1, v2]) ⟨⟨rfl, rep0⟩, ⟨rfl, rep1⟩, ⟨rfl, rep2⟩, trivial⟩).mono fun e W' ⟨he, bel⟩ => ?_
 subst he
 exact ⟨_, rfl, _, _, _, [], _, [], hW', trodAll_mk1 (shut_bool Tryd.underlying4 _), (trodAll_cons_mk (Below.trod laidOut (by kernel_rfl) (of_decide_eq_true (by kernel_rfl)) h0 bel lt0) (trodAll_cons_mk (Below.trod laidOut (by kernel_rfl) (of_decide_eq_true (by kernel_rfl)) h1 bel lt1) (trodAll_cons_mk (Below.trod laidOut (by kernel_rfl) (of_decide_eq_true (by kernel_rfl)) h2 bel lt2) trodAll_mk0))), rfl, bel.frame _, fun h => by cases h⟩

theorem over : Rows.cardSameRow.holds Tryd.pinned (OpenSpec.ofChange Rows.cardSameSpec) :=
 OpenClaim.holds_of_wide 7 Tryd.f7 rfl rfl rfl rfl rfl rfl rfl ⟨rfl, rfl, rfl, rfl, rfl⟩ rfl rfl rfl rfl rfl (by kernel_rfl) Tryd.func7 (by kernel_rfl)
  (of_decide_eq_true (by kernel_rfl)) (by unfold Func.isWrapper; first | (rw [if_pos (by decide +kernel)]; kernel_rfl) | (rw [if_neg (by decide +kernel)]; exact ⟨rfl, rfl⟩))
  (fun os started H enc _ => lifted os started H enc)

end cardSameLaw

/-- The statement. -/
theorem cardSameProved : Rows.CardSameCardSaid :=
 Claim7.holds_tied_plain_at .later [] [.data] true (true, "685869e5f82d2cc47215f61ca47398a24cc92af6500dc7e99f82491b16b8817b") false
  cardSameLaw.over (fun _ h => by cases h) (by kernel_rfl) (fun _ h => by cases h) cardSame_row_tie rfl ⟨rfl, rfl⟩ (by kernel_rfl) rfl
  (fun f fn hf hfn => by
   obtain rfl : f = 7 := Option.some.inj ((show Tryd.prog.funcNamed "roadbook/roadbooklaw09.CardSame" = some 7 by kernel_rfl).symm.trans hf) |>.symm
   obtain rfl : fn = Tryd.f7 := (Option.some.inj (Tryd.func7.symm.trans hfn)).symm
   exact ⟨by kernel_rfl, fun j t ht => by
    rw [Tryd.params7] at ht
    rcases j with _ | _ | _ | j
    ·obtain rfl : t = 28 := by simpa using ht.symm
     exact (show Tryd.prog.wantsStandIn 28 = false by kernel_rfl)
    ·obtain rfl : t = 31 := by simpa using ht.symm
     exact (show Tryd.prog.wantsStandIn 31 = false by kernel_rfl)
    ·obtain rfl : t = 3 := by simpa using ht.symm
     exact (show Tryd.prog.wantsStandIn 3 = false by kernel_rfl)
    ·simp at ht⟩)
  (by kernel_rfl)
end Go.Proofs.YtanjicjomcocmaaDoor
