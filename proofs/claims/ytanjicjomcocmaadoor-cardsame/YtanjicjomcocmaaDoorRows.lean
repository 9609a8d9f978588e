/-
  NARROWER THAN 'FOR EVERY INPUT', by the rows' own cells (each row's printed sentence says how): CardTimes: laid · CardSets: loops, laid · CardLess: loops, laid · CardOne: loops, laid · CardSame: loops, laid.
  DERIVED. THE GIVEN ROWS OF THIS SEAT. 5 by the template 'for every input the law returns true; each argument reads behind the call as it read before'; 0 by the template 'total and deterministic' (their statements: YtanjicjomcocmaaDoorTotals.lean).
  GIVEN WITH THE SEED: the statements are not yours to turn. If you find one false, say at which input.
  Laid BY PROGRAM, IN A SANDBOX (cutbox-rows.mjs): the forced cells as the released guide's own fill.sh prints them over the translation 46ce866be0df5cb2… (all of the seat's roots in one cut). By AI agents, Wed Nov 11 2026. No macro, syntax, notation, axiom, sorry.
-/
import Derived.Test.YtanjicjomcocmaaDoorChecked
import GoSem.Claim
import GoSem.ClaimJoined
import GoSem.ClaimMapViews
import Derived.JoinedTies
import Derived.KernelRfl
namespace Go.Proofs.YtanjicjomcocmaaDoor
/- THE CELL 'sum', in the pinned program and in every row, IS THE sha256 OF THE DUMP (.gsa) THAT YtanjicjomcocmaaDoorProg.lean LOADS. Nothing in Lean hashes anything: it is a label: what it is worth is what the hold of that sum in a sandbox is worth. -/
noncomputable def Tryd.pinned : Pinned := { name := "ytanjicjomcocmaadoor", sum := "46ce866be0df5cb2246b84f58d752e25f68894ad5866bfd1c4d49f9bf5990deb", checked := Tryd.checked }
namespace Rows
def none {H : Type} : Left H := { results := [], args := [] }

/- WHAT THE LISTED PACKAGE-LEVEL VARIABLES READ AS WHEN THE CALL BEGINS. Each datum BY PROGRAM (the guide's laid-datum.mjs) off the statement by which the dump's own 'gosem.cut.vars' lays the variable. In a bare row this is a premise. The card (YtanjicjomcocmaaDoorCards.lean) ties it to the program's text. -/
def laid_roadbook_card_divisors {H : Type} : DataW H := .agg [.lit (.int .i64 10), .lit (.int .i64 3)]

/-- 'roadbooklaw09.CardTimes': WHATEVER THE INPUT: true; the input reads as it did. -/
def cardTimesSpec : ChangeSpec := { name := "cardTimes", fn := fun _ => fun
  | [d1, d2] => { results := [.lit (.bool true)], args := [d1, d2] }
  | _ => none }
def cardTimesRow : OpenClaim := { program := "ytanjicjomcocmaadoor", sum := "46ce866be0df5cb2246b84f58d752e25f68894ad5866bfd1c4d49f9bf5990deb", func := "roadbook/roadbooklaw09.CardTimes", spec := "cardTimes", unfollowed := true, recurses := true, named := ["roadbook/card.divisors"], apart := false, laid := [("roadbook/card.divisors", laid_roadbook_card_divisors)] }
def CardTimesSaid : Prop := cardTimesRow.holds Tryd.pinned (OpenSpec.ofChange cardTimesSpec)

/-- ITS FALSE NEIGHBOUR: 'it returns false'. Refute it at one input. -/
def cardTimesWrong : ChangeSpec := { name := "cardTimes", fn := fun _ => fun
  | [d1, d2] => { results := [.lit (.bool false)], args := [d1, d2] }
  | _ => none }
def CardTimesWrongFalsely : Prop := cardTimesRow.holds Tryd.pinned (OpenSpec.ofChange cardTimesWrong)

/-- 'roadbooklaw09.CardSets': WHATEVER THE INPUT: true; the input reads as it did. -/
def cardSetsSpec : ChangeSpec := { name := "cardSets", fn := fun _ => fun
  | [d1, d2, d3, d4] => { results := [.lit (.bool true)], args := [d1, d2, d3, d4] }
  | _ => none }
def cardSetsRow : OpenClaim := { program := "ytanjicjomcocmaadoor", sum := "46ce866be0df5cb2246b84f58d752e25f68894ad5866bfd1c4d49f9bf5990deb", func := "roadbook/roadbooklaw09.CardSets", spec := "cardSets", unfollowed := true, recurses := true, named := ["roadbook/card.divisors"], loops := true, apart := false, laid := [("roadbook/card.divisors", laid_roadbook_card_divisors)] }
def CardSetsSaid : Prop := cardSetsRow.holds Tryd.pinned (OpenSpec.ofChange cardSetsSpec)

/-- ITS FALSE NEIGHBOUR: 'it returns false'. Refute it at one input. -/
def cardSetsWrong : ChangeSpec := { name := "cardSets", fn := fun _ => fun
  | [d1, d2, d3, d4] => { results := [.lit (.bool false)], args := [d1, d2, d3, d4] }
  | _ => none }
def CardSetsWrongFalsely : Prop := cardSetsRow.holds Tryd.pinned (OpenSpec.ofChange cardSetsWrong)

/-- 'roadbooklaw09.CardLess': WHATEVER THE INPUT: true; the input reads as it did. -/
def cardLessSpec : ChangeSpec := { name := "cardLess", fn := fun _ => fun
  | [d1, d2, d3, d4] => { results := [.lit (.bool true)], args := [d1, d2, d3, d4] }
  | _ => none }
def cardLessRow : OpenClaim := { program := "ytanjicjomcocmaadoor", sum := "46ce866be0df5cb2246b84f58d752e25f68894ad5866bfd1c4d49f9bf5990deb", func := "roadbook/roadbooklaw09.CardLess", spec := "cardLess", unfollowed := true, recurses := true, named := ["roadbook/card.divisors"], loops := true, apart := false, laid := [("roadbook/card.divisors", laid_roadbook_card_divisors)] }
def CardLessSaid : Prop := cardLessRow.holds Tryd.pinned (OpenSpec.ofChange cardLessSpec)

/-- ITS FALSE NEIGHBOUR: 'it returns false'. Refute it at one input. -/
def cardLessWrong : ChangeSpec := { name := "cardLess", fn := fun _ => fun
  | [d1, d2, d3, d4] => { results := [.lit (.bool false)], args := [d1, d2, d3, d4] }
  | _ => none }
def CardLessWrongFalsely : Prop := cardLessRow.holds Tryd.pinned (OpenSpec.ofChange cardLessWrong)

/-- 'roadbooklaw09.CardOne': WHATEVER THE INPUT: true; the input reads as it did. -/
def cardOneSpec : ChangeSpec := { name := "cardOne", fn := fun _ => fun
  | [d1, d2, d3, d4, d5] => { results := [.lit (.bool true)], args := [d1, d2, d3, d4, d5] }
  | _ => none }
def cardOneRow : OpenClaim := { program := "ytanjicjomcocmaadoor", sum := "46ce866be0df5cb2246b84f58d752e25f68894ad5866bfd1c4d49f9bf5990deb", func := "roadbook/roadbooklaw09.CardOne", spec := "cardOne", unfollowed := true, recurses := true, named := ["roadbook/card.divisors"], loops := true, apart := false, laid := [("roadbook/card.divisors", laid_roadbook_card_divisors)] }
def CardOneSaid : Prop := cardOneRow.holds Tryd.pinned (OpenSpec.ofChange cardOneSpec)

/-- ITS FALSE NEIGHBOUR: 'it returns false'. Refute it at one input. -/
def cardOneWrong : ChangeSpec := { name := "cardOne", fn := fun _ => fun
  | [d1, d2, d3, d4, d5] => { results := [.lit (.bool false)], args := [d1, d2, d3, d4, d5] }
  | _ => none }
def CardOneWrongFalsely : Prop := cardOneRow.holds Tryd.pinned (OpenSpec.ofChange cardOneWrong)

/-- 'roadbooklaw09.CardSame': WHATEVER THE INPUT: true; the input reads as it did. -/
def cardSameSpec : ChangeSpec := { name := "cardSame", fn := fun _ => fun
  | [d1, d2, d3] => { results := [.lit (.bool true)], args := [d1, d2, d3] }
  | _ => none }
def cardSameRow : OpenClaim := { program := "ytanjicjomcocmaadoor", sum := "46ce866be0df5cb2246b84f58d752e25f68894ad5866bfd1c4d49f9bf5990deb", func := "roadbook/roadbooklaw09.CardSame", spec := "cardSame", unfollowed := true, recurses := true, named := ["roadbook/card.divisors"], loops := true, apart := false, laid := [("roadbook/card.divisors", laid_roadbook_card_divisors)] }
def CardSameSaid : Prop := cardSameRow.holds Tryd.pinned (OpenSpec.ofChange cardSameSpec)

/-- ITS FALSE NEIGHBOUR: 'it returns false'. Refute it at one input. -/
def cardSameWrong : ChangeSpec := { name := "cardSame", fn := fun _ => fun
  | [d1, d2, d3] => { results := [.lit (.bool false)], args := [d1, d2, d3] }
  | _ => none }
def CardSameWrongFalsely : Prop := cardSameRow.holds Tryd.pinned (OpenSpec.ofChange cardSameWrong)

/- THE SECOND FORM. 'bulk': how many values and letters a reading holds, each counted each time it is reached (what is shared counts as often as it is met; a slice's spare places count too). A statement '..UptoSaid' is the law's where the arguments, and the package variables that the reading takes, are together of bulk at most 1048576: NARROWER than '..Said'. Prove '..Said' where nothing that the law and all that it calls make is longer than what came in: it says more and counts as full. Else prove '..UptoSaid'. A law counts once. -/
mutual
def uptoBulk {H : Type} : DataW H → Nat
  | .lit (.string bytes) => bytes.length + 1
  | .lit _ => 1
  | .nil => 1
  | .ptr d => uptoBulk d + 1
  | .slice elems spare => uptoBulkAll elems + uptoBulkAll spare + 1
  | .agg parts => uptoBulkAll parts + 1
  | .iface _ d => uptoBulk d + 1
  | .map entries => uptoBulkEntries entries + 1
  | .held _ => 1
def uptoBulkAll {H : Type} : List (DataW H) → Nat
  | [] => 0
  | d :: r => uptoBulk d + uptoBulkAll r
def uptoBulkEntries {H : Type} : List (Lit × DataW H) → Nat
  | [] => 0
  | x :: r => uptoBulkEntry x + uptoBulkEntries r
def uptoBulkEntry {H : Type} : Lit × DataW H → Nat
  | (.string bytes, d) => bytes.length + uptoBulk d + 1
  | (_, d) => uptoBulk d + 1
 end
def uptoSmall : (H : Type) → List (DataW H) → Bool := fun _ ds => decide (uptoBulkAll ds ≤ 1048576)
def OpenSpec.upto (s : _root_.Go.ChangeSpec) : _root_.Go.OpenSpec := { _root_.Go.OpenSpec.ofChange s with cond := some uptoSmall }

/-- 'roadbooklaw09.CardTimes', WHERE WHAT IT READS IS OF BULK AT MOST 1048576: true; the input reads as it did. -/
def cardTimesUptoRow : OpenClaim := { program := "ytanjicjomcocmaadoor", sum := "46ce866be0df5cb2246b84f58d752e25f68894ad5866bfd1c4d49f9bf5990deb", func := "roadbook/roadbooklaw09.CardTimes", spec := "cardTimes", unfollowed := true, recurses := true, named := ["roadbook/card.divisors"], apart := false, laid := [("roadbook/card.divisors", laid_roadbook_card_divisors)], narrowed := true }
def CardTimesUptoSaid : Prop := cardTimesUptoRow.holds Tryd.pinned (OpenSpec.upto cardTimesSpec)

/-- 'roadbooklaw09.CardSets', WHERE WHAT IT READS IS OF BULK AT MOST 1048576: true; the input reads as it did. -/
def cardSetsUptoRow : OpenClaim := { program := "ytanjicjomcocmaadoor", sum := "46ce866be0df5cb2246b84f58d752e25f68894ad5866bfd1c4d49f9bf5990deb", func := "roadbook/roadbooklaw09.CardSets", spec := "cardSets", unfollowed := true, recurses := true, named := ["roadbook/card.divisors"], loops := true, apart := false, laid := [("roadbook/card.divisors", laid_roadbook_card_divisors)], narrowed := true }
def CardSetsUptoSaid : Prop := cardSetsUptoRow.holds Tryd.pinned (OpenSpec.upto cardSetsSpec)

/-- 'roadbooklaw09.CardLess', WHERE WHAT IT READS IS OF BULK AT MOST 1048576: true; the input reads as it did. -/
def cardLessUptoRow : OpenClaim := { program := "ytanjicjomcocmaadoor", sum := "46ce866be0df5cb2246b84f58d752e25f68894ad5866bfd1c4d49f9bf5990deb", func := "roadbook/roadbooklaw09.CardLess", spec := "cardLess", unfollowed := true, recurses := true, named := ["roadbook/card.divisors"], loops := true, apart := false, laid := [("roadbook/card.divisors", laid_roadbook_card_divisors)], narrowed := true }
def CardLessUptoSaid : Prop := cardLessUptoRow.holds Tryd.pinned (OpenSpec.upto cardLessSpec)

/-- 'roadbooklaw09.CardOne', WHERE WHAT IT READS IS OF BULK AT MOST 1048576: true; the input reads as it did. -/
def cardOneUptoRow : OpenClaim := { program := "ytanjicjomcocmaadoor", sum := "46ce866be0df5cb2246b84f58d752e25f68894ad5866bfd1c4d49f9bf5990deb", func := "roadbook/roadbooklaw09.CardOne", spec := "cardOne", unfollowed := true, recurses := true, named := ["roadbook/card.divisors"], loops := true, apart := false, laid := [("roadbook/card.divisors", laid_roadbook_card_divisors)], narrowed := true }
def CardOneUptoSaid : Prop := cardOneUptoRow.holds Tryd.pinned (OpenSpec.upto cardOneSpec)

/-- 'roadbooklaw09.CardSame', WHERE WHAT IT READS IS OF BULK AT MOST 1048576: true; the input reads as it did. -/
def cardSameUptoRow : OpenClaim := { program := "ytanjicjomcocmaadoor", sum := "46ce866be0df5cb2246b84f58d752e25f68894ad5866bfd1c4d49f9bf5990deb", func := "roadbook/roadbooklaw09.CardSame", spec := "cardSame", unfollowed := true, recurses := true, named := ["roadbook/card.divisors"], loops := true, apart := false, laid := [("roadbook/card.divisors", laid_roadbook_card_divisors)], narrowed := true }
def CardSameUptoSaid : Prop := cardSameUptoRow.holds Tryd.pinned (OpenSpec.upto cardSameSpec)

end Rows
end Go.Proofs.YtanjicjomcocmaaDoor
