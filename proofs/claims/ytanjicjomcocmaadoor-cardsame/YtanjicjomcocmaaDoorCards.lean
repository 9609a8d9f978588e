/-
  DERIVED. GIVEN WITH THE SEED: THE CARDS: each row of YtanjicjomcocmaaDoorRows.lean that lists a variable, with what it lists TIED to the program's text (the seventh form; the later family's looks); each row that meets fmt, with fmt's text TOLD by the authors' own Lean function (tested against real Go, not proved from fmt's source: count such statements apart). THE CARD IS WHAT COUNTS. Prove the row's statement (the work); the ties are given (YtanjicjomcocmaaDoorTie.lean); close each card by the builder's one call (the guide's Derived/Test/ToyasCard.lean, 'card_holds'). Laid BY PROGRAM, IN A SANDBOX (cutbox-door.mjs). By AI agents, Wed Nov 11 2026. No macro, syntax, notation, axiom, sorry.
-/
import Derived.Test.YtanjicjomcocmaaDoorRows
import GoSem.ClaimSeven
namespace Go.Proofs.YtanjicjomcocmaaDoor
namespace Rows

/-- THE TIED CARD OF 'roadbooklaw09.CardTimes'. -/
def cardTimesCard : Claim7 := { stood := { row := cardTimesRow, standIns := [], harness := (true, "685869e5f82d2cc47215f61ca47398a24cc92af6500dc7e99f82491b16b8817b"), looks := false }, kinds := [], alts := [], laidByText := true, laidKinds := [.data], laidTests := true, laidLooks := .later }
def CardTimesCardSaid : Prop := Claim7.holds Tryd.pinned (.plain (OpenSpec.ofChange cardTimesSpec)) cardTimesCard

/-- THE TIED CARD OF 'roadbooklaw09.CardSets'. -/
def cardSetsCard : Claim7 := { stood := { row := cardSetsRow, standIns := [], harness := (true, "685869e5f82d2cc47215f61ca47398a24cc92af6500dc7e99f82491b16b8817b"), looks := false }, kinds := [], alts := [], laidByText := true, laidKinds := [.data], laidTests := true, laidLooks := .later }
def CardSetsCardSaid : Prop := Claim7.holds Tryd.pinned (.plain (OpenSpec.ofChange cardSetsSpec)) cardSetsCard

/-- THE TIED CARD OF 'roadbooklaw09.CardLess'. -/
def cardLessCard : Claim7 := { stood := { row := cardLessRow, standIns := [], harness := (true, "685869e5f82d2cc47215f61ca47398a24cc92af6500dc7e99f82491b16b8817b"), looks := false }, kinds := [], alts := [], laidByText := true, laidKinds := [.data], laidTests := true, laidLooks := .later }
def CardLessCardSaid : Prop := Claim7.holds Tryd.pinned (.plain (OpenSpec.ofChange cardLessSpec)) cardLessCard

/-- THE TIED CARD OF 'roadbooklaw09.CardOne'. -/
def cardOneCard : Claim7 := { stood := { row := cardOneRow, standIns := [], harness := (true, "685869e5f82d2cc47215f61ca47398a24cc92af6500dc7e99f82491b16b8817b"), looks := false }, kinds := [], alts := [], laidByText := true, laidKinds := [.data], laidTests := true, laidLooks := .later }
def CardOneCardSaid : Prop := Claim7.holds Tryd.pinned (.plain (OpenSpec.ofChange cardOneSpec)) cardOneCard

/-- THE TIED CARD OF 'roadbooklaw09.CardSame'. -/
def cardSameCard : Claim7 := { stood := { row := cardSameRow, standIns := [], harness := (true, "685869e5f82d2cc47215f61ca47398a24cc92af6500dc7e99f82491b16b8817b"), looks := false }, kinds := [], alts := [], laidByText := true, laidKinds := [.data], laidTests := true, laidLooks := .later }
def CardSameCardSaid : Prop := Claim7.holds Tryd.pinned (.plain (OpenSpec.ofChange cardSameSpec)) cardSameCard

/-- THE SECOND FORM's CARD OF 'roadbooklaw09.CardTimes'. -/
def cardTimesUptoCard : Claim7 := { stood := { row := cardTimesUptoRow, standIns := [], harness := (true, "685869e5f82d2cc47215f61ca47398a24cc92af6500dc7e99f82491b16b8817b"), looks := false }, kinds := [], alts := [], laidByText := true, laidKinds := [.data], laidTests := true, laidLooks := .later }
def CardTimesUptoCardSaid : Prop := Claim7.holds Tryd.pinned (.plain (OpenSpec.upto cardTimesSpec)) cardTimesUptoCard

/-- THE SECOND FORM's CARD OF 'roadbooklaw09.CardSets'. -/
def cardSetsUptoCard : Claim7 := { stood := { row := cardSetsUptoRow, standIns := [], harness := (true, "685869e5f82d2cc47215f61ca47398a24cc92af6500dc7e99f82491b16b8817b"), looks := false }, kinds := [], alts := [], laidByText := true, laidKinds := [.data], laidTests := true, laidLooks := .later }
def CardSetsUptoCardSaid : Prop := Claim7.holds Tryd.pinned (.plain (OpenSpec.upto cardSetsSpec)) cardSetsUptoCard

/-- THE SECOND FORM's CARD OF 'roadbooklaw09.CardLess'. -/
def cardLessUptoCard : Claim7 := { stood := { row := cardLessUptoRow, standIns := [], harness := (true, "685869e5f82d2cc47215f61ca47398a24cc92af6500dc7e99f82491b16b8817b"), looks := false }, kinds := [], alts := [], laidByText := true, laidKinds := [.data], laidTests := true, laidLooks := .later }
def CardLessUptoCardSaid : Prop := Claim7.holds Tryd.pinned (.plain (OpenSpec.upto cardLessSpec)) cardLessUptoCard

/-- THE SECOND FORM's CARD OF 'roadbooklaw09.CardOne'. -/
def cardOneUptoCard : Claim7 := { stood := { row := cardOneUptoRow, standIns := [], harness := (true, "685869e5f82d2cc47215f61ca47398a24cc92af6500dc7e99f82491b16b8817b"), looks := false }, kinds := [], alts := [], laidByText := true, laidKinds := [.data], laidTests := true, laidLooks := .later }
def CardOneUptoCardSaid : Prop := Claim7.holds Tryd.pinned (.plain (OpenSpec.upto cardOneSpec)) cardOneUptoCard

/-- THE SECOND FORM's CARD OF 'roadbooklaw09.CardSame'. -/
def cardSameUptoCard : Claim7 := { stood := { row := cardSameUptoRow, standIns := [], harness := (true, "685869e5f82d2cc47215f61ca47398a24cc92af6500dc7e99f82491b16b8817b"), looks := false }, kinds := [], alts := [], laidByText := true, laidKinds := [.data], laidTests := true, laidLooks := .later }
def CardSameUptoCardSaid : Prop := Claim7.holds Tryd.pinned (.plain (OpenSpec.upto cardSameSpec)) cardSameUptoCard
end Rows
end Go.Proofs.YtanjicjomcocmaaDoor
