/-
  DERIVED. GIVEN WITH THE SEED: THE CARDS: each row of YtanjicjomcocmaaGreatDoorRows.lean that lists a variable, with what it lists TIED to the program's text (the seventh form; the later family's looks); each row that meets fmt, with fmt's text TOLD by the authors' own Lean function (tested against real Go, not proved from fmt's source: count such statements apart). THE CARD IS WHAT COUNTS. Prove the row's statement (the work); the ties are given (YtanjicjomcocmaaGreatDoorTie.lean); close each card by the builder's one call (the guide's Derived/Test/ToyasCard.lean, 'card_holds'). Laid BY PROGRAM, IN A SANDBOX (cutbox-door.mjs). By AI agents, Wed Nov 11 2026. No macro, syntax, notation, axiom, sorry.
-/
import Derived.Test.YtanjicjomcocmaaGreatDoorRows
import GoSem.ClaimSeven
namespace Go.Proofs.YtanjicjomcocmaaGreatDoor
namespace Rows

/-- THE TIED CARD OF 'roadbooklaw09.CardTells'. -/
def cardTellsCard : Claim7 := { stood := { row := cardTellsRow, standIns := [], harness := (true, "bc186a7a548ffaab4d469b51c933428d91a6ce168df4ecdb5413c32980bdeeba"), looks := false }, kinds := [], alts := [], laidByText := true, laidKinds := [.data], laidTests := true, laidLooks := .later }
def CardTellsCardSaid : Prop := Claim7.holds Tryz.pinned (.plain (OpenSpec.ofChange cardTellsSpec)) cardTellsCard

/-- THE SECOND FORM's CARD OF 'roadbooklaw09.CardTells'. -/
def cardTellsUptoCard : Claim7 := { stood := { row := cardTellsUptoRow, standIns := [], harness := (true, "bc186a7a548ffaab4d469b51c933428d91a6ce168df4ecdb5413c32980bdeeba"), looks := false }, kinds := [], alts := [], laidByText := true, laidKinds := [.data], laidTests := true, laidLooks := .later }
def CardTellsUptoCardSaid : Prop := Claim7.holds Tryz.pinned (.plain (OpenSpec.upto cardTellsSpec)) cardTellsUptoCard
end Rows
end Go.Proofs.YtanjicjomcocmaaGreatDoor
