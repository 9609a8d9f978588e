/-
  DERIVED. GIVEN WITH THE SEED: THE CARDS: each row of YtdacippnonhahaaDoorRows.lean that lists a variable, with what it lists TIED to the program's text (the seventh form; the later family's looks); each row that meets fmt, with fmt's text TOLD by the authors' own Lean function (tested against real Go, not proved from fmt's source: count such statements apart). THE CARD IS WHAT COUNTS. Prove the row's statement (the work); the ties are given (YtdacippnonhahaaDoorTie.lean); close each card by the builder's one call (the guide's Derived/Test/ToyasCard.lean, 'card_holds'). Laid BY PROGRAM, IN A SANDBOX (cutbox-door.mjs). By AI agents, Wed Nov 11 2026. No macro, syntax, notation, axiom, sorry.
-/
import Derived.Test.YtdacippnonhahaaDoorRows
import GoSem.ClaimSeven
namespace Go.Proofs.YtdacippnonhahaaDoor
namespace Rows

/-- THE TIED CARD OF 'roadbooklaw08.RuleTells'. -/
def ruleTellsCard : Claim7 := { stood := { row := ruleTellsRow, standIns := [], harness := (true, "7ea85f85ba202b232034d1d87c33e2d13b636ecda82c41c6ea99f3eb1fee1402"), looks := false }, kinds := [], alts := [], laidByText := true, laidKinds := [.data, .data, .data], laidTests := true, laidLooks := .later }
def RuleTellsCardSaid : Prop := Claim7.holds Tryd.pinned (.plain (OpenSpec.ofChange ruleTellsSpec)) ruleTellsCard

/-- THE TIED CARD OF 'roadbooklaw08.RuleAll'. -/
def ruleAllCard : Claim7 := { stood := { row := ruleAllRow, standIns := [], harness := (true, "7ea85f85ba202b232034d1d87c33e2d13b636ecda82c41c6ea99f3eb1fee1402"), looks := false }, kinds := [], alts := [], laidByText := true, laidKinds := [.data, .data, .data], laidTests := true, laidLooks := .later }
def RuleAllCardSaid : Prop := Claim7.holds Tryd.pinned (.plain (OpenSpec.ofChange ruleAllSpec)) ruleAllCard

/-- THE TIED CARD OF 'roadbooklaw08.RuleBack'. -/
def ruleBackCard : Claim7 := { stood := { row := ruleBackRow, standIns := [], harness := (true, "7ea85f85ba202b232034d1d87c33e2d13b636ecda82c41c6ea99f3eb1fee1402"), looks := false }, kinds := [], alts := [], laidByText := true, laidKinds := [.data, .data, .data], laidTests := true, laidLooks := .later }
def RuleBackCardSaid : Prop := Claim7.holds Tryd.pinned (.plain (OpenSpec.ofChange ruleBackSpec)) ruleBackCard

/-- THE TIED CARD OF 'roadbooklaw08.RuleTwo'. -/
def ruleTwoCard : Claim7 := { stood := { row := ruleTwoRow, standIns := [], harness := (true, "7ea85f85ba202b232034d1d87c33e2d13b636ecda82c41c6ea99f3eb1fee1402"), looks := false }, kinds := [], alts := [], laidByText := true, laidKinds := [.data, .data, .data], laidTests := true, laidLooks := .later }
def RuleTwoCardSaid : Prop := Claim7.holds Tryd.pinned (.plain (OpenSpec.ofChange ruleTwoSpec)) ruleTwoCard

/-- THE TIED CARD OF 'roadbooklaw08.RuleCount'. -/
def ruleCountCard : Claim7 := { stood := { row := ruleCountRow, standIns := [], harness := (true, "7ea85f85ba202b232034d1d87c33e2d13b636ecda82c41c6ea99f3eb1fee1402"), looks := false }, kinds := [], alts := [], laidByText := true, laidKinds := [.data, .data, .data], laidTests := true, laidLooks := .later }
def RuleCountCardSaid : Prop := Claim7.holds Tryd.pinned (.plain (OpenSpec.ofChange ruleCountSpec)) ruleCountCard

/-- THE SECOND FORM's CARD OF 'roadbooklaw08.RuleTells'. -/
def ruleTellsUptoCard : Claim7 := { stood := { row := ruleTellsUptoRow, standIns := [], harness := (true, "7ea85f85ba202b232034d1d87c33e2d13b636ecda82c41c6ea99f3eb1fee1402"), looks := false }, kinds := [], alts := [], laidByText := true, laidKinds := [.data, .data, .data], laidTests := true, laidLooks := .later }
def RuleTellsUptoCardSaid : Prop := Claim7.holds Tryd.pinned (.plain (OpenSpec.upto ruleTellsSpec)) ruleTellsUptoCard

/-- THE SECOND FORM's CARD OF 'roadbooklaw08.RuleAll'. -/
def ruleAllUptoCard : Claim7 := { stood := { row := ruleAllUptoRow, standIns := [], harness := (true, "7ea85f85ba202b232034d1d87c33e2d13b636ecda82c41c6ea99f3eb1fee1402"), looks := false }, kinds := [], alts := [], laidByText := true, laidKinds := [.data, .data, .data], laidTests := true, laidLooks := .later }
def RuleAllUptoCardSaid : Prop := Claim7.holds Tryd.pinned (.plain (OpenSpec.upto ruleAllSpec)) ruleAllUptoCard

/-- THE SECOND FORM's CARD OF 'roadbooklaw08.RuleBack'. -/
def ruleBackUptoCard : Claim7 := { stood := { row := ruleBackUptoRow, standIns := [], harness := (true, "7ea85f85ba202b232034d1d87c33e2d13b636ecda82c41c6ea99f3eb1fee1402"), looks := false }, kinds := [], alts := [], laidByText := true, laidKinds := [.data, .data, .data], laidTests := true, laidLooks := .later }
def RuleBackUptoCardSaid : Prop := Claim7.holds Tryd.pinned (.plain (OpenSpec.upto ruleBackSpec)) ruleBackUptoCard

/-- THE SECOND FORM's CARD OF 'roadbooklaw08.RuleTwo'. -/
def ruleTwoUptoCard : Claim7 := { stood := { row := ruleTwoUptoRow, standIns := [], harness := (true, "7ea85f85ba202b232034d1d87c33e2d13b636ecda82c41c6ea99f3eb1fee1402"), looks := false }, kinds := [], alts := [], laidByText := true, laidKinds := [.data, .data, .data], laidTests := true, laidLooks := .later }
def RuleTwoUptoCardSaid : Prop := Claim7.holds Tryd.pinned (.plain (OpenSpec.upto ruleTwoSpec)) ruleTwoUptoCard

/-- THE SECOND FORM's CARD OF 'roadbooklaw08.RuleCount'. -/
def ruleCountUptoCard : Claim7 := { stood := { row := ruleCountUptoRow, standIns := [], harness := (true, "7ea85f85ba202b232034d1d87c33e2d13b636ecda82c41c6ea99f3eb1fee1402"), looks := false }, kinds := [], alts := [], laidByText := true, laidKinds := [.data, .data, .data], laidTests := true, laidLooks := .later }
def RuleCountUptoCardSaid : Prop := Claim7.holds Tryd.pinned (.plain (OpenSpec.upto ruleCountSpec)) ruleCountUptoCard
end Rows
end Go.Proofs.YtdacippnonhahaaDoor
