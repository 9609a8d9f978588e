/-
  NARROWER THAN 'FOR EVERY INPUT', by the rows' own cells (each row's printed sentence says how): ExprTells: loops · ExprOwn: loops · ExprBoth: loops · ExprPair: loops · ExprPart: loops.
  DERIVED. THE GIVEN ROWS OF THIS SEAT. 5 by the template 'for every input the law returns true; each argument reads behind the call as it read before'; 0 by the template 'total and deterministic' (their statements: YtochjfimogijjaaTotals.lean).
  GIVEN WITH THE SEED: the statements are not yours to turn. If you find one false, say at which input.
  Laid BY PROGRAM, IN A SANDBOX (cutbox-rows.mjs): the forced cells as the released guide's own fill.sh prints them over the translation 868564585c098042… (all of the seat's roots in one cut). By AI agents, Wed Nov 11 2026. No macro, syntax, notation, axiom, sorry.
-/
import Derived.Test.YtochjfimogijjaaChecked
import GoSem.Claim
import GoSem.ClaimJoined
import GoSem.ClaimMapViews
import Derived.JoinedTies
import Derived.KernelRfl
namespace Go.Proofs.Ytochjfimogijjaa
/- THE CELL 'sum', in the pinned program and in every row, IS THE sha256 OF THE DUMP (.gsa) THAT YtochjfimogijjaaProg.lean LOADS. Nothing in Lean hashes anything: it is a label: what it is worth is what the hold of that sum in a sandbox is worth. -/
noncomputable def Try.pinned : Pinned := { name := "ytochjfimogijjaa", sum := "868564585c098042f7ddee6de205e769c40e3f298d3b1c81acaad142ccbbf2c1", checked := Try.checked }
namespace Rows
def none {H : Type} : Left H := { results := [], args := [] }

/-- 'roadbooklaw02.ExprTells': WHATEVER THE INPUT: true; the input reads as it did. -/
def exprTellsSpec : ChangeSpec := { name := "exprTells", fn := fun _ => fun
  | [d1, d2, d3, d4] => { results := [.lit (.bool true)], args := [d1, d2, d3, d4] }
  | _ => none }
def exprTellsRow : OpenClaim := { program := "ytochjfimogijjaa", sum := "868564585c098042f7ddee6de205e769c40e3f298d3b1c81acaad142ccbbf2c1", func := "roadbook/roadbooklaw02.ExprTells", spec := "exprTells", unfollowed := true, recurses := true, loops := true, apart := false }
def ExprTellsSaid : Prop := exprTellsRow.holds Try.pinned (OpenSpec.ofChange exprTellsSpec)

/-- ITS FALSE NEIGHBOUR: 'it returns false'. Refute it at one input. -/
def exprTellsWrong : ChangeSpec := { name := "exprTells", fn := fun _ => fun
  | [d1, d2, d3, d4] => { results := [.lit (.bool false)], args := [d1, d2, d3, d4] }
  | _ => none }
def ExprTellsWrongFalsely : Prop := exprTellsRow.holds Try.pinned (OpenSpec.ofChange exprTellsWrong)

/-- 'roadbooklaw02.ExprOwn': WHATEVER THE INPUT: true; the input reads as it did. -/
def exprOwnSpec : ChangeSpec := { name := "exprOwn", fn := fun _ => fun
  | [d1, d2, d3] => { results := [.lit (.bool true)], args := [d1, d2, d3] }
  | _ => none }
def exprOwnRow : OpenClaim := { program := "ytochjfimogijjaa", sum := "868564585c098042f7ddee6de205e769c40e3f298d3b1c81acaad142ccbbf2c1", func := "roadbook/roadbooklaw02.ExprOwn", spec := "exprOwn", unfollowed := true, recurses := true, loops := true, apart := false }
def ExprOwnSaid : Prop := exprOwnRow.holds Try.pinned (OpenSpec.ofChange exprOwnSpec)

/-- ITS FALSE NEIGHBOUR: 'it returns false'. Refute it at one input. -/
def exprOwnWrong : ChangeSpec := { name := "exprOwn", fn := fun _ => fun
  | [d1, d2, d3] => { results := [.lit (.bool false)], args := [d1, d2, d3] }
  | _ => none }
def ExprOwnWrongFalsely : Prop := exprOwnRow.holds Try.pinned (OpenSpec.ofChange exprOwnWrong)

/-- 'roadbooklaw02.ExprBoth': WHATEVER THE INPUT: true; the input reads as it did. -/
def exprBothSpec : ChangeSpec := { name := "exprBoth", fn := fun _ => fun
  | [d1, d2, d3] => { results := [.lit (.bool true)], args := [d1, d2, d3] }
  | _ => none }
def exprBothRow : OpenClaim := { program := "ytochjfimogijjaa", sum := "868564585c098042f7ddee6de205e769c40e3f298d3b1c81acaad142ccbbf2c1", func := "roadbook/roadbooklaw02.ExprBoth", spec := "exprBoth", unfollowed := true, recurses := true, loops := true, apart := false }
def ExprBothSaid : Prop := exprBothRow.holds Try.pinned (OpenSpec.ofChange exprBothSpec)

/-- ITS FALSE NEIGHBOUR: 'it returns false'. Refute it at one input. -/
def exprBothWrong : ChangeSpec := { name := "exprBoth", fn := fun _ => fun
  | [d1, d2, d3] => { results := [.lit (.bool false)], args := [d1, d2, d3] }
  | _ => none }
def ExprBothWrongFalsely : Prop := exprBothRow.holds Try.pinned (OpenSpec.ofChange exprBothWrong)

/-- 'roadbooklaw02.ExprPair': WHATEVER THE INPUT: true; the input reads as it did. -/
def exprPairSpec : ChangeSpec := { name := "exprPair", fn := fun _ => fun
  | [d1, d2] => { results := [.lit (.bool true)], args := [d1, d2] }
  | _ => none }
def exprPairRow : OpenClaim := { program := "ytochjfimogijjaa", sum := "868564585c098042f7ddee6de205e769c40e3f298d3b1c81acaad142ccbbf2c1", func := "roadbook/roadbooklaw02.ExprPair", spec := "exprPair", unfollowed := true, recurses := true, loops := true, apart := false }
def ExprPairSaid : Prop := exprPairRow.holds Try.pinned (OpenSpec.ofChange exprPairSpec)

/-- ITS FALSE NEIGHBOUR: 'it returns false'. Refute it at one input. -/
def exprPairWrong : ChangeSpec := { name := "exprPair", fn := fun _ => fun
  | [d1, d2] => { results := [.lit (.bool false)], args := [d1, d2] }
  | _ => none }
def ExprPairWrongFalsely : Prop := exprPairRow.holds Try.pinned (OpenSpec.ofChange exprPairWrong)

/-- 'roadbooklaw02.ExprPart': WHATEVER THE INPUT: true; the input reads as it did. -/
def exprPartSpec : ChangeSpec := { name := "exprPart", fn := fun _ => fun
  | [d1, d2] => { results := [.lit (.bool true)], args := [d1, d2] }
  | _ => none }
def exprPartRow : OpenClaim := { program := "ytochjfimogijjaa", sum := "868564585c098042f7ddee6de205e769c40e3f298d3b1c81acaad142ccbbf2c1", func := "roadbook/roadbooklaw02.ExprPart", spec := "exprPart", unfollowed := true, recurses := true, loops := true, apart := false }
def ExprPartSaid : Prop := exprPartRow.holds Try.pinned (OpenSpec.ofChange exprPartSpec)

/-- ITS FALSE NEIGHBOUR: 'it returns false'. Refute it at one input. -/
def exprPartWrong : ChangeSpec := { name := "exprPart", fn := fun _ => fun
  | [d1, d2] => { results := [.lit (.bool false)], args := [d1, d2] }
  | _ => none }
def ExprPartWrongFalsely : Prop := exprPartRow.holds Try.pinned (OpenSpec.ofChange exprPartWrong)

/- THE SECOND FORM. 'bulk': how many values and letters a reading holds, each counted each time it is reached (what is shared counts as often as it is met; a slice's spare places count too). A statement '..UptoSaid' is the law's where the arguments, and the package variables that the reading takes, are together of bulk at most 1048576: NARROWER than '..Said'. Prove '..Said' where nothing that the law and all that it calls make is longer than what came in: it says more and counts as full. Else prove '..UptoSaid'. A law counts once. -/
mutual
def uptoBulk {H : Type} : DataW H → Nat
  | .lit (.string bytes) => bytes.length + 1
  | .lit _ => 1
  | .nil => 1
  | .ptr d => uptoBulk d + 1
  | .slice elems spare => uptoBulkAll elems + uptoBulkAll spare + 1
  | .agg parts => uptoBulkAll parts + 1
  | .iface _ d => uptoBulk d + 1
  | .map entries => uptoBulkEntries entries + 1
  | .held _ => 1
def uptoBulkAll {H : Type} : List (DataW H) → Nat
  | [] => 0
  | d :: r => uptoBulk d + uptoBulkAll r
def uptoBulkEntries {H : Type} : List (Lit × DataW H) → Nat
  | [] => 0
  | x :: r => uptoBulkEntry x + uptoBulkEntries r
def uptoBulkEntry {H : Type} : Lit × DataW H → Nat
  | (.string bytes, d) => bytes.length + uptoBulk d + 1
  | (_, d) => uptoBulk d + 1
 end
def uptoSmall : (H : Type) → List (DataW H) → Bool := fun _ ds => decide (uptoBulkAll ds ≤ 1048576)
def OpenSpec.upto (s : _root_.Go.ChangeSpec) : _root_.Go.OpenSpec := { _root_.Go.OpenSpec.ofChange s with cond := some uptoSmall }

/-- 'roadbooklaw02.ExprTells', WHERE WHAT IT READS IS OF BULK AT MOST 1048576: true; the input reads as it did. -/
def exprTellsUptoRow : OpenClaim := { program := "ytochjfimogijjaa", sum := "868564585c098042f7ddee6de205e769c40e3f298d3b1c81acaad142ccbbf2c1", func := "roadbook/roadbooklaw02.ExprTells", spec := "exprTells", unfollowed := true, recurses := true, loops := true, apart := false, narrowed := true }
def ExprTellsUptoSaid : Prop := exprTellsUptoRow.holds Try.pinned (OpenSpec.upto exprTellsSpec)

/-- 'roadbooklaw02.ExprOwn', WHERE WHAT IT READS IS OF BULK AT MOST 1048576: true; the input reads as it did. -/
def exprOwnUptoRow : OpenClaim := { program := "ytochjfimogijjaa", sum := "868564585c098042f7ddee6de205e769c40e3f298d3b1c81acaad142ccbbf2c1", func := "roadbook/roadbooklaw02.ExprOwn", spec := "exprOwn", unfollowed := true, recurses := true, loops := true, apart := false, narrowed := true }
def ExprOwnUptoSaid : Prop := exprOwnUptoRow.holds Try.pinned (OpenSpec.upto exprOwnSpec)

/-- 'roadbooklaw02.ExprBoth', WHERE WHAT IT READS IS OF BULK AT MOST 1048576: true; the input reads as it did. -/
def exprBothUptoRow : OpenClaim := { program := "ytochjfimogijjaa", sum := "868564585c098042f7ddee6de205e769c40e3f298d3b1c81acaad142ccbbf2c1", func := "roadbook/roadbooklaw02.ExprBoth", spec := "exprBoth", unfollowed := true, recurses := true, loops := true, apart := false, narrowed := true }
def ExprBothUptoSaid : Prop := exprBothUptoRow.holds Try.pinned (OpenSpec.upto exprBothSpec)

/-- 'roadbooklaw02.ExprPair', WHERE WHAT IT READS IS OF BULK AT MOST 1048576: true; the input reads as it did. -/
def exprPairUptoRow : OpenClaim := { program := "ytochjfimogijjaa", sum := "868564585c098042f7ddee6de205e769c40e3f298d3b1c81acaad142ccbbf2c1", func := "roadbook/roadbooklaw02.ExprPair", spec := "exprPair", unfollowed := true, recurses := true, loops := true, apart := false, narrowed := true }
def ExprPairUptoSaid : Prop := exprPairUptoRow.holds Try.pinned (OpenSpec.upto exprPairSpec)

/-- 'roadbooklaw02.ExprPart', WHERE WHAT IT READS IS OF BULK AT MOST 1048576: true; the input reads as it did. -/
def exprPartUptoRow : OpenClaim := { program := "ytochjfimogijjaa", sum := "868564585c098042f7ddee6de205e769c40e3f298d3b1c81acaad142ccbbf2c1", func := "roadbook/roadbooklaw02.ExprPart", spec := "exprPart", unfollowed := true, recurses := true, loops := true, apart := false, narrowed := true }
def ExprPartUptoSaid : Prop := exprPartUptoRow.holds Try.pinned (OpenSpec.upto exprPartSpec)

end Rows
end Go.Proofs.Ytochjfimogijjaa
