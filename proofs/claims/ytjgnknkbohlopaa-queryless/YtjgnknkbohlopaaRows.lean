/-
  NARROWER THAN 'FOR EVERY INPUT', by the rows' own cells (each row's printed sentence says how): QueryOnce: loops · QueryAll: loops · QueryPairs: loops · QueryLess: loops · QueryOf: loops.
  DERIVED. THE GIVEN ROWS OF THIS SEAT. 5 by the template 'for every input the law returns true; each argument reads behind the call as it read before'; 0 by the template 'total and deterministic' (their statements: YtjgnknkbohlopaaTotals.lean).
  GIVEN WITH THE SEED: the statements are not yours to turn. If you find one false, say at which input.
  Laid BY PROGRAM, IN A SANDBOX (cutbox-rows.mjs): the forced cells as the released guide's own fill.sh prints them over the translation a146c8de70fb6648… (all of the seat's roots in one cut). By AI agents, Wed Nov 11 2026. No macro, syntax, notation, axiom, sorry.
-/
import Derived.Test.YtjgnknkbohlopaaChecked
import GoSem.Claim
import GoSem.ClaimJoined
import GoSem.ClaimMapViews
import Derived.JoinedTies
import Derived.KernelRfl
namespace Go.Proofs.Ytjgnknkbohlopaa
/- THE CELL 'sum', in the pinned program and in every row, IS THE sha256 OF THE DUMP (.gsa) THAT YtjgnknkbohlopaaProg.lean LOADS. Nothing in Lean hashes anything: it is a label: what it is worth is what the hold of that sum in a sandbox is worth. -/
noncomputable def Try.pinned : Pinned := { name := "ytjgnknkbohlopaa", sum := "a146c8de70fb664867d29082386b30b70c04b035f66e43cfbc7222702cb6bd80", checked := Try.checked }
namespace Rows
def none {H : Type} : Left H := { results := [], args := [] }

/-- 'roadbooklaw05.QueryOnce': WHATEVER THE INPUT: true; the input reads as it did. -/
def queryOnceSpec : ChangeSpec := { name := "queryOnce", fn := fun _ => fun
  | [d1, d2, d3, d4, d5] => { results := [.lit (.bool true)], args := [d1, d2, d3, d4, d5] }
  | _ => none }
def queryOnceRow : OpenClaim := { program := "ytjgnknkbohlopaa", sum := "a146c8de70fb664867d29082386b30b70c04b035f66e43cfbc7222702cb6bd80", func := "roadbook/roadbooklaw05.QueryOnce", spec := "queryOnce", unfollowed := true, recurses := true, loops := true, apart := false }
def QueryOnceSaid : Prop := queryOnceRow.holds Try.pinned (OpenSpec.ofChange queryOnceSpec)

/-- ITS FALSE NEIGHBOUR: 'it returns false'. Refute it at one input. -/
def queryOnceWrong : ChangeSpec := { name := "queryOnce", fn := fun _ => fun
  | [d1, d2, d3, d4, d5] => { results := [.lit (.bool false)], args := [d1, d2, d3, d4, d5] }
  | _ => none }
def QueryOnceWrongFalsely : Prop := queryOnceRow.holds Try.pinned (OpenSpec.ofChange queryOnceWrong)

/-- 'roadbooklaw05.QueryAll': WHATEVER THE INPUT: true; the input reads as it did. -/
def queryAllSpec : ChangeSpec := { name := "queryAll", fn := fun _ => fun
  | [d1, d2, d3] => { results := [.lit (.bool true)], args := [d1, d2, d3] }
  | _ => none }
def queryAllRow : OpenClaim := { program := "ytjgnknkbohlopaa", sum := "a146c8de70fb664867d29082386b30b70c04b035f66e43cfbc7222702cb6bd80", func := "roadbook/roadbooklaw05.QueryAll", spec := "queryAll", unfollowed := true, recurses := true, loops := true, apart := false }
def QueryAllSaid : Prop := queryAllRow.holds Try.pinned (OpenSpec.ofChange queryAllSpec)

/-- ITS FALSE NEIGHBOUR: 'it returns false'. Refute it at one input. -/
def queryAllWrong : ChangeSpec := { name := "queryAll", fn := fun _ => fun
  | [d1, d2, d3] => { results := [.lit (.bool false)], args := [d1, d2, d3] }
  | _ => none }
def QueryAllWrongFalsely : Prop := queryAllRow.holds Try.pinned (OpenSpec.ofChange queryAllWrong)

/-- 'roadbooklaw05.QueryPairs': WHATEVER THE INPUT: true; the input reads as it did. -/
def queryPairsSpec : ChangeSpec := { name := "queryPairs", fn := fun _ => fun
  | [d1, d2, d3, d4] => { results := [.lit (.bool true)], args := [d1, d2, d3, d4] }
  | _ => none }
def queryPairsRow : OpenClaim := { program := "ytjgnknkbohlopaa", sum := "a146c8de70fb664867d29082386b30b70c04b035f66e43cfbc7222702cb6bd80", func := "roadbook/roadbooklaw05.QueryPairs", spec := "queryPairs", unfollowed := true, recurses := true, loops := true, apart := false }
def QueryPairsSaid : Prop := queryPairsRow.holds Try.pinned (OpenSpec.ofChange queryPairsSpec)

/-- ITS FALSE NEIGHBOUR: 'it returns false'. Refute it at one input. -/
def queryPairsWrong : ChangeSpec := { name := "queryPairs", fn := fun _ => fun
  | [d1, d2, d3, d4] => { results := [.lit (.bool false)], args := [d1, d2, d3, d4] }
  | _ => none }
def QueryPairsWrongFalsely : Prop := queryPairsRow.holds Try.pinned (OpenSpec.ofChange queryPairsWrong)

/-- 'roadbooklaw05.QueryLess': WHATEVER THE INPUT: true; the input reads as it did. -/
def queryLessSpec : ChangeSpec := { name := "queryLess", fn := fun _ => fun
  | [d1, d2, d3, d4] => { results := [.lit (.bool true)], args := [d1, d2, d3, d4] }
  | _ => none }
def queryLessRow : OpenClaim := { program := "ytjgnknkbohlopaa", sum := "a146c8de70fb664867d29082386b30b70c04b035f66e43cfbc7222702cb6bd80", func := "roadbook/roadbooklaw05.QueryLess", spec := "queryLess", unfollowed := true, recurses := true, loops := true, apart := false }
def QueryLessSaid : Prop := queryLessRow.holds Try.pinned (OpenSpec.ofChange queryLessSpec)

/-- ITS FALSE NEIGHBOUR: 'it returns false'. Refute it at one input. -/
def queryLessWrong : ChangeSpec := { name := "queryLess", fn := fun _ => fun
  | [d1, d2, d3, d4] => { results := [.lit (.bool false)], args := [d1, d2, d3, d4] }
  | _ => none }
def QueryLessWrongFalsely : Prop := queryLessRow.holds Try.pinned (OpenSpec.ofChange queryLessWrong)

/-- 'roadbooklaw05.QueryOf': WHATEVER THE INPUT: true; the input reads as it did. -/
def queryOfSpec : ChangeSpec := { name := "queryOf", fn := fun _ => fun
  | [d1, d2, d3, d4] => { results := [.lit (.bool true)], args := [d1, d2, d3, d4] }
  | _ => none }
def queryOfRow : OpenClaim := { program := "ytjgnknkbohlopaa", sum := "a146c8de70fb664867d29082386b30b70c04b035f66e43cfbc7222702cb6bd80", func := "roadbook/roadbooklaw05.QueryOf", spec := "queryOf", unfollowed := true, recurses := true, loops := true, apart := false }
def QueryOfSaid : Prop := queryOfRow.holds Try.pinned (OpenSpec.ofChange queryOfSpec)

/-- ITS FALSE NEIGHBOUR: 'it returns false'. Refute it at one input. -/
def queryOfWrong : ChangeSpec := { name := "queryOf", fn := fun _ => fun
  | [d1, d2, d3, d4] => { results := [.lit (.bool false)], args := [d1, d2, d3, d4] }
  | _ => none }
def QueryOfWrongFalsely : Prop := queryOfRow.holds Try.pinned (OpenSpec.ofChange queryOfWrong)

/- THE SECOND FORM. 'bulk': how many values and letters a reading holds, each counted each time it is reached (what is shared counts as often as it is met; a slice's spare places count too). A statement '..UptoSaid' is the law's where the arguments, and the package variables that the reading takes, are together of bulk at most 1048576: NARROWER than '..Said'. Prove '..Said' where nothing that the law and all that it calls make is longer than what came in: it says more and counts as full. Else prove '..UptoSaid'. A law counts once. -/
mutual
def uptoBulk {H : Type} : DataW H → Nat
  | .lit (.string bytes) => bytes.length + 1
  | .lit _ => 1
  | .nil => 1
  | .ptr d => uptoBulk d + 1
  | .slice elems spare => uptoBulkAll elems + uptoBulkAll spare + 1
  | .agg parts => uptoBulkAll parts + 1
  | .iface _ d => uptoBulk d + 1
  | .map entries => uptoBulkEntries entries + 1
  | .held _ => 1
def uptoBulkAll {H : Type} : List (DataW H) → Nat
  | [] => 0
  | d :: r => uptoBulk d + uptoBulkAll r
def uptoBulkEntries {H : Type} : List (Lit × DataW H) → Nat
  | [] => 0
  | x :: r => uptoBulkEntry x + uptoBulkEntries r
def uptoBulkEntry {H : Type} : Lit × DataW H → Nat
  | (.string bytes, d) => bytes.length + uptoBulk d + 1
  | (_, d) => uptoBulk d + 1
 end
def uptoSmall : (H : Type) → List (DataW H) → Bool := fun _ ds => decide (uptoBulkAll ds ≤ 1048576)
def OpenSpec.upto (s : _root_.Go.ChangeSpec) : _root_.Go.OpenSpec := { _root_.Go.OpenSpec.ofChange s with cond := some uptoSmall }

/-- 'roadbooklaw05.QueryOnce', WHERE WHAT IT READS IS OF BULK AT MOST 1048576: true; the input reads as it did. -/
def queryOnceUptoRow : OpenClaim := { program := "ytjgnknkbohlopaa", sum := "a146c8de70fb664867d29082386b30b70c04b035f66e43cfbc7222702cb6bd80", func := "roadbook/roadbooklaw05.QueryOnce", spec := "queryOnce", unfollowed := true, recurses := true, loops := true, apart := false, narrowed := true }
def QueryOnceUptoSaid : Prop := queryOnceUptoRow.holds Try.pinned (OpenSpec.upto queryOnceSpec)

/-- 'roadbooklaw05.QueryAll', WHERE WHAT IT READS IS OF BULK AT MOST 1048576: true; the input reads as it did. -/
def queryAllUptoRow : OpenClaim := { program := "ytjgnknkbohlopaa", sum := "a146c8de70fb664867d29082386b30b70c04b035f66e43cfbc7222702cb6bd80", func := "roadbook/roadbooklaw05.QueryAll", spec := "queryAll", unfollowed := true, recurses := true, loops := true, apart := false, narrowed := true }
def QueryAllUptoSaid : Prop := queryAllUptoRow.holds Try.pinned (OpenSpec.upto queryAllSpec)

/-- 'roadbooklaw05.QueryPairs', WHERE WHAT IT READS IS OF BULK AT MOST 1048576: true; the input reads as it did. -/
def queryPairsUptoRow : OpenClaim := { program := "ytjgnknkbohlopaa", sum := "a146c8de70fb664867d29082386b30b70c04b035f66e43cfbc7222702cb6bd80", func := "roadbook/roadbooklaw05.QueryPairs", spec := "queryPairs", unfollowed := true, recurses := true, loops := true, apart := false, narrowed := true }
def QueryPairsUptoSaid : Prop := queryPairsUptoRow.holds Try.pinned (OpenSpec.upto queryPairsSpec)

/-- 'roadbooklaw05.QueryLess', WHERE WHAT IT READS IS OF BULK AT MOST 1048576: true; the input reads as it did. -/
def queryLessUptoRow : OpenClaim := { program := "ytjgnknkbohlopaa", sum := "a146c8de70fb664867d29082386b30b70c04b035f66e43cfbc7222702cb6bd80", func := "roadbook/roadbooklaw05.QueryLess", spec := "queryLess", unfollowed := true, recurses := true, loops := true, apart := false, narrowed := true }
def QueryLessUptoSaid : Prop := queryLessUptoRow.holds Try.pinned (OpenSpec.upto queryLessSpec)

/-- 'roadbooklaw05.QueryOf', WHERE WHAT IT READS IS OF BULK AT MOST 1048576: true; the input reads as it did. -/
def queryOfUptoRow : OpenClaim := { program := "ytjgnknkbohlopaa", sum := "a146c8de70fb664867d29082386b30b70c04b035f66e43cfbc7222702cb6bd80", func := "roadbook/roadbooklaw05.QueryOf", spec := "queryOf", unfollowed := true, recurses := true, loops := true, apart := false, narrowed := true }
def QueryOfUptoSaid : Prop := queryOfUptoRow.holds Try.pinned (OpenSpec.upto queryOfSpec)

end Rows
end Go.Proofs.Ytjgnknkbohlopaa
