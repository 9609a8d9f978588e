/- Layer 1: what calls these. Nothing here is trusted. -/
import Derived.Test.YtjofcicaoofijaaVQ3
namespace Go.Proofs.Ytjofcicaoofijaa
open Go.Ev
set_option linter.unusedVariables false
set_option linter.unusedSimpArgs false

theorem reckon_of {fits : Bool} {v w : Int} {x y : D} (hw : fits = true → w = v) :
    (bif (!(isNum (ifNum 0 [x, y]))) then some (dat 34 (ifNum 0 [x, y]))
     else bif (!fits) then some (dat 34 (.agg [.lit (.int .i64 2), .lit (.int .i64 0)])) else some (dat 34 (.agg [.lit (.int .i64 0), .lit (.int .i64 w)]))) = some (dat 34 (reck fits v x y)) := by
  unfold ifNum reck
  cases [x, y].any isErr <;> cases [x, y].any isNul <;> cases fits <;> try rfl
  rw [hw rfl]
  rfl

theorem env6 : EnvOK Try.prog (envOf T6) := env5

theorem env7 : EnvOK Try.prog (envOf T7) := env6

theorem env8 : EnvOK Try.prog (envOf T8) := env7

end Go.Proofs.Ytjofcicaoofijaa
