/- All that the law of the document's own answers calls. Nothing here is trusted. -/
import Derived.Test.YtbabfocagkkboaaDoorTS
import Derived.Test.YtbabfocagkkboaaDoorTP
import Derived.Test.YtbabfocagkkboaaDoorTX
namespace Go.Proofs.YtbabfocagkkboaaDoor
namespace X
open Go.Ev
def ST : Tab := eAr :: e26 :: e25 :: e22 :: e12 :: eTx :: e16 :: e14 :: SM
theorem envST : EnvOK Tryd.prog (envH ST []) := envOK_cons (envOK_cons' (envOK_cons (envOK_cons (envOK_cons (envOK_cons (envOK_cons (envOK_cons envSM c14) c16) cTx) c12) c22) c25) c26) cAr
end X
end Go.Proofs.YtbabfocagkkboaaDoor

namespace Go.Proofs.YtbabfocagkkboaaDoor
namespace X
open Go.Ev
set_option linter.unusedVariables false
/- roadbook/roadbooklaw06.TreeTells -/
def t3_h : Hints := fun _ =>  none
theorem t3 (N : Nat) (x0 : D) (x1 : D) (x2 : List UInt8) (x3 : Int) : evFn Tryd.prog (envH ST []) t3_h N Tryd.f3 [dat 24 x0, dat 24 x1, dat 9 (.lit (.string x2)), dat 3 (.lit (.int .i64 x3))] =
  bif (decide (0 ≤ 100) && decide (100 < ((101 : Nat) : Int)) && decide (101 ≤ 101)) then
    bif ((decide ((szK 101 x0 100) > 100)) == false) then
      bif (decide (0 ≤ 100) && decide (100 < ((101 : Nat) : Int)) && decide (101 ≤ 101)) then
        bif ((decide ((szK 101 x1 100) > 100)) == false) then
          bif decide ((((x2).length : Nat) : Int) > 1000) then
            some (dat 4 (.lit (.bool true)))
          else bif (((mayT x0) == (mayT x0)) == true) then
              bif (((setT x0) == (setT x0)) == true) then
                bif (((textT x0) == (textT x0)) == true) then
                  bif smT x0 then
                    bif okT 130 x0 then
                      bif okT 130 (rdTree x2) then
                        bif ((eqT (rdTree x2) (rdTree x2)) == true) then
                          bif (((rdIs x2) == (rdIs x2)) == true) then
                            bif okT 130 (firstD x3) then
                              bif ((eqT (firstD x3) (firstD x3)) == true) then
                                bif okT 130 (leafD x3) then
                                  bif (((eqT x0 x1) == (eqT x0 x1)) == true) then
                                    bif ((eqT (leafD x3) (.agg [.lit (.int .i64 x3), .slice [] []])) == true) then
                                      bif (smT x0 && smT x1) then
                                        bif okT 130 (nodeD [x0, x1]) then
                                          bif ((eqT (nodeD [x0, x1]) (nodeD [x0, x1])) == true) then
                                            bif (allT x3).all (okT 130) then
                                              some (dat 4 (.lit (.bool (eq2 eqT (allT x3) (allT x3)))))
                                            else none
                                          else some (dat 4 (.lit (.bool false)))
                                        else none
                                      else none
                                    else some (dat 4 (.lit (.bool false)))
                                  else some (dat 4 (.lit (.bool false)))
                                else none
                              else bif (((eqT x0 x1) == (eqT x0 x1)) == true) then
                                  some (dat 4 (.lit (.bool false)))
                                else some (dat 4 (.lit (.bool false)))
                            else none
                          else bif (((eqT x0 x1) == (eqT x0 x1)) == true) then
                              some (dat 4 (.lit (.bool false)))
                            else some (dat 4 (.lit (.bool false)))
                        else bif (((eqT x0 x1) == (eqT x0 x1)) == true) then
                            some (dat 4 (.lit (.bool false)))
                          else some (dat 4 (.lit (.bool false)))
                      else none
                    else none
                  else none
                else bif okT 130 (rdTree x2) then
                    bif ((eqT (rdTree x2) (rdTree x2)) == true) then
                      bif (((rdIs x2) == (rdIs x2)) == true) then
                        bif okT 130 (firstD x3) then
                          bif ((eqT (firstD x3) (firstD x3)) == true) then
                            bif okT 130 (leafD x3) then
                              some (dat 4 (.lit (.bool false)))
                            else none
                          else some (dat 4 (.lit (.bool false)))
                        else none
                      else some (dat 4 (.lit (.bool false)))
                    else some (dat 4 (.lit (.bool false)))
                  else none
              else bif okT 130 (rdTree x2) then
                  bif ((eqT (rdTree x2) (rdTree x2)) == true) then
                    bif (((rdIs x2) == (rdIs x2)) == true) then
                      bif okT 130 (firstD x3) then
                        bif ((eqT (firstD x3) (firstD x3)) == true) then
                          bif okT 130 (leafD x3) then
                            some (dat 4 (.lit (.bool false)))
                          else none
                        else some (dat 4 (.lit (.bool false)))
                      else none
                    else some (dat 4 (.lit (.bool false)))
                  else some (dat 4 (.lit (.bool false)))
                else none
            else bif okT 130 (rdTree x2) then
                bif ((eqT (rdTree x2) (rdTree x2)) == true) then
                  bif (((rdIs x2) == (rdIs x2)) == true) then
                    bif okT 130 (firstD x3) then
                      bif ((eqT (firstD x3) (firstD x3)) == true) then
                        bif okT 130 (leafD x3) then
                          some (dat 4 (.lit (.bool false)))
                        else none
                      else some (dat 4 (.lit (.bool false)))
                    else none
                  else some (dat 4 (.lit (.bool false)))
                else some (dat 4 (.lit (.bool false)))
              else none
        else some (dat 4 (.lit (.bool true)))
      else none
    else some (dat 4 (.lit (.bool true)))
  else none := by kernel_rfl

end X
end Go.Proofs.YtbabfocagkkboaaDoor
