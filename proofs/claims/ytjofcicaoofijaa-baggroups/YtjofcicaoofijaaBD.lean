/- Layer 3: what the rest of the functions answer. Nothing here is trusted. -/
import Derived.Test.YtjofcicaoofijaaBP6
namespace Go.Proofs.Ytjofcicaoofijaa
open Go.Ev
set_option linter.unusedVariables false

def a34 : List AV := [bxp OID 44, dat 3 .nil, dat 52 .nil]
def q34 (ds hs : List D) : Bool := match ds, hs with
  | [_, n, f], [e] => isF f && stbOK (elemsD e) (intD n)
  | _, _ => false
def g34 (ds hs : List D) : HRes := match ds, hs with
  | [_, _, _], [e] => some (unitR, rowR (sortK keyE (elemsD e)))
  | _, _ => none
def h34 : HEnt := (34, 0, preH a34 b42 q34, entH a34 b42 g34)
def H6 : HTab := h34 :: H5 kBig
def a19 : List AV := [bxp OID 44, dat 52 .nil]
def q19 (ds hs : List D) : Bool := match ds, hs with
  | [_, f], [e] => isF f && decide ((elemsD e).length ≤ 2147483648)
  | _, _ => false
def g19 (ds hs : List D) : HRes := match ds, hs with
  | [_, _], [e] => some (unitR, rowR (sortK keyE (elemsD e)))
  | _, _ => none
def h19 : HEnt := (19, 0, preH a19 b42 q19, entH a19 b42 g19)
def H7 : HTab := h19 :: H6
def e7 : FuncId × TypeId × (List AV → Bool) × (List AV → Option D) := (7, 25, preD (q2 fun x _ => sortOK x), ent [25, 3] (f2 fun x y => some (sortBag x (intD y))))
def B5 : Tab := e7 :: e9 :: B3
def e6 : FuncId × TypeId × (List AV → Bool) × (List AV → Option D) := (6, 28, yes, ent [25, 3, 22] (f3 fun x y z => some (.agg [groupBag x (intD y) (elemsD z), .lit (.bool (groupOK x (intD y) (elemsD z)))])))
def B6 : Tab := e6 :: B5
def e4 : FuncId × TypeId × (List AV → Bool) × (List AV → Option D) := (4, 4, yes, ent [] (f0 (some (.lit (.bool true)))))
def B7 : Tab := e4 :: B6

end Go.Proofs.Ytjofcicaoofijaa
