/- package tlb: DropPage, DropSpace, DropAll. -/
import Derived.Test.YtgfidbjhihignaaTkG
import Derived.Test.YtgfidbjhihignaaTkW
namespace Go.Proofs.Ytgfidbjhihignaa
set_option linter.unusedVariables false
set_option linter.unusedSimpArgs false
open Go.ChangeShapes Go.WideShapes Go.ChangeAt Go.RowKit

def pageOut (a c : Int) (x : TransX) : Bool := x.s == a && x.p == c
def spaceOut (a : Int) (x : TransX) : Bool := x.s == a
end Go.Proofs.Ytgfidbjhihignaa
