/- Chapter 0's Low. -/
import Derived.Test.YtfladcnkphcicaaBase
import Derived.Outline
namespace Go.Proofs.Ytfladcnkphcicaa
set_option linter.unusedVariables false
set_option linter.unusedSimpArgs false
open Go.ChangeShapes Go.WideShapes Go.ChangeAt Go.RowKit

def lowI (x n : Int) : Int := (x % 18446744073709551616) % n
theorem lowI_0 (x n : Int) (h : 0 < n) : 0 ≤ lowI x n := Int.emod_nonneg _ (by omega)
theorem lowI_1 (x n : Int) (h : 0 < n) : lowI x n < n := Int.emod_lt_of_pos _ h
end Go.Proofs.Ytfladcnkphcicaa
