/- LookupTwo: the answer. -/
import Derived.Test.YtnjdljjmengjbaaDoorPkj
namespace Go.Proofs.YtnjdljjmengjbaaDoor
set_option linter.unusedVariables false
open Go.ChangeShapes Go.WideShapes Go.ChangeAt Go.RowKit Go.Shelf
namespace LkS
open TabS (Cp Sn zC mayC setM)
theorem two_res : ∀ i, i < 16 → ∀ g, g < 32 → ∀ j, j < 8 → resR (setM (cnS 5) 5 (i : Nat) ⟨2, 3, 0, 0, (g : Nat), 5, 0, 0⟩) (stO 5).2 ⟨2, 5, 0, 0, 0, 0, 0, 0⟩ (i * 256 + g * 8 + j) 12 = ((3 : Int), ((j : Nat) : Int), (0 : Int)) := by decide +kernel
end LkS
end Go.Proofs.YtnjdljjmengjbaaDoor
