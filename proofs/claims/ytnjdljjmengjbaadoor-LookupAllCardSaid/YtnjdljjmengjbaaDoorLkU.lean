/- LookupAll: the answers. -/
import Derived.Test.YtnjdljjmengjbaaDoorPkj
namespace Go.Proofs.YtnjdljjmengjbaaDoor
set_option linter.unusedVariables false
open Go.ChangeShapes Go.WideShapes Go.ChangeAt Go.RowKit Go.Shelf
namespace LkS
open TabS (Cp Sn zC mayC setM)
def AllR (id : Int) (g r a b : Nat) (i : Nat) : Prop := resR (cnS 5) (stO 5).2 ⟨2, id, 0, 0, (g : Nat), ((12 - r : Nat) : Int), 0, 0⟩ a 12 = (id, ((i : Nat) : Int), (0 : Int)) ∧ resR (cnS 5) (stO 5).2 ⟨2, id, 0, 0, (g : Nat), ((12 - r : Nat) : Int), 0, 0⟩ b 12 = ((0 : Int), (0 : Int), (12 : Int))
instance (id : Int) (g r a b i : Nat) : Decidable (AllR id g r a b i) := inferInstanceAs (Decidable (_ ∧ _))
theorem all_1 : ∀ g, g < 2048 → ∀ i, i < 2 → AllR 1 g 1 (g * 2 + i) ((g ^^^ 1) * 2 + i) i := by decide +kernel
theorem all_2 : ∀ g, g < 1024 → ∀ i, i < 4 → AllR 2 g 2 (g * 4 + i) ((g ^^^ 1) * 4 + i) i := by decide +kernel
theorem all_3 : ∀ g, g < 512 → ∀ i, i < 8 → AllR 3 g 3 (g * 8 + i) ((g ^^^ 1) * 8 + i) i := by decide +kernel
theorem all_4 : ∀ g, g < 256 → ∀ i, i < 16 → AllR 5 g 4 (g * 16 + i) ((g ^^^ 1) * 16 + i) i := by decide +kernel
end LkS
end Go.Proofs.YtnjdljjmengjbaaDoor
