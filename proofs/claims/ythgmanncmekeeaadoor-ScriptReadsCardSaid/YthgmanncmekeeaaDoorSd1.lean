/- chapter 35: a text read, by the package, whatever it is. -/
import Derived.Test.YthgmanncmekeeaaDoorSd0
namespace Go.Proofs.YthgmanncmekeeaaDoor
set_option linter.unusedVariables false
open Go.ChangeShapes Go.WideShapes Go.ChangeAt Go.RowKit
namespace Sc
theorem parse_text (s : Bs) (w : World) (hE : EnvAt w) : Calls Tryd.prog 14 #[.string (bs s)] w (PaRes s w) := by
  by_cases h : 65536 < s.length
  · refine (parse_long s h w).mono ?_
    rintro e w' ⟨rfl, hb⟩
    refine ⟨.slice none 0 0, ?_, ?_, hb⟩
    · rw [parseE_long h]
    · rw [parseE_long h]
      exact World.ownsRow_nil _ _ _ _
  · exact callsIn_wide.1 (parse_in s (by omega) w hE)
end Sc
end Go.Proofs.YthgmanncmekeeaaDoor
