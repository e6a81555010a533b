/- chapter 35: a text's lines; a line read, whatever it is. -/
import Derived.Test.YthgmanncmekeeaaDoorScU
import Derived.Test.YthgmanncmekeeaaDoorScW
namespace Go.Proofs.YthgmanncmekeeaaDoor
set_option linter.unusedVariables false
set_option linter.unusedSimpArgs false
open Go.ChangeShapes Go.WideShapes Go.ChangeAt Go.RowKit Go.Shelf
attribute [-go_sem] binOp_string_add binOp_string_eql binOp_string_neq run_index_string
attribute [local go_sem] Sc.bs_size
namespace Sc
theorem event_any (l : Bs) (hl : l.length ≤ 100000) (w : World) (hE : EnvAt w) : Calls Tryd.prog 29 #[.string (bs l)] w (EvRes l w) := by
  cases h : spl 32 l with
  | nil => exact absurd h (spl_ne 32 l)
  | cons a ws =>
    by_cases hk : kd a = 0
    · exact event_none l hl w a ws h hk
    · exact callsIn_wide.1 (event_in l hl w hE a ws h hk)
set_option maxRecDepth 100000 in
theorem lines_any (s : Bs) (w : World) : Calls Tryd.prog 28 #[.string (bs s)] w fun e w' => ∃ q, e = .returned (.func (.func 36) #[] #[.pointer (some ⟨q, 0, none⟩)]) ∧ w.heap.size ≤ q ∧ q < w'.heap.size ∧ w'.heap[q]? = some (.cells #[.string (bs s)] 9 (0, 0)) ∧ Below w.heap.size w w' := by
  go_enter Tryd.func28, Tryd.ntmps28
  go_wp2
  go_ret
  exact ⟨_, rfl, Nat.le_refl _, by simp, World.alloc_heap_new _ _, bal (Below.refl _ _) _⟩
end Sc
end Go.Proofs.YthgmanncmekeeaaDoor
