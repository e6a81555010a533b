/- The endpoints: who does not wait there is not found. -/
import Derived.Test.YtmbjaemflmbljaaEnd5
namespace Go.Proofs.Ytmbjaemflmbljaa
set_option linter.unusedVariables false
set_option linter.unusedSimpArgs false
open Go.ChangeShapes Go.WideShapes Go.ChangeAt Go.RowKit Go.Shelf

theorem idx_none (w : World) (k : Int) : Calls Try.prog 37 #[.slice none 0 0, .int .i64 k] w fun e w' => e = .returned (.int .i64 (-1)) ∧ w = w' := by
  go_enter Try.func37, Try.ntmps37
  go_wp2
  refine wp_loop_rounds 1 ?_
  rw [rounds_succ]
  go_wp2
  go_ret
  exact ⟨rfl, rfl⟩
theorem idx_one (w : World) (t c : Nat) (v k : Int) (hv : w.cell? ⟨t, 0, none⟩ = some (.int .i64 v)) (hk : ¬ k = v) : Calls Try.prog 37 #[.slice (some ⟨t, 0, none⟩) 1 c, .int .i64 k] w fun e w' => e = .returned (.int .i64 (-1)) ∧ w = w' := by
  have hk1 : (k == v) = false := by simpa using hk
  have hk2 : decide (k = v) = false := by simpa using hk
  go_enter Try.func37, Try.ntmps37
  go_wp2
  refine wp_loop_rounds 2 ?_
  rw [rounds_succ]
  go_wp2
  rw [rounds_succ]
  go_wp2
  go_ret
  exact ⟨rfl, rfl⟩
end Go.Proofs.Ytmbjaemflmbljaa
