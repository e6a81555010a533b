/- Chapter 13's own May at frames and endpoints. -/
import Derived.Test.YtplanbihejodoaaDoorZCapP
import Derived.RegionTactic
namespace Go.Proofs.YtplanbihejodoaaDoor
namespace CX
set_option linter.unusedVariables false
open Go.ChangeShapes Go.WideShapes Go.ChangeAt Go.RowKit

set_option maxRecDepth 100000 in
set_option maxHeartbeats 1000000 in
theorem refMay13_frame (b c d e f g h : Int) (W : World) : Calls Tryd.prog 32 #[capV 3 b c d e f g h] W fun x W' => x = .returned (.bool (capB 3 b c d e f g h)) ∧ Below W.heap.size W W' := by
  cases ho : objB b
  all_goals
    go_enter Tryd.func32, Tryd.ntmps32
    go_wp2
    go_region
    all_goals go_wp2_with (first
      | (go_at_call 42; refine (obj13_any _ _).mono ?_; rw [ho]; rintro x w1 ⟨rfl, rfl⟩))
    all_goals
      go_ret
      exact ⟨ret_bool (by simp [capB, placeB, *] <;> omega), (by repeat (first | exact Below.refl _ _ | assumption | refine below_drewN ?_ _ | refine Below.drew ?_ | refine Below.setCell ?_ (by first | exact Nat.le_refl _ | (simp; done) | (simp; omega)) _ | refine bal ?_ _ | refine bgo ?_ (by assumption)))⟩
set_option maxRecDepth 100000 in
set_option maxHeartbeats 1000000 in
theorem refMay13_end (b c d e f g h : Int) (W : World) : Calls Tryd.prog 32 #[capV 8 b c d e f g h] W fun x W' => x = .returned (.bool (capB 8 b c d e f g h)) ∧ Below W.heap.size W W' := by
  cases ho : objB b
  all_goals
    go_enter Tryd.func32, Tryd.ntmps32
    go_wp2
    go_region
    all_goals go_wp2_with (first
      | (go_at_call 42; refine (obj13_any _ _).mono ?_; rw [ho]; rintro x w1 ⟨rfl, rfl⟩))
    all_goals
      go_ret
      exact ⟨ret_bool (by simp [capB, mayB, *] <;> omega), (by repeat (first | exact Below.refl _ _ | assumption | refine below_drewN ?_ _ | refine Below.drew ?_ | refine Below.setCell ?_ (by first | exact Nat.le_refl _ | (simp; done) | (simp; omega)) _ | refine bal ?_ _ | refine bgo ?_ (by assumption)))⟩
end CX
end Go.Proofs.YtplanbihejodoaaDoor
