/- cap.May and chapter 13's own May: both are capB of the fields. -/
import Derived.Test.YtplanbihejodoaaDoorZCapM
import Derived.LoopTactic
namespace Go.Proofs.YtplanbihejodoaaDoor
namespace CX
set_option linter.unusedVariables false
open Go.ChangeShapes Go.WideShapes Go.ChangeAt Go.RowKit

theorem none_may (a b c d e f g h : Int) (W : World) (ha : a = 0 ∨ a = 7) : Calls Tryd.prog 24 #[capV a b c d e f g h] W fun x W' => x = .returned (.bool (capB a b c d e f g h)) ∧ Below W.heap.size W W' := by
  rcases ha with rfl | rfl
  all_goals
    go_enter Tryd.func24, Tryd.ntmps24
    go_wp2
    all_goals
      go_ret
      exact ⟨ret_bool (by simp [capB, *]), (by repeat (first | exact Below.refl _ _ | assumption | refine below_drewN ?_ _ | refine Below.setCell ?_ (by first | exact Nat.le_refl _ | (simp; done) | (simp; omega)) _ | refine bal ?_ _ | refine bgo ?_ (by assumption)))⟩
set_option maxHeartbeats 1000000 in
theorem plain_may (a b c d e f g h : Int) (W : World) (ha : a = 1 ∨ a = 4 ∨ a = 5 ∨ a = 6 ∨ a = 9) : Calls Tryd.prog 24 #[capV a b c d e f g h] W fun x W' => x = .returned (.bool (capB a b c d e f g h)) ∧ Below W.heap.size W W' := by
  rcases ha with rfl | rfl | rfl | rfl | rfl
  all_goals
    go_enter Tryd.func24, Tryd.ntmps24
    go_wp2_with (first | (go_at_call 34; refine (obj_any _ _ _ _ _ _ _ _ _).mono ?_; rintro x w1 ⟨rfl, hb1⟩))
    all_goals
      go_ret
      exact ⟨ret_bool (by simp [capB, *]), (by repeat (first | exact Below.refl _ _ | assumption | refine below_drewN ?_ _ | refine Below.setCell ?_ (by first | exact Nat.le_refl _ | (simp; done) | (simp; omega)) _ | refine bal ?_ _ | refine bgo ?_ (by assumption)))⟩
end CX
end Go.Proofs.YtplanbihejodoaaDoor
