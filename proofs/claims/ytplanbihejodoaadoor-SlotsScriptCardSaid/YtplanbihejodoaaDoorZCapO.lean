/- cap.May at nodes, frames, endpoints, and at what is no kind. -/
import Derived.Test.YtplanbihejodoaaDoorZCapM
import Derived.RegionTactic
namespace Go.Proofs.YtplanbihejodoaaDoor
namespace CX
set_option linter.unusedVariables false
open Go.ChangeShapes Go.WideShapes Go.ChangeAt Go.RowKit

set_option maxHeartbeats 1000000 in
theorem node_may (b c d e f g h : Int) (W : World) (hT : TabG W) (e1 : e ≤ 9223372036854775807) : Calls Tryd.prog 24 #[capV 2 b c d e f g h] W fun x W' => x = .returned (.bool (capB 2 b c d e f g h)) ∧ Below W.heap.size W W' := by
  cases ho : objB b
  all_goals
    go_enter Tryd.func24, Tryd.ntmps24
    go_wp2
    go_region
    all_goals go_wp2_with (first
      | (go_at_call 34; refine (obj_any _ _ _ _ _ _ _ _ _).mono ?_; rw [ho]; rintro x w1 ⟨rfl, hb1⟩; obtain ⟨hc1, hf1⟩ := bcell hb1)
      | (go_at_call 35; refine (guard_any _ _ _ _ _ _ _ _ _ (by exact hT.call (by repeat (first | exact Below.refl _ _ | assumption | refine below_drewN ?_ _ | refine Below.setCell ?_ (by first | exact Nat.le_refl _ | (simp; done) | (simp; omega)) _ | refine bal ?_ _ | refine bgo ?_ (by assumption)))) e1).mono ?_; rintro x w2 ⟨rfl, hb2⟩))
    all_goals
      go_ret
      exact ⟨ret_bool (by simp [capB, *]), (by repeat (first | exact Below.refl _ _ | assumption | refine below_drewN ?_ _ | refine Below.setCell ?_ (by first | exact Nat.le_refl _ | (simp; done) | (simp; omega)) _ | refine bal ?_ _ | refine bgo ?_ (by assumption)))⟩
set_option maxHeartbeats 1000000 in
theorem frame_may (b c d e f g h : Int) (W : World) : Calls Tryd.prog 24 #[capV 3 b c d e f g h] W fun x W' => x = .returned (.bool (capB 3 b c d e f g h)) ∧ Below W.heap.size W W' := by
  cases ho : objB b
  all_goals
    go_enter Tryd.func24, Tryd.ntmps24
    go_wp2
    go_region
    all_goals go_wp2_with (first
      | (go_at_call 34; refine (obj_any _ _ _ _ _ _ _ _ _).mono ?_; rw [ho]; rintro x w1 ⟨rfl, hb1⟩; obtain ⟨hc1, hf1⟩ := bcell hb1)
      | (go_at_call 36; refine (frame_any _ _ _ _ _ _ _ _ _).mono ?_; rintro x w2 ⟨rfl, hb2⟩))
    all_goals
      go_ret
      exact ⟨ret_bool (by simp [capB, *]), (by repeat (first | exact Below.refl _ _ | assumption | refine below_drewN ?_ _ | refine Below.setCell ?_ (by first | exact Nat.le_refl _ | (simp; done) | (simp; omega)) _ | refine bal ?_ _ | refine bgo ?_ (by assumption)))⟩
set_option maxHeartbeats 1000000 in
theorem end_may (b c d e f g h : Int) (W : World) : Calls Tryd.prog 24 #[capV 8 b c d e f g h] W fun x W' => x = .returned (.bool (capB 8 b c d e f g h)) ∧ Below W.heap.size W W' := by
  cases ho : objB b <;> cases hm : mayB c
  all_goals
    go_enter Tryd.func24, Tryd.ntmps24
    go_wp2
    go_region
    all_goals go_wp2_with (first
      | (go_at_call 34; refine (obj_any _ _ _ _ _ _ _ _ _).mono ?_; rw [ho]; rintro x w1 ⟨rfl, hb1⟩; obtain ⟨hc1, hf1⟩ := bcell hb1)
      | (go_at_call 37; refine (may_any _ _).mono ?_; rw [hm]; rintro x w2 ⟨rfl, rfl⟩))
    all_goals
      go_ret
      exact ⟨ret_bool (by simp [capB, *]), (by repeat (first | exact Below.refl _ _ | assumption | refine below_drewN ?_ _ | refine Below.setCell ?_ (by first | exact Nat.le_refl _ | (simp; done) | (simp; omega)) _ | refine bal ?_ _ | refine bgo ?_ (by assumption)))⟩
theorem no_may (a b c d e f g h : Int) (W : World) (ha : a < 0 ∨ 9 < a) : Calls Tryd.prog 24 #[capV a b c d e f g h] W fun x W' => x = .returned (.bool (capB a b c d e f g h)) ∧ Below W.heap.size W W' := by
  have hk : capB a b c d e f g h = false := by
    unfold capB
    rw [if_neg (by omega), if_neg (by omega), if_neg (by omega), if_neg (by omega), if_neg (by omega)]
  rw [hk]
  have k0 : (a == 0) = false := beq_eq_false_iff_ne.2 (by omega)
  have k1 : (a == 1) = false := beq_eq_false_iff_ne.2 (by omega)
  have k2 : (a == 2) = false := beq_eq_false_iff_ne.2 (by omega)
  have k3 : (a == 3) = false := beq_eq_false_iff_ne.2 (by omega)
  have k4 : (a == 4) = false := beq_eq_false_iff_ne.2 (by omega)
  have k5 : (a == 5) = false := beq_eq_false_iff_ne.2 (by omega)
  have k6 : (a == 6) = false := beq_eq_false_iff_ne.2 (by omega)
  have k7 : (a == 7) = false := beq_eq_false_iff_ne.2 (by omega)
  have k8 : (a == 8) = false := beq_eq_false_iff_ne.2 (by omega)
  have k9 : (a == 9) = false := beq_eq_false_iff_ne.2 (by omega)
  clear hk ha
  go_enter Tryd.func24, Tryd.ntmps24
  go_wp2
  go_ret
  exact ⟨rfl, (by repeat (first | exact Below.refl _ _ | assumption | refine below_drewN ?_ _ | refine Below.setCell ?_ (by first | exact Nat.le_refl _ | (simp; done) | (simp; omega)) _ | refine bal ?_ _ | refine bgo ?_ (by assumption)))⟩
end CX
end Go.Proofs.YtplanbihejodoaaDoor
