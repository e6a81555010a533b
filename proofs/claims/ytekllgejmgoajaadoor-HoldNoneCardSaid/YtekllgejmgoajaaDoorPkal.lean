import Derived.Test.YtekllgejmgoajaaDoorPkak
import Derived.RegionTactic
import Derived.LoopTactic
import Derived.Deep.QuietTactic
import Derived.BigQuiet
import Derived.Lib.Hide
namespace Go.Proofs.YtekllgejmgoajaaDoor
set_option linter.unusedVariables false
set_option linter.unusedSimpArgs false
set_option maxRecDepth 100000
set_option maxHeartbeats 8000000
section
namespace CX
open Go.ChangeShapes Go.WideShapes Go.ChangeAt Go.RowKit
theorem node_may (b c d e f g h : Int) (W : World) (hT : TabG W) (e1 : e ≤ 9223372036854775807) : Calls Tryd.prog 45 #[capV 2 b c d e f g h] W fun x W' => x = .returned (.bool (capB 2 b c d e f g h)) ∧ Below W.heap.size W W' := by
 cases ho : objB b
 all_goals
  go_enter Tryd.func45, Tryd.ntmps45
  go_wp2
  go_region
  all_goals go_wp2_with (first
   | (go_at_call 63; refine (obj_any _ _ _ _ _ _ _ _ _).mono ?_; rw [ho]; rintro x w1 ⟨rfl, hb1⟩; obtain ⟨hc1, hf1⟩ := bcell hb1)
   | (go_at_call 64; refine (guard_any _ _ _ _ _ _ _ _ _ (by exact hT.call (by repeat (first | exact Below.refl _ _ | assumption | refine below_drewN ?_ _ | refine Below.setCell ?_ (by first | exact Nat.le_refl _ | (simp; done) | (simp; omega)) _ | refine bal ?_ _ | refine bgo ?_ (by assumption)))) e1).mono ?_; rintro x w2 ⟨rfl, hb2⟩))
  all_goals
   go_ret
   exact ⟨ret_bool (by simp [capB, *]), (by repeat (first | exact Below.refl _ _ | assumption | refine below_drewN ?_ _ | refine Below.setCell ?_ (by first | exact Nat.le_refl _ | (simp; done) | (simp; omega)) _ | refine bal ?_ _ | refine bgo ?_ (by assumption)))⟩
theorem frame_may (b c d e f g h : Int) (W : World) : Calls Tryd.prog 45 #[capV 3 b c d e f g h] W fun x W' => x = .returned (.bool (capB 3 b c d e f g h)) ∧ Below W.heap.size W W' := by
 cases ho : objB b
 all_goals
  go_enter Tryd.func45, Tryd.ntmps45
  go_wp2
  go_region
  all_goals go_wp2_with (first
   | (go_at_call 63; refine (obj_any _ _ _ _ _ _ _ _ _).mono ?_; rw [ho]; rintro x w1 ⟨rfl, hb1⟩; obtain ⟨hc1, hf1⟩ := bcell hb1)
   | (go_at_call 65; refine (frame_any _ _ _ _ _ _ _ _ _).mono ?_; rintro x w2 ⟨rfl, hb2⟩))
  all_goals
   go_ret
   exact ⟨ret_bool (by simp [capB, *]), (by repeat (first | exact Below.refl _ _ | assumption | refine below_drewN ?_ _ | refine Below.setCell ?_ (by first | exact Nat.le_refl _ | (simp; done) | (simp; omega)) _ | refine bal ?_ _ | refine bgo ?_ (by assumption)))⟩
theorem end_may (b c d e f g h : Int) (W : World) : Calls Tryd.prog 45 #[capV 8 b c d e f g h] W fun x W' => x = .returned (.bool (capB 8 b c d e f g h)) ∧ Below W.heap.size W W' := by
 cases ho : objB b <;> cases hm : mayB c
 all_goals
  go_enter Tryd.func45, Tryd.ntmps45
  go_wp2
  go_region
  all_goals go_wp2_with (first
   | (go_at_call 63; refine (obj_any _ _ _ _ _ _ _ _ _).mono ?_; rw [ho]; rintro x w1 ⟨rfl, hb1⟩; obtain ⟨hc1, hf1⟩ := bcell hb1)
   | (go_at_call 50; refine (may_any _ _).mono ?_; rw [hm]; rintro x w2 ⟨rfl, rfl⟩))
  all_goals
   go_ret
   exact ⟨ret_bool (by simp [capB, *]), (by repeat (first | exact Below.refl _ _ | assumption | refine below_drewN ?_ _ | refine Below.setCell ?_ (by first | exact Nat.le_refl _ | (simp; done) | (simp; omega)) _ | refine bal ?_ _ | refine bgo ?_ (by assumption)))⟩
theorem no_may (a b c d e f g h : Int) (W : World) (ha : a < 0 ∨ 9 < a) : Calls Tryd.prog 45 #[capV a b c d e f g h] W fun x W' => x = .returned (.bool (capB a b c d e f g h)) ∧ Below W.heap.size W W' := by
 have hk : capB a b c d e f g h = false := by
  unfold capB
  rw [if_neg (by omega), if_neg (by omega), if_neg (by omega), if_neg (by omega), if_neg (by omega)]
 rw [hk]
 have k0 : (a == 0) = false := beq_eq_false_iff_ne.2 (by omega)
 have k1 : (a == 1) = false := beq_eq_false_iff_ne.2 (by omega)
 have k2 : (a == 2) = false := beq_eq_false_iff_ne.2 (by omega)
 have k3 : (a == 3) = false := beq_eq_false_iff_ne.2 (by omega)
 have k4 : (a == 4) = false := beq_eq_false_iff_ne.2 (by omega)
 have k5 : (a == 5) = false := beq_eq_false_iff_ne.2 (by omega)
 have k6 : (a == 6) = false := beq_eq_false_iff_ne.2 (by omega)
 have k7 : (a == 7) = false := beq_eq_false_iff_ne.2 (by omega)
 have k8 : (a == 8) = false := beq_eq_false_iff_ne.2 (by omega)
 have k9 : (a == 9) = false := beq_eq_false_iff_ne.2 (by omega)
 clear hk ha
 go_enter Tryd.func45, Tryd.ntmps45
 go_wp2
 go_ret
 exact ⟨rfl, (by repeat (first | exact Below.refl _ _ | assumption | refine below_drewN ?_ _ | refine Below.setCell ?_ (by first | exact Nat.le_refl _ | (simp; done) | (simp; omega)) _ | refine bal ?_ _ | refine bgo ?_ (by assumption)))⟩
theorem capMay (a b c d e f g h : Int) (W : World) (hT : TabG W) (e1 : e ≤ 9223372036854775807) : Calls Tryd.prog 45 #[capV a b c d e f g h] W fun x W' => x = .returned (.bool (capB a b c d e f g h)) ∧ Below W.heap.size W W' := by
 by_cases h0 : a = 0 ∨ a = 7
 ·exact none_may a b c d e f g h W h0
 by_cases h1 : a = 1 ∨ a = 4 ∨ a = 5 ∨ a = 6 ∨ a = 9
 ·exact plain_may a b c d e f g h W h1
 by_cases h2 : a = 2
 ·subst h2; exact node_may b c d e f g h W hT e1
 by_cases h3 : a = 3
 ·subst h3; exact frame_may b c d e f g h W
 by_cases h8 : a = 8
 ·subst h8; exact end_may b c d e f g h W
 exact no_may a b c d e f g h W (by omega)
end CX
end
end Go.Proofs.YtekllgejmgoajaaDoor
