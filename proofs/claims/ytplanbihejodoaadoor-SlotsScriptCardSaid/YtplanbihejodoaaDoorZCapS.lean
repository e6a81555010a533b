/- cap.May and chapter 13's own May at every capability; Alike. -/
import Derived.Test.YtplanbihejodoaaDoorZCapN
import Derived.Test.YtplanbihejodoaaDoorZCapO
import Derived.Test.YtplanbihejodoaaDoorZCapQ
import Derived.Test.YtplanbihejodoaaDoorZCapR
import Derived.RegionTactic
import Derived.Deep.QuietTactic
import Derived.BigQuiet
import Derived.Lib.Hide
namespace Go.Proofs.YtplanbihejodoaaDoor
namespace CX
set_option linter.unusedVariables false
open Go.ChangeShapes Go.WideShapes Go.ChangeAt Go.RowKit

theorem capMay (a b c d e f g h : Int) (W : World) (hT : TabG W) (e1 : e ≤ 9223372036854775807) : Calls Tryd.prog 24 #[capV a b c d e f g h] W fun x W' => x = .returned (.bool (capB a b c d e f g h)) ∧ Below W.heap.size W W' := by
  by_cases h0 : a = 0 ∨ a = 7
  · exact none_may a b c d e f g h W h0
  by_cases h1 : a = 1 ∨ a = 4 ∨ a = 5 ∨ a = 6 ∨ a = 9
  · exact plain_may a b c d e f g h W h1
  by_cases h2 : a = 2
  · subst h2; exact node_may b c d e f g h W hT e1
  by_cases h3 : a = 3
  · subst h3; exact frame_may b c d e f g h W
  by_cases h8 : a = 8
  · subst h8; exact end_may b c d e f g h W
  exact no_may a b c d e f g h W (by omega)
set_option maxRecDepth 100000 in
theorem refMay13_no (a b c d e f g h : Int) (W : World) (ha : a < 0 ∨ 9 < a) : Calls Tryd.prog 32 #[capV a b c d e f g h] W fun x W' => x = .returned (.bool (capB a b c d e f g h)) ∧ Below W.heap.size W W' := by
  have hk : capB a b c d e f g h = false := by
    unfold capB
    rw [if_neg (by omega), if_neg (by omega), if_neg (by omega), if_neg (by omega), if_neg (by omega)]
  rw [hk]
  have k0 : (a == 0) = false := beq_eq_false_iff_ne.2 (by omega)
  have k1 : (a == 1) = false := beq_eq_false_iff_ne.2 (by omega)
  have k2 : (a == 2) = false := beq_eq_false_iff_ne.2 (by omega)
  have k3 : (a == 3) = false := beq_eq_false_iff_ne.2 (by omega)
  have k4 : (a == 4) = false := beq_eq_false_iff_ne.2 (by omega)
  have k5 : (a == 5) = false := beq_eq_false_iff_ne.2 (by omega)
  have k6 : (a == 6) = false := beq_eq_false_iff_ne.2 (by omega)
  have k7 : (a == 7) = false := beq_eq_false_iff_ne.2 (by omega)
  have k8 : (a == 8) = false := beq_eq_false_iff_ne.2 (by omega)
  have k9 : (a == 9) = false := beq_eq_false_iff_ne.2 (by omega)
  clear hk ha
  go_enter Tryd.func32, Tryd.ntmps32
  go_wp2
  go_ret
  exact ⟨rfl, (by repeat (first | exact Below.refl _ _ | assumption | refine below_drewN ?_ _ | refine Below.drew ?_ | refine Below.setCell ?_ (by first | exact Nat.le_refl _ | (simp; done) | (simp; omega)) _ | refine bal ?_ _ | refine bgo ?_ (by assumption)))⟩
theorem refMay13 (a b c d e f g h : Int) (W : World) : Calls Tryd.prog 32 #[capV a b c d e f g h] W fun x W' => x = .returned (.bool (capB a b c d e f g h)) ∧ Below W.heap.size W W' := by
  by_cases h0 : a = 0 ∨ a = 7
  · exact refMay13_none a b c d e f g h W h0
  by_cases h1 : a = 1 ∨ a = 4 ∨ a = 5 ∨ a = 6 ∨ a = 9
  · exact refMay13_plain a b c d e f g h W h1
  by_cases h2 : a = 2
  · subst h2
    by_cases hk : objB b = true ∧ c = 0 ∧ d = 0 ∧ g = 0 ∧ h = 0 ∧ 0 ≤ f ∧ f ≤ 12 ∧ 0 ≤ e
    · obtain ⟨hb, rfl, rfl, rfl, rfl, f0, f1, he⟩ := hk
      obtain ⟨n, rfl⟩ := Int.eq_ofNat_of_zero_le f0
      exact refMay13_node1 b e n W hb (by omega) he
    · refine refMay13_node0 b c d e f g h W ?_
      cases hb : objB b
      · exact .inl rfl
      · simp only [hb, true_and] at hk ⊢
        simp only [reduceCtorEq, false_or]
        omega
  by_cases h3 : a = 3
  · subst h3; exact refMay13_frame b c d e f g h W
  by_cases h8 : a = 8
  · subst h8; exact refMay13_end b c d e f g h W
  exact refMay13_no a b c d e f g h W (by omega)
end CX
end Go.Proofs.YtplanbihejodoaaDoor
