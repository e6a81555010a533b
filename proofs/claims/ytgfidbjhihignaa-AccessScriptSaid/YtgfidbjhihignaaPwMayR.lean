/- Chapter 3: May. -/
import Derived.Test.YtgfidbjhihignaaPwMay
import Derived.Deep.QuietTactic
import Derived.BigQuiet
import Derived.Lib.Hide
import Derived.Laws.BitsAllLaws
import Derived.WalkSmall
namespace Go.Proofs.Ytgfidbjhihignaa
set_option linter.unusedVariables false
set_option linter.unusedSimpArgs false
open Go.ChangeShapes Go.WideShapes Go.ChangeAt Go.RowKit
attribute [local go_sem] setCell_drewN alloc_drewN
theorem mayR_zero (v l r w : Bool) (W : World) : Calls Try.prog 69 #[entV v l r w 0] W fun e W' => e = .returned (.bool (mayE v l r w 0)) ∧ Below W.heap.size W W' := by
  cases v <;> cases l <;> cases r <;> cases w
  all_goals
    go_enter Try.func69, Try.ntmps69
    go_wp2
    go_ret
    exact ⟨rfl, (Below.refl _ _).alloc (Nat.le_refl _) _⟩
set_option maxHeartbeats 4000000 in
theorem mayR_in (v l r w : Bool) (f : Int) (W : World) (h0 : 0 ≤ f) (h1 : f < 64) (h2 : f ≠ 0) : Calls Try.prog 69 #[entV v l r w f] W fun e W' => e = .returned (.bool (mayE v l r w f)) ∧ Below W.heap.size W W' := by
  have h3 : (f == 0) = false := by simp; omega
  have h4 : decide (f = 0) = false := decide_eq_false h2
  have h5 : decide (0 ≤ f ∧ f < 64) = true := decide_eq_true ⟨h0, h1⟩
  cases v <;> cases l <;> cases r <;> cases w
  all_goals
    go_enter Try.func69, Try.ntmps69
    go_wp2
    go_ret
    exact ⟨ret_bool (by simp [mayE, h4, h5]), (Below.refl _ _).alloc (Nat.le_refl _) _⟩
set_option maxHeartbeats 4000000 in
theorem mayR_lo (v l r w : Bool) (f : Int) (W : World) (h0 : f < 0) : Calls Try.prog 69 #[entV v l r w f] W fun e W' => e = .returned (.bool (mayE v l r w f)) ∧ Below W.heap.size W W' := by
  have h3 : (f == 0) = false := by simp; omega
  have h4 : decide (f = 0) = false := decide_eq_false (by omega)
  have h5 : decide (0 ≤ f ∧ f < 64) = false := decide_eq_false (by omega)
  cases v <;> cases l <;> cases r <;> cases w
  all_goals
    go_enter Try.func69, Try.ntmps69
    go_wp2
    go_ret
    exact ⟨ret_bool (by simp [mayE, h4, h5]), (Below.refl _ _).alloc (Nat.le_refl _) _⟩
set_option maxHeartbeats 4000000 in
theorem mayR_hi (v l r w : Bool) (f : Int) (W : World) (h0 : 64 ≤ f) : Calls Try.prog 69 #[entV v l r w f] W fun e W' => e = .returned (.bool (mayE v l r w f)) ∧ Below W.heap.size W W' := by
  have h3 : (f == 0) = false := by simp; omega
  have h4 : decide (f = 0) = false := decide_eq_false (by omega)
  have h5 : decide (0 ≤ f ∧ f < 64) = false := decide_eq_false (by omega)
  cases v <;> cases l <;> cases r <;> cases w
  all_goals
    go_enter Try.func69, Try.ntmps69
    go_wp2
    go_ret
    exact ⟨ret_bool (by simp [mayE, h4, h5]), (Below.refl _ _).alloc (Nat.le_refl _) _⟩
theorem mayR_any (v l r w : Bool) (f : Int) (W : World) : Calls Try.prog 69 #[entV v l r w f] W fun e W' => e = .returned (.bool (mayE v l r w f)) ∧ Below W.heap.size W W' := by
  by_cases h0 : f < 0
  · exact mayR_lo v l r w f W h0
  · by_cases h1 : 64 ≤ f
    · exact mayR_hi v l r w f W h1
    · by_cases h2 : f = 0
      · subst h2; exact mayR_zero v l r w W
      · exact mayR_in v l r w f W (by omega) (by omega) h2
end Go.Proofs.Ytgfidbjhihignaa
