/- Rights, as derive and cap use them: May, Has, kept; chapter 9's own May and Mask. -/
import Derived.Test.YtplanbihejodoaaDoorRows
import Derived.Test.YtplanbihejodoaaDoorFrame
import Derived.WalkKit
import Derived.ProofKit
import Derived.WalkSmall
import Derived.Lib.Hide
namespace Go.Proofs.YtplanbihejodoaaDoor
namespace CX
set_option linter.unusedVariables false
open Go.ChangeShapes Go.WideShapes Go.ChangeAt Go.RowKit

theorem ret_bool {a b : Bool} (h : a = b) : Ending.returned (.bool a) = .returned (.bool b) := by rw [h]
theorem ret_int {k : IntKind} {a b : Int} (h : a = b) : Ending.returned (.int k a) = .returned (.int k b) := by rw [h]
def mayB (r : Int) : Bool := decide (0 ≤ r ∧ r ≤ 7)
theorem mayB_mk {r : Int} (h : 0 ≤ r) (h' : r ≤ 7) : mayB r = true := decide_eq_true ⟨h, h'⟩
theorem mayB_no {r : Int} (h : r < 0 ∨ 7 < r) : mayB r = false := decide_eq_false (by omega)
theorem may_any (r : Int) (w : World) : Calls Tryd.prog 37 #[.int .i64 r] w fun e w' => e = .returned (.bool (mayB r)) ∧ w = w' := by
  go_enter Tryd.func37, Tryd.ntmps37
  go_wp2
  all_goals go_ret
  all_goals refine ⟨ret_bool ?_, rfl⟩
  all_goals rw [Bool.eq_iff_iff]
  all_goals simp [mayB]
  all_goals omega
def maskN (a b : Int) : Int := bits BinOp.and IntKind.i64 a b
def hasB (r n : Int) : Bool := maskN r n == n
def partN (r m : Int) (k : Nat) : Int := (if 0 < k ∧ hasB m 1 = true ∧ hasB r 1 = true then 1 else 0) + (if 1 < k ∧ hasB m 2 = true ∧ hasB r 2 = true then 2 else 0) + (if 2 < k ∧ hasB m 4 = true ∧ hasB r 4 = true then 4 else 0)
theorem part_key : ∀ r : Nat, r < 8 → ∀ m : Nat, m < 8 → partN r m 3 = maskN r m := by decide +kernel
theorem part_mask {r m : Int} (h0 : 0 ≤ r) (h1 : r ≤ 7) (h2 : 0 ≤ m) (h3 : m ≤ 7) : partN r m 3 = maskN r m := by
  obtain ⟨a, rfl⟩ := Int.eq_ofNat_of_zero_le h0
  obtain ⟨b, rfl⟩ := Int.eq_ofNat_of_zero_le h2
  exact part_key a (by omega) b (by omega)
end CX
end Go.Proofs.YtplanbihejodoaaDoor
