/- Chapter 0's Low. -/
import Derived.Test.YtplanbihejodoaaDoorBase
import Derived.Outline
namespace Go.Proofs.YtplanbihejodoaaDoor
set_option linter.unusedVariables false
set_option linter.unusedSimpArgs false
open Go.ChangeShapes Go.WideShapes Go.ChangeAt Go.RowKit

def lowI (x n : Int) : Int := (x % 18446744073709551616) % n
theorem lowI_0 (x n : Int) (h : 0 < n) : 0 ≤ lowI x n := Int.emod_nonneg _ (by omega)
theorem lowI_1 (x n : Int) (h : 0 < n) : lowI x n < n := Int.emod_lt_of_pos _ h
theorem low_any (x n : Int) (w : World) (hx : -9223372036854775808 ≤ x ∧ x ≤ 9223372036854775807) (h0 : 0 < n) (h1 : n ≤ 1000000) :
    Calls Tryd.prog 23 #[.int .i64 x, .int .i64 n] w fun e w' => e = .returned (.int .i64 (lowI x n)) ∧ w = w' := by
  have l0 := lowI_0 x n h0
  have l1 := lowI_1 x n h0
  obtain ⟨hx0, hx1⟩ := hx
  by_cases h : 0 ≤ x
  · go_enter Tryd.func23, Tryd.ntmps23
    go_wp2
    go_ret
    refine ⟨?_, rfl⟩
    refine ret_int ?_
    have e : lowI x n = x % n := by unfold lowI; rw [Int.emod_eq_of_lt h (by omega)]
    rw [(show ∀ m : Int, -9223372036854775808 ≤ m ∧ m ≤ 9223372036854775807 → wrap64 m = m from fun m h => by unfold wrap64; omega) _ (by rw [← e]; omega), e]
  · have hm : x < 0 := by omega
    go_enter Tryd.func23, Tryd.ntmps23
    go_wp2
    go_ret
    refine ⟨?_, rfl⟩
    refine ret_int ?_
    have e : IntKind.u64.wrap x = x + 18446744073709551616 := by rw [IntKind.wrap_u64]; omega
    have e2 : lowI x n = (x + 18446744073709551616) % n := by unfold lowI; rw [show x % 18446744073709551616 = x + 18446744073709551616 by omega]
    rw [e, Int.tmod_eq_emod_of_nonneg (by omega), ← e2, (show ∀ m : Int, -9223372036854775808 ≤ m ∧ m ≤ 9223372036854775807 → wrap64 m = m from fun m h => by unfold wrap64; omega) _ (by omega)]
end Go.Proofs.YtplanbihejodoaaDoor
