/- The law's own helper Low(x, n): a number from 0 to below n. -/
import Derived.Test.YtbhaagofckgbhaaDoorWord
namespace Go.Proofs.YtbhaagofckgbhaaDoor
set_option linter.unusedVariables false
open Go.ChangeShapes Go.WideShapes Go.ChangeAt Go.RowKit

def lowN (x n : Int) : Int := x % 18446744073709551616 % n
theorem lowN_bd (x n : Int) (h : 1 ≤ n) : 0 ≤ lowN x n ∧ lowN x n < n := by
  unfold lowN
  exact ⟨Int.emod_nonneg _ (by omega), Int.emod_lt_of_pos _ (by omega)⟩

theorem low_any (x n : Int) (w : World) (h : 1 ≤ n) (h' : n ≤ 1000000) :
    Calls Tryd.prog 18 #[.int .i64 x, .int .i64 n] w fun e w' => e = .returned (.int .i64 (lowN x n)) ∧ w = w' := by
  have hz : (n == 0) = false := by simp; omega
  go_enter Tryd.func18, Tryd.ntmps18
  go_wp2
  go_ret
  refine ⟨ret_int ?_, rfl⟩
  have e0 : 0 ≤ IntKind.u64.wrap x := by rw [IntKind.wrap_u64]; omega
  rw [Int.tmod_eq_emod_of_nonneg e0, IntKind.wrap_u64]
  have := lowN_bd x n h
  unfold lowN at *
  exact IntWalk.wrap64_in _ (by omega)
end Go.Proofs.YtbhaagofckgbhaaDoor
