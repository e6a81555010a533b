/- ThreadScript: of any number of acts. -/
import Derived.Test.YtiagkoiikmmgdaaTi7
namespace Go.Proofs.Ytiagkoiikmmgdaa
set_option linter.unusedVariables false
set_option linter.unusedSimpArgs false
open Go.ChangeShapes Go.WideShapes Go.ChangeAt Go.RowKit Go.Shelf
open TabT

set_option maxRecDepth 100000 in
set_option maxHeartbeats 1000000 in
theorem walk_threadScript {W : World} (q : Option Addr) (n c : Nat) (hx : n ≤ c ∧ c ≤ maxLen ∧ ∃ D, ActsAt W q n D) (who : Int) (w1 : (Lit.int .i64 who).wf = true) :
    Calls Try.prog 3 #[.slice q n c, .int .i64 who] W fun e w' => e = .returned (.bool true) ∧ Below W.heap.size W w' := by
  obtain ⟨h1, h2, D, hD⟩ := hx
  unfold maxLen at h2
  by_cases hn : n ≤ 120
  · exact script_any q n c D who W hn hD
  · have hn' : (n : Int) > 120 := by omega
    clear hD
    go_enter Try.func3, Try.ntmps3
    go_wp2_with (go_at_call 6; refine (awake20 _).mono ?_; rintro e w3 ⟨rfl, hb3⟩)
    go_ret
    exact ⟨rfl, hb3⟩
end Go.Proofs.Ytiagkoiikmmgdaa
