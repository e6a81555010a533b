/- The law PhysScript: of any frames and acts. -/
import Derived.Test.YtnaiepoaikabgaaMem8
namespace Go.Proofs.Ytnaiepoaikabgaa
set_option linter.unusedVariables false
set_option linter.unusedSimpArgs false
open Go.ChangeShapes Go.WideShapes Go.ChangeAt Go.RowKit Go.Shelf

set_option maxRecDepth 100000 in
set_option maxHeartbeats 2000000 in
theorem walk_physScript {W : World} (fr : Int) (wfr : (Lit.int .i64 fr).wf = true) (p : Option Addr) (l c : Nat) (hx : l ≤ c ∧ c ≤ maxLen ∧ ∃ D, ActsAt W p l D) :
    Calls Try.prog 3 #[.int .i64 fr, .slice p l c] W fun e w' => e = .returned (.bool true) ∧ Below W.heap.size W w' := by
  obtain ⟨h1, h2, D, hD⟩ := hx
  unfold maxLen at h2
  have HD := Lib.hid hD
  clear hD wfr
  by_cases hl : 100 < l
  · go_enter Try.func3, Try.ntmps3
    go_wp2_with (first
      | (go_at_call 7; refine (awake2 _).mono ?_; rintro e w3 ⟨rfl, hb3⟩))
    go_ret
    exact ⟨rfl, hb3⟩
  have hl' : l ≤ 100 := by omega
  clear hl
  by_cases hf : fr < 1 ∨ 64 < fr
  · have HF := Lib.hid hf
    clear hf
    go_enter Try.func3, Try.ntmps3
    go_wp2_with (first
      | (go_at_call 8; refine (new_bad _ fr HF.out).mono ?_; rintro e w3 ⟨rfl, rfl⟩)
      | (go_at_call 9; refine (rnew_bad _ fr HF.out).mono ?_; rintro e w3 ⟨rfl, rfl⟩)
      | (go_at_call 10; refine (num_any _ _).mono ?_; rintro e w9 ⟨rfl, rfl⟩)
      | (go_at_call 7; refine (awake2 _).mono ?_; rintro e w8 ⟨rfl, hb8⟩))
    go_ret
    exact ⟨rfl, hb8⟩
  · obtain ⟨n, rfl⟩ := Int.eq_ofNat_of_zero_le (show 0 ≤ fr by omega)
    exact script_in n (by omega) (by omega) p l c hl' D HD.out
end Go.Proofs.Ytnaiepoaikabgaa
