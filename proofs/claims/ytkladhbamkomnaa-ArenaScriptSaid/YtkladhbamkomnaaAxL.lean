/- ArenaScript: of any size, of any number of acts. -/
import Derived.Test.YtkladhbamkomnaaAxK
namespace Go.Proofs.Ytkladhbamkomnaa
set_option linter.unusedVariables false
set_option linter.unusedSimpArgs false
open Go.ChangeShapes Go.WideShapes Go.ChangeAt Go.RowKit Go.Shelf
open TabA

set_option maxRecDepth 100000 in
set_option maxHeartbeats 1000000 in
theorem script_no (q : Option Addr) (n c : Nat) (W : World) (F : Int) (hF : F < 1 ∨ 64 < F) (hn : n ≤ 100) :
    Calls Try.prog 3 #[.int .i64 F, .slice q n c] W fun e w' => e = .returned (.bool true) ∧ Below W.heap.size W w' := by
  have hn' : ¬ (n : Int) > 100 := by omega
  have HF := Lib.hid hF
  clear hF
  go_enter Try.func3, Try.ntmps3
  go_wp2_with (first
    | (go_at_call 9; refine (anew_no W F HF.out).mono ?_; rintro e w1 ⟨rfl, rfl⟩)
    | (go_at_call 10; refine (rnew_no W F HF.out).mono ?_; rintro e w2 ⟨rfl, rfl⟩)
    | (go_at_call 11; refine (num_any _ _).mono ?_; rintro e w3 ⟨rfl, rfl⟩)
    | (go_at_call 8; refine (awake12 _).mono ?_; rintro e w4 ⟨rfl, hb4⟩))
  go_ret
  exact ⟨rfl, hb4⟩
set_option maxRecDepth 100000 in
set_option maxHeartbeats 1000000 in
theorem walk_arenaScript {W : World} (F : Int) (w1 : (Lit.int .i64 F).wf = true) (q : Option Addr) (n c : Nat) (hx : n ≤ c ∧ c ≤ maxLen ∧ ∃ D, ActsAt W q n D) :
    Calls Try.prog 3 #[.int .i64 F, .slice q n c] W fun e w' => e = .returned (.bool true) ∧ Below W.heap.size W w' := by
  obtain ⟨h1, h2, D, hD⟩ := hx
  unfold maxLen at h2
  by_cases hn : n ≤ 100
  · by_cases hF : F < 1 ∨ 64 < F
    · exact script_no q n c W F hF hn
    · obtain ⟨k, rfl⟩ : ∃ k : Nat, F = k := ⟨F.toNat, by omega⟩
      exact script_in q n c D W k (by omega) hn hD
  · have hn' : (n : Int) > 100 := by omega
    clear hD
    go_enter Try.func3, Try.ntmps3
    go_wp2_with (go_at_call 8; refine (awake12 _).mono ?_; rintro e w3 ⟨rfl, hb3⟩)
    go_ret
    exact ⟨rfl, hb3⟩
end Go.Proofs.Ytkladhbamkomnaa
