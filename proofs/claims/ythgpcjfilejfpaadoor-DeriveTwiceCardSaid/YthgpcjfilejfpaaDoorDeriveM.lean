/- Chapter 9's own Mask, at rights: each pair is walked. -/
import Derived.Test.YthgpcjfilejfpaaDoorDeriveR
import Derived.LoopTactic
namespace Go.Proofs.YthgpcjfilejfpaaDoor
set_option linter.unusedVariables false
open Go.ChangeShapes Go.WideShapes Go.ChangeAt Go.RowKit

set_option maxHeartbeats 8000000 in
theorem mask9_0 (m : Int) (w : World) (h2 : 0 ≤ m) (h3 : m ≤ 7) :
    Calls Tryd.prog 44 #[.int .i64 0, .int .i64 m] w fun e w' => e = .returned (.int .i64 (maskN 0 m)) ∧ w = w' := by
  have m1 := mayB_mk (show (0 : Int) ≤ 0 by decide) (by decide)
  have m2 := mayB_mk h2 h3
  obtain rfl | rfl | rfl | rfl | rfl | rfl | rfl | rfl : m = 0 ∨ m = 1 ∨ m = 2 ∨ m = 3 ∨ m = 4 ∨ m = 5 ∨ m = 6 ∨ m = 7 := by omega
  all_goals
    go_enter Tryd.func44, Tryd.ntmps44
    go_wp2_with (go_at_call 43; refine (refMay9 _ _).mono ?_; rintro e w' ⟨rfl, rfl⟩)
    refine wp_loop_rounds 4 ?_
    rw [rounds_succ]; go_wp2
    rw [rounds_succ]; go_wp2
    rw [rounds_succ]; go_wp2
    rw [rounds_succ]; go_wp2
    go_ret
    exact ⟨ret_int (by decide +kernel), rfl⟩
set_option maxHeartbeats 8000000 in
theorem mask9_1 (m : Int) (w : World) (h2 : 0 ≤ m) (h3 : m ≤ 7) :
    Calls Tryd.prog 44 #[.int .i64 1, .int .i64 m] w fun e w' => e = .returned (.int .i64 (maskN 1 m)) ∧ w = w' := by
  have m1 := mayB_mk (show (0 : Int) ≤ 1 by decide) (by decide)
  have m2 := mayB_mk h2 h3
  obtain rfl | rfl | rfl | rfl | rfl | rfl | rfl | rfl : m = 0 ∨ m = 1 ∨ m = 2 ∨ m = 3 ∨ m = 4 ∨ m = 5 ∨ m = 6 ∨ m = 7 := by omega
  all_goals
    go_enter Tryd.func44, Tryd.ntmps44
    go_wp2_with (go_at_call 43; refine (refMay9 _ _).mono ?_; rintro e w' ⟨rfl, rfl⟩)
    refine wp_loop_rounds 4 ?_
    rw [rounds_succ]; go_wp2
    rw [rounds_succ]; go_wp2
    rw [rounds_succ]; go_wp2
    rw [rounds_succ]; go_wp2
    go_ret
    exact ⟨ret_int (by decide +kernel), rfl⟩
set_option maxHeartbeats 8000000 in
theorem mask9_2 (m : Int) (w : World) (h2 : 0 ≤ m) (h3 : m ≤ 7) :
    Calls Tryd.prog 44 #[.int .i64 2, .int .i64 m] w fun e w' => e = .returned (.int .i64 (maskN 2 m)) ∧ w = w' := by
  have m1 := mayB_mk (show (0 : Int) ≤ 2 by decide) (by decide)
  have m2 := mayB_mk h2 h3
  obtain rfl | rfl | rfl | rfl | rfl | rfl | rfl | rfl : m = 0 ∨ m = 1 ∨ m = 2 ∨ m = 3 ∨ m = 4 ∨ m = 5 ∨ m = 6 ∨ m = 7 := by omega
  all_goals
    go_enter Tryd.func44, Tryd.ntmps44
    go_wp2_with (go_at_call 43; refine (refMay9 _ _).mono ?_; rintro e w' ⟨rfl, rfl⟩)
    refine wp_loop_rounds 4 ?_
    rw [rounds_succ]; go_wp2
    rw [rounds_succ]; go_wp2
    rw [rounds_succ]; go_wp2
    rw [rounds_succ]; go_wp2
    go_ret
    exact ⟨ret_int (by decide +kernel), rfl⟩
set_option maxHeartbeats 8000000 in
theorem mask9_3 (m : Int) (w : World) (h2 : 0 ≤ m) (h3 : m ≤ 7) :
    Calls Tryd.prog 44 #[.int .i64 3, .int .i64 m] w fun e w' => e = .returned (.int .i64 (maskN 3 m)) ∧ w = w' := by
  have m1 := mayB_mk (show (0 : Int) ≤ 3 by decide) (by decide)
  have m2 := mayB_mk h2 h3
  obtain rfl | rfl | rfl | rfl | rfl | rfl | rfl | rfl : m = 0 ∨ m = 1 ∨ m = 2 ∨ m = 3 ∨ m = 4 ∨ m = 5 ∨ m = 6 ∨ m = 7 := by omega
  all_goals
    go_enter Tryd.func44, Tryd.ntmps44
    go_wp2_with (go_at_call 43; refine (refMay9 _ _).mono ?_; rintro e w' ⟨rfl, rfl⟩)
    refine wp_loop_rounds 4 ?_
    rw [rounds_succ]; go_wp2
    rw [rounds_succ]; go_wp2
    rw [rounds_succ]; go_wp2
    rw [rounds_succ]; go_wp2
    go_ret
    exact ⟨ret_int (by decide +kernel), rfl⟩
set_option maxHeartbeats 8000000 in
theorem mask9_4 (m : Int) (w : World) (h2 : 0 ≤ m) (h3 : m ≤ 7) :
    Calls Tryd.prog 44 #[.int .i64 4, .int .i64 m] w fun e w' => e = .returned (.int .i64 (maskN 4 m)) ∧ w = w' := by
  have m1 := mayB_mk (show (0 : Int) ≤ 4 by decide) (by decide)
  have m2 := mayB_mk h2 h3
  obtain rfl | rfl | rfl | rfl | rfl | rfl | rfl | rfl : m = 0 ∨ m = 1 ∨ m = 2 ∨ m = 3 ∨ m = 4 ∨ m = 5 ∨ m = 6 ∨ m = 7 := by omega
  all_goals
    go_enter Tryd.func44, Tryd.ntmps44
    go_wp2_with (go_at_call 43; refine (refMay9 _ _).mono ?_; rintro e w' ⟨rfl, rfl⟩)
    refine wp_loop_rounds 4 ?_
    rw [rounds_succ]; go_wp2
    rw [rounds_succ]; go_wp2
    rw [rounds_succ]; go_wp2
    rw [rounds_succ]; go_wp2
    go_ret
    exact ⟨ret_int (by decide +kernel), rfl⟩
set_option maxHeartbeats 8000000 in
theorem mask9_5 (m : Int) (w : World) (h2 : 0 ≤ m) (h3 : m ≤ 7) :
    Calls Tryd.prog 44 #[.int .i64 5, .int .i64 m] w fun e w' => e = .returned (.int .i64 (maskN 5 m)) ∧ w = w' := by
  have m1 := mayB_mk (show (0 : Int) ≤ 5 by decide) (by decide)
  have m2 := mayB_mk h2 h3
  obtain rfl | rfl | rfl | rfl | rfl | rfl | rfl | rfl : m = 0 ∨ m = 1 ∨ m = 2 ∨ m = 3 ∨ m = 4 ∨ m = 5 ∨ m = 6 ∨ m = 7 := by omega
  all_goals
    go_enter Tryd.func44, Tryd.ntmps44
    go_wp2_with (go_at_call 43; refine (refMay9 _ _).mono ?_; rintro e w' ⟨rfl, rfl⟩)
    refine wp_loop_rounds 4 ?_
    rw [rounds_succ]; go_wp2
    rw [rounds_succ]; go_wp2
    rw [rounds_succ]; go_wp2
    rw [rounds_succ]; go_wp2
    go_ret
    exact ⟨ret_int (by decide +kernel), rfl⟩
set_option maxHeartbeats 8000000 in
theorem mask9_6 (m : Int) (w : World) (h2 : 0 ≤ m) (h3 : m ≤ 7) :
    Calls Tryd.prog 44 #[.int .i64 6, .int .i64 m] w fun e w' => e = .returned (.int .i64 (maskN 6 m)) ∧ w = w' := by
  have m1 := mayB_mk (show (0 : Int) ≤ 6 by decide) (by decide)
  have m2 := mayB_mk h2 h3
  obtain rfl | rfl | rfl | rfl | rfl | rfl | rfl | rfl : m = 0 ∨ m = 1 ∨ m = 2 ∨ m = 3 ∨ m = 4 ∨ m = 5 ∨ m = 6 ∨ m = 7 := by omega
  all_goals
    go_enter Tryd.func44, Tryd.ntmps44
    go_wp2_with (go_at_call 43; refine (refMay9 _ _).mono ?_; rintro e w' ⟨rfl, rfl⟩)
    refine wp_loop_rounds 4 ?_
    rw [rounds_succ]; go_wp2
    rw [rounds_succ]; go_wp2
    rw [rounds_succ]; go_wp2
    rw [rounds_succ]; go_wp2
    go_ret
    exact ⟨ret_int (by decide +kernel), rfl⟩
set_option maxHeartbeats 8000000 in
theorem mask9_7 (m : Int) (w : World) (h2 : 0 ≤ m) (h3 : m ≤ 7) :
    Calls Tryd.prog 44 #[.int .i64 7, .int .i64 m] w fun e w' => e = .returned (.int .i64 (maskN 7 m)) ∧ w = w' := by
  have m1 := mayB_mk (show (0 : Int) ≤ 7 by decide) (by decide)
  have m2 := mayB_mk h2 h3
  obtain rfl | rfl | rfl | rfl | rfl | rfl | rfl | rfl : m = 0 ∨ m = 1 ∨ m = 2 ∨ m = 3 ∨ m = 4 ∨ m = 5 ∨ m = 6 ∨ m = 7 := by omega
  all_goals
    go_enter Tryd.func44, Tryd.ntmps44
    go_wp2_with (go_at_call 43; refine (refMay9 _ _).mono ?_; rintro e w' ⟨rfl, rfl⟩)
    refine wp_loop_rounds 4 ?_
    rw [rounds_succ]; go_wp2
    rw [rounds_succ]; go_wp2
    rw [rounds_succ]; go_wp2
    rw [rounds_succ]; go_wp2
    go_ret
    exact ⟨ret_int (by decide +kernel), rfl⟩
theorem mask9 (r m : Int) (w : World) (h0 : 0 ≤ r) (h1 : r ≤ 7) (h2 : 0 ≤ m) (h3 : m ≤ 7) :
    Calls Tryd.prog 44 #[.int .i64 r, .int .i64 m] w fun e w' => e = .returned (.int .i64 (maskN r m)) ∧ w = w' := by
  obtain rfl | rfl | rfl | rfl | rfl | rfl | rfl | rfl : r = 0 ∨ r = 1 ∨ r = 2 ∨ r = 3 ∨ r = 4 ∨ r = 5 ∨ r = 6 ∨ r = 7 := by omega
  · exact mask9_0 m w h2 h3
  · exact mask9_1 m w h2 h3
  · exact mask9_2 m w h2 h3
  · exact mask9_3 m w h2 h3
  · exact mask9_4 m w h2 h3
  · exact mask9_5 m w h2 h3
  · exact mask9_6 m w h2 h3
  · exact mask9_7 m w h2 h3
end Go.Proofs.YthgpcjfilejfpaaDoor
