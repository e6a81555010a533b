/- kinds.Frames, carve.Meet and Within. -/
import Derived.Test.YtkladhbamkomnaaBase
import Derived.WalkSmall
import Derived.Deep.RegionWith
import Derived.Laws.Rows
import Derived.LoopN
namespace Go.Proofs.Ytkladhbamkomnaa
set_option linter.unusedVariables false
set_option linter.unusedSimpArgs false
open Go.ChangeShapes Go.WideShapes Go.ChangeAt Go.RowKit

def framesN (k s : Int) : Int :=
  if k = 1 then (if 1 ≤ s ∧ s ≤ 64 then s else 0)
  else if k = 2 then (if s = 1 ∨ s = 2 then 1 else if s = 3 then 2 else if s = 4 then 4 else 0)
  else if (k = 3 ∨ k = 4 ∨ k = 5 ∨ k = 6 ∨ k = 8 ∨ k = 9) ∧ s = 0 then 1 else 0

set_option maxHeartbeats 1000000 in
theorem frames_any (k s : Int) (w : World) : Calls Try.prog 37 #[.int .i64 k, .int .i64 s] w fun e w' => e = .returned (.int .i64 (framesN k s)) ∧ w = w' := by
  go_enter Try.func37, Try.ntmps37
  go_wp2
  all_goals go_ret
  all_goals refine ⟨ret_int ?_, rfl⟩
  all_goals (simp only [beq_iff_eq, beq_eq_false_iff_ne, ne_eq] at *)
  all_goals unfold framesN
  all_goals first
    | (repeat' split) <;> omega
    | (obtain rfl | rfl : s = 3 ∨ s = 4 := by omega
       all_goals (subst k; decide +kernel))

/-- All four are so small that sums do not wrap round. -/
def nearB (a n b k : Int) : Bool := decide (0 ≤ a ∧ a ≤ 1048576) && decide (0 ≤ n ∧ n ≤ 1048576) && decide (0 ≤ b ∧ b ≤ 1048576) && decide (0 ≤ k ∧ k ≤ 1048576)
theorem near_any (a n b k : Int) (B : Nat) (w : World) (c0 : w.cell? ⟨B, 0, none⟩ = some (.int .i64 a)) (c1 : w.cell? ⟨B, 1, none⟩ = some (.int .i64 n)) (c2 : w.cell? ⟨B, 2, none⟩ = some (.int .i64 b)) (c3 : w.cell? ⟨B, 3, none⟩ = some (.int .i64 k)) :
    Calls Try.prog 35 #[.slice (some ⟨B, 0, none⟩) 4 4] w fun e w' => e = .returned (.bool (nearB a n b k)) ∧ w = w' := by
  go_enter Try.func35, Try.ntmps35
  go_wp2
  refine wp_loop_rounds 5 ?_
  all_goals rw [rounds_succ]
  all_goals go_wp2
  all_goals try (go_ret; refine ⟨ret_bool ?_, rfl⟩; simp [nearB]; omega)
  all_goals rw [rounds_succ]
  all_goals go_wp2
  all_goals try (go_ret; refine ⟨ret_bool ?_, rfl⟩; simp [nearB]; omega)
  all_goals rw [rounds_succ]
  all_goals go_wp2
  all_goals try (go_ret; refine ⟨ret_bool ?_, rfl⟩; simp [nearB]; omega)
  all_goals rw [rounds_succ]
  all_goals go_wp2
  all_goals try (go_ret; refine ⟨ret_bool ?_, rfl⟩; simp [nearB]; omega)
  all_goals rw [rounds_succ]
  all_goals go_wp2
  all_goals try (go_ret; refine ⟨ret_bool ?_, rfl⟩; simp [nearB]; omega)

/-- What Meet tells, and Within. -/
def meetB (a n b k : Int) : Bool := nearB a n b k && decide (0 < n ∧ 0 < k ∧ a < b + k ∧ b < a + n)
def withinB (a n b k : Int) : Bool := nearB a n b k && decide (n = 0 ∨ (b ≤ a ∧ a + n ≤ b + k))
theorem near_bd {a n b k : Int} (h : nearB a n b k = true) : (0 ≤ a ∧ a ≤ 1048576) ∧ (0 ≤ n ∧ n ≤ 1048576) ∧ (0 ≤ b ∧ b ≤ 1048576) ∧ 0 ≤ k ∧ k ≤ 1048576 := by
  simp [nearB] at h; omega
theorem cellQ {W : World} {b : Nat} {cs : Array Value} {t : TypeId} (h : W.heap[b]? = some (.cells cs t (0, 0))) (j : Nat) : W.cell? ⟨b, j, none⟩ = cs[j]? := by
  simp [World.cell?, h]
theorem box4 (w : World) (a n b k : Int) (t : TypeId) : (w.alloc (.cells #[.int .i64 a, .int .i64 n, .int .i64 b, .int .i64 k] t)).cell? ⟨w.heap.size, 0, none⟩ = some (.int .i64 a) ∧ (w.alloc (.cells #[.int .i64 a, .int .i64 n, .int .i64 b, .int .i64 k] t)).cell? ⟨w.heap.size, 1, none⟩ = some (.int .i64 n) ∧
    (w.alloc (.cells #[.int .i64 a, .int .i64 n, .int .i64 b, .int .i64 k] t)).cell? ⟨w.heap.size, 2, none⟩ = some (.int .i64 b) ∧ (w.alloc (.cells #[.int .i64 a, .int .i64 n, .int .i64 b, .int .i64 k] t)).cell? ⟨w.heap.size, 3, none⟩ = some (.int .i64 k) := by
  have h := heap_alloc_new w (.cells #[.int .i64 a, .int .i64 n, .int .i64 b, .int .i64 k] t)
  exact ⟨cellQ h 0, cellQ h 1, cellQ h 2, cellQ h 3⟩
theorem meet_any (a n b k : Int) (w : World) : Calls Try.prog 21 #[.int .i64 a, .int .i64 n, .int .i64 b, .int .i64 k] w fun e w' => e = .returned (.bool (meetB a n b k)) ∧ Below w.heap.size w w' := by
  obtain ⟨q0, q1, q2, q3⟩ := box4 w a n b k 3
  cases h : nearB a n b k with
  | false =>
    go_enter Try.func21, Try.ntmps21
    go_wp2_with (go_at_call 35; refine (near_any a n b k _ _ q0 q1 q2 q3).mono ?_; rw [h]; rintro e w1 ⟨rfl, rfl⟩)
    go_ret
    exact ⟨ret_bool (by unfold meetB; rw [h]; rfl), bal (Below.refl _ _) _⟩
  | true =>
    obtain ⟨⟨a0, a1⟩, ⟨n0, n1⟩, ⟨b0, b1⟩, k0, k1⟩ := near_bd h
    go_enter Try.func21, Try.ntmps21
    go_wp2_with (go_at_call 35; refine (near_any a n b k _ _ q0 q1 q2 q3).mono ?_; rw [h]; rintro e w1 ⟨rfl, rfl⟩)
    all_goals go_ret
    all_goals refine ⟨ret_bool ?_, bal (Below.refl _ _) _⟩
    all_goals unfold meetB
    all_goals rw [h, Bool.eq_iff_iff]
    all_goals simp
    all_goals omega
theorem within_any (a n b k : Int) (w : World) : Calls Try.prog 22 #[.int .i64 a, .int .i64 n, .int .i64 b, .int .i64 k] w fun e w' => e = .returned (.bool (withinB a n b k)) ∧ Below w.heap.size w w' := by
  obtain ⟨q0, q1, q2, q3⟩ := box4 w a n b k 3
  cases h : nearB a n b k with
  | false =>
    go_enter Try.func22, Try.ntmps22
    go_wp2_with (go_at_call 35; refine (near_any a n b k _ _ q0 q1 q2 q3).mono ?_; rw [h]; rintro e w1 ⟨rfl, rfl⟩)
    go_ret
    exact ⟨ret_bool (by unfold withinB; rw [h]; rfl), bal (Below.refl _ _) _⟩
  | true =>
    obtain ⟨⟨a0, a1⟩, ⟨n0, n1⟩, ⟨b0, b1⟩, k0, k1⟩ := near_bd h
    go_enter Try.func22, Try.ntmps22
    go_wp2_with (go_at_call 35; refine (near_any a n b k _ _ q0 q1 q2 q3).mono ?_; rw [h]; rintro e w1 ⟨rfl, rfl⟩)
    all_goals go_ret
    all_goals refine ⟨ret_bool ?_, bal (Below.refl _ _) _⟩
    all_goals unfold withinB
    all_goals rw [h, Bool.eq_iff_iff]
    all_goals simp
    all_goals omega
set_option maxHeartbeats 1000000 in
theorem refMeet_any (a n b k : Int) (w : World) : Calls Try.prog 50 #[.int .i64 a, .int .i64 n, .int .i64 b, .int .i64 k] w fun e w' => e = .returned (.bool (meetB a n b k)) ∧ w = w' := by
  by_cases hk : k = 0
  all_goals
    go_enter Try.func50, Try.ntmps50
    go_wp2
    all_goals go_ret
    all_goals refine ⟨ret_bool ?_, rfl⟩
    all_goals unfold meetB nearB
    all_goals rw [Bool.eq_iff_iff]
    all_goals simp
    all_goals first | omega | (exfalso; rcases ‹(_ == _) = true ∨ (_ == _) = true› with h | h <;> (rw [beq_iff_eq] at h; omega))
set_option maxHeartbeats 1000000 in
theorem refWithin_any (a n b k : Int) (w : World) : Calls Try.prog 51 #[.int .i64 a, .int .i64 n, .int .i64 b, .int .i64 k] w fun e w' => e = .returned (.bool (withinB a n b k)) ∧ w = w' := by
  by_cases hk : k ≤ 1048576
  all_goals
    go_enter Try.func51, Try.ntmps51
    go_wp2
    all_goals go_ret
    all_goals refine ⟨ret_bool ?_, rfl⟩
    all_goals unfold withinB nearB
    all_goals rw [Bool.eq_iff_iff]
    all_goals simp
    all_goals omega

end Go.Proofs.Ytkladhbamkomnaa
