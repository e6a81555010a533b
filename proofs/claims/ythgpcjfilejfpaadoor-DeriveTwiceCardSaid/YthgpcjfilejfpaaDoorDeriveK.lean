/- derive.kept: the rights that are in both. -/
import Derived.Test.YthgpcjfilejfpaaDoorDeriveR
import Derived.LoopTactic
namespace Go.Proofs.YthgpcjfilejfpaaDoor
set_option linter.unusedVariables false
open Go.ChangeShapes Go.WideShapes Go.ChangeAt Go.RowKit

theorem part_bd (r m : Int) (k : Nat) : 0 ≤ partN r m k ∧ partN r m k ≤ 7 := by
  unfold partN
  split <;> split <;> split <;> omega
theorem part1 (r m : Int) : partN r m 1 = partN r m 0 + (if hasB m 1 = true ∧ hasB r 1 = true then 1 else 0) := by
  simp [partN]
theorem part2 (r m : Int) : partN r m 2 = partN r m 1 + (if hasB m 2 = true ∧ hasB r 2 = true then 2 else 0) := by
  simp [partN]
theorem part3 (r m : Int) : partN r m 3 = partN r m 2 + (if hasB m 4 = true ∧ hasB r 4 = true then 4 else 0) := by
  simp [partN]
set_option maxHeartbeats 4000000 in
theorem kept_any (a b c d e f g h : Int) (m : Int) (w : World) (c0 : 0 ≤ c) (c1 : c ≤ 7) (m0 : 0 ≤ m) (m1 : m ≤ 7) :
    Calls Tryd.prog 42 #[.agg #[.int .i64 a, .int .i64 b, .int .i64 c, .int .u64 d, .int .i64 e, .int .i64 f, .int .i64 g, .int .i64 h], .int .i64 m] w fun e w' => e = .returned (.int .i64 (maskN c m)) ∧ Below w.heap.size w w' := by
  have hp := part_mask c0 c1 m0 m1
  go_enter Tryd.func42, Tryd.ntmps42
  go_wp2_with (fail)
  go_loop [5, 6] (fun s r => (r = .int .i64 1 ∧ s = .int .i64 (partN c m 0)) ∨ (r = .int .i64 2 ∧ s = .int .i64 (partN c m 1)) ∨ (r = .int .i64 4 ∧ s = .int .i64 (partN c m 2)) ∨ (r = .int .i64 8 ∧ s = .int .i64 (partN c m 3))) (fun _ r => 8 - (intOf r).toNat)
  case atStart => exact .inl ⟨rfl, by simp [partN]⟩
  case round =>
    obtain ⟨rfl, rfl⟩ | ⟨rfl, rfl⟩ | ⟨rfl, rfl⟩ | ⟨rfl, rfl⟩ := hrel
    · have P := part1 c m
      have B := part_bd c m 0
      obtain ⟨B0, B1⟩ := B
      have B2 := part_bd c m 1
      obtain ⟨B20, B21⟩ := B2
      cases h1 : hasB m 1 <;> cases h2 : hasB c 1
      all_goals
        rw [h1, h2] at P
        simp only [Bool.false_eq_true, false_and, and_false, and_self, if_false, if_true, Int.add_zero] at P
        generalize partN c m 1 = s' at *
        generalize partN c m 0 = s at *
        go_wp2
        go_step3
        go_wp2
        go_step3
        go_wp2_with (go_at_call 30; refine (has_any _ _ _ (by omega) (by omega) (by decide) (by decide)).mono ?_; (first | rw [h1] | rw [h2]); rintro e w1 ⟨rfl, rfl⟩)
        go_wp2
        rw [Exit.noGoto_normal]
        go_wp2
        go_round
        all_goals first | (simp [intOf]; done) | exact .inr (.inl ⟨by go_num, by rw [P]⟩)
    · have P := part2 c m
      have B := part_bd c m 1
      obtain ⟨B0, B1⟩ := B
      have B2 := part_bd c m 2
      obtain ⟨B20, B21⟩ := B2
      cases h1 : hasB m 2 <;> cases h2 : hasB c 2
      all_goals
        rw [h1, h2] at P
        simp only [Bool.false_eq_true, false_and, and_false, and_self, if_false, if_true, Int.add_zero] at P
        generalize partN c m 2 = s' at *
        generalize partN c m 1 = s at *
        go_wp2
        go_step3
        go_wp2
        go_step3
        go_wp2_with (go_at_call 30; refine (has_any _ _ _ (by omega) (by omega) (by decide) (by decide)).mono ?_; (first | rw [h1] | rw [h2]); rintro e w1 ⟨rfl, rfl⟩)
        go_wp2
        rw [Exit.noGoto_normal]
        go_wp2
        go_round
        all_goals first | (simp [intOf]; done) | exact .inr (.inr (.inl ⟨by go_num, by rw [P]⟩))
    · have P := part3 c m
      have B := part_bd c m 2
      obtain ⟨B0, B1⟩ := B
      have B2 := part_bd c m 3
      obtain ⟨B20, B21⟩ := B2
      cases h1 : hasB m 4 <;> cases h2 : hasB c 4
      all_goals
        rw [h1, h2] at P
        simp only [Bool.false_eq_true, false_and, and_false, and_self, if_false, if_true, Int.add_zero] at P
        generalize partN c m 3 = s' at *
        generalize partN c m 2 = s at *
        go_wp2
        go_step3
        go_wp2
        go_step3
        go_wp2_with (go_at_call 30; refine (has_any _ _ _ (by omega) (by omega) (by decide) (by decide)).mono ?_; (first | rw [h1] | rw [h2]); rintro e w1 ⟨rfl, rfl⟩)
        go_wp2
        rw [Exit.noGoto_normal]
        go_wp2
        go_round
        all_goals first | (simp [intOf]; done) | exact .inr (.inr (.inr ⟨by go_num, by rw [P]⟩))
    · go_wp2_with (fail)
      go_ret
      exact ⟨rfl, (Below.refl _ _).alloc (Nat.le_refl _) _⟩
end Go.Proofs.YthgpcjfilejfpaaDoor
