/- The walks of the laws on rights. -/
import Derived.Test.YtenbnclalcgdkaaRights
import Derived.Test.YtenbnclalcgdkaaFrame
import Derived.Lib.Hide
namespace Go.Proofs.Ytenbnclalcgdkaa
set_option linter.unusedVariables false
open Go.ChangeShapes Go.WideShapes Go.ChangeAt Go.RowKit

theorem mayR_any (r : Int) (w : World) : Calls Try.prog 32 #[.int .i64 r] w fun e w' => e = .returned (.bool (mayB r)) ∧ w = w' := by
  go_enter Try.func32, Try.ntmps32
  go_wp2
  all_goals go_ret
  all_goals refine ⟨ret_bool ?_, rfl⟩
  · by_cases h : r ≤ 7
    · rw [mayB_mk ‹_› h]; exact decide_eq_true h
    · rw [mayB_no (by omega)]; exact decide_eq_false h
  · rw [mayB_no (by omega)]

set_option maxHeartbeats 2000000 in
theorem textR_in (r : Int) (w : World) (h0 : 0 ≤ r) (h7 : r ≤ 7) : Calls Try.prog 28 #[.int .i64 r] w fun e w' => e = .returned (.string (textB r)) ∧ w = w' := by
  have m1 := mayB_mk h0 h7
  obtain rfl | rfl | rfl | rfl | rfl | rfl | rfl | rfl : r = 0 ∨ r = 1 ∨ r = 2 ∨ r = 3 ∨ r = 4 ∨ r = 5 ∨ r = 6 ∨ r = 7 := by omega
  all_goals
    go_enter Try.func28, Try.ntmps28
    go_wp2_with (go_at_call 32; refine (mayR_any _ _).mono ?_; rintro e w' ⟨rfl, rfl⟩)
    refine wp_loop_rounds 4 ?_
    rw [rounds_succ]; go_wp2
    rw [rounds_succ]; go_wp2
    rw [rounds_succ]; go_wp2
    rw [rounds_succ]; go_wp2
    go_ret
    exact ⟨rfl, rfl⟩

theorem bytes_of {s : ByteArray} {l : List UInt8} (e : l = s.toList) : s = ⟨l.toArray⟩ := by
  rw [ByteArray.toList_eq] at e; subst e; cases s; simp
theorem textB0 : textB 0 = ⟨#[45, 45, 45]⟩ := rfl
set_option maxHeartbeats 1000000 in
theorem parseR_0 (w : World) : Calls Try.prog 12 #[.string ⟨#[45, 45, 45]⟩] w fun e w' => e = .returned (.tuple #[.int .i64 0, .int .i64 0]) ∧ w = w' := by
  have e0 := textB0
  go_enter Try.func12, Try.ntmps12
  go_wp2
  refine wp_loop_rounds 1 ?_
  rw [rounds_succ]; go_wp2_with (go_at_call 28; refine (textR_in _ _ (by decide) (by decide)).mono ?_; rintro e w' ⟨rfl, rfl⟩)
  go_ret2
  exact ⟨rfl, rfl⟩
theorem textB1 : textB 1 = ⟨#[114, 45, 45]⟩ := rfl
set_option maxHeartbeats 1000000 in
theorem parseR_1 (w : World) : Calls Try.prog 12 #[.string ⟨#[114, 45, 45]⟩] w fun e w' => e = .returned (.tuple #[.int .i64 1, .int .i64 0]) ∧ w = w' := by
  have e0 := textB0
  have e1 := textB1
  go_enter Try.func12, Try.ntmps12
  go_wp2
  refine wp_loop_rounds 2 ?_
  rw [rounds_succ]; go_wp2_with (go_at_call 28; refine (textR_in _ _ (by decide) (by decide)).mono ?_; rintro e w' ⟨rfl, rfl⟩)
  rw [rounds_succ]; go_wp2_with (go_at_call 28; refine (textR_in _ _ (by decide) (by decide)).mono ?_; rintro e w' ⟨rfl, rfl⟩)
  go_ret2
  exact ⟨rfl, rfl⟩
theorem textB2 : textB 2 = ⟨#[45, 119, 45]⟩ := rfl
set_option maxHeartbeats 1000000 in
theorem parseR_2 (w : World) : Calls Try.prog 12 #[.string ⟨#[45, 119, 45]⟩] w fun e w' => e = .returned (.tuple #[.int .i64 2, .int .i64 0]) ∧ w = w' := by
  have e0 := textB0
  have e1 := textB1
  have e2 := textB2
  go_enter Try.func12, Try.ntmps12
  go_wp2
  refine wp_loop_rounds 3 ?_
  rw [rounds_succ]; go_wp2_with (go_at_call 28; refine (textR_in _ _ (by decide) (by decide)).mono ?_; rintro e w' ⟨rfl, rfl⟩)
  rw [rounds_succ]; go_wp2_with (go_at_call 28; refine (textR_in _ _ (by decide) (by decide)).mono ?_; rintro e w' ⟨rfl, rfl⟩)
  rw [rounds_succ]; go_wp2_with (go_at_call 28; refine (textR_in _ _ (by decide) (by decide)).mono ?_; rintro e w' ⟨rfl, rfl⟩)
  go_ret2
  exact ⟨rfl, rfl⟩
theorem textB3 : textB 3 = ⟨#[114, 119, 45]⟩ := rfl
set_option maxHeartbeats 1000000 in
theorem parseR_3 (w : World) : Calls Try.prog 12 #[.string ⟨#[114, 119, 45]⟩] w fun e w' => e = .returned (.tuple #[.int .i64 3, .int .i64 0]) ∧ w = w' := by
  have e0 := textB0
  have e1 := textB1
  have e2 := textB2
  have e3 := textB3
  go_enter Try.func12, Try.ntmps12
  go_wp2
  refine wp_loop_rounds 4 ?_
  rw [rounds_succ]; go_wp2_with (go_at_call 28; refine (textR_in _ _ (by decide) (by decide)).mono ?_; rintro e w' ⟨rfl, rfl⟩)
  rw [rounds_succ]; go_wp2_with (go_at_call 28; refine (textR_in _ _ (by decide) (by decide)).mono ?_; rintro e w' ⟨rfl, rfl⟩)
  rw [rounds_succ]; go_wp2_with (go_at_call 28; refine (textR_in _ _ (by decide) (by decide)).mono ?_; rintro e w' ⟨rfl, rfl⟩)
  rw [rounds_succ]; go_wp2_with (go_at_call 28; refine (textR_in _ _ (by decide) (by decide)).mono ?_; rintro e w' ⟨rfl, rfl⟩)
  go_ret2
  exact ⟨rfl, rfl⟩
theorem textB4 : textB 4 = ⟨#[45, 45, 103]⟩ := rfl
set_option maxHeartbeats 1000000 in
theorem parseR_4 (w : World) : Calls Try.prog 12 #[.string ⟨#[45, 45, 103]⟩] w fun e w' => e = .returned (.tuple #[.int .i64 4, .int .i64 0]) ∧ w = w' := by
  have e0 := textB0
  have e1 := textB1
  have e2 := textB2
  have e3 := textB3
  have e4 := textB4
  go_enter Try.func12, Try.ntmps12
  go_wp2
  refine wp_loop_rounds 5 ?_
  rw [rounds_succ]; go_wp2_with (go_at_call 28; refine (textR_in _ _ (by decide) (by decide)).mono ?_; rintro e w' ⟨rfl, rfl⟩)
  rw [rounds_succ]; go_wp2_with (go_at_call 28; refine (textR_in _ _ (by decide) (by decide)).mono ?_; rintro e w' ⟨rfl, rfl⟩)
  rw [rounds_succ]; go_wp2_with (go_at_call 28; refine (textR_in _ _ (by decide) (by decide)).mono ?_; rintro e w' ⟨rfl, rfl⟩)
  rw [rounds_succ]; go_wp2_with (go_at_call 28; refine (textR_in _ _ (by decide) (by decide)).mono ?_; rintro e w' ⟨rfl, rfl⟩)
  rw [rounds_succ]; go_wp2_with (go_at_call 28; refine (textR_in _ _ (by decide) (by decide)).mono ?_; rintro e w' ⟨rfl, rfl⟩)
  go_ret2
  exact ⟨rfl, rfl⟩
theorem textB5 : textB 5 = ⟨#[114, 45, 103]⟩ := rfl
set_option maxHeartbeats 1000000 in
theorem parseR_5 (w : World) : Calls Try.prog 12 #[.string ⟨#[114, 45, 103]⟩] w fun e w' => e = .returned (.tuple #[.int .i64 5, .int .i64 0]) ∧ w = w' := by
  have e0 := textB0
  have e1 := textB1
  have e2 := textB2
  have e3 := textB3
  have e4 := textB4
  have e5 := textB5
  go_enter Try.func12, Try.ntmps12
  go_wp2
  refine wp_loop_rounds 6 ?_
  rw [rounds_succ]; go_wp2_with (go_at_call 28; refine (textR_in _ _ (by decide) (by decide)).mono ?_; rintro e w' ⟨rfl, rfl⟩)
  rw [rounds_succ]; go_wp2_with (go_at_call 28; refine (textR_in _ _ (by decide) (by decide)).mono ?_; rintro e w' ⟨rfl, rfl⟩)
  rw [rounds_succ]; go_wp2_with (go_at_call 28; refine (textR_in _ _ (by decide) (by decide)).mono ?_; rintro e w' ⟨rfl, rfl⟩)
  rw [rounds_succ]; go_wp2_with (go_at_call 28; refine (textR_in _ _ (by decide) (by decide)).mono ?_; rintro e w' ⟨rfl, rfl⟩)
  rw [rounds_succ]; go_wp2_with (go_at_call 28; refine (textR_in _ _ (by decide) (by decide)).mono ?_; rintro e w' ⟨rfl, rfl⟩)
  rw [rounds_succ]; go_wp2_with (go_at_call 28; refine (textR_in _ _ (by decide) (by decide)).mono ?_; rintro e w' ⟨rfl, rfl⟩)
  go_ret2
  exact ⟨rfl, rfl⟩
theorem textB6 : textB 6 = ⟨#[45, 119, 103]⟩ := rfl
set_option maxHeartbeats 1000000 in
theorem parseR_6 (w : World) : Calls Try.prog 12 #[.string ⟨#[45, 119, 103]⟩] w fun e w' => e = .returned (.tuple #[.int .i64 6, .int .i64 0]) ∧ w = w' := by
  have e0 := textB0
  have e1 := textB1
  have e2 := textB2
  have e3 := textB3
  have e4 := textB4
  have e5 := textB5
  have e6 := textB6
  go_enter Try.func12, Try.ntmps12
  go_wp2
  refine wp_loop_rounds 7 ?_
  rw [rounds_succ]; go_wp2_with (go_at_call 28; refine (textR_in _ _ (by decide) (by decide)).mono ?_; rintro e w' ⟨rfl, rfl⟩)
  rw [rounds_succ]; go_wp2_with (go_at_call 28; refine (textR_in _ _ (by decide) (by decide)).mono ?_; rintro e w' ⟨rfl, rfl⟩)
  rw [rounds_succ]; go_wp2_with (go_at_call 28; refine (textR_in _ _ (by decide) (by decide)).mono ?_; rintro e w' ⟨rfl, rfl⟩)
  rw [rounds_succ]; go_wp2_with (go_at_call 28; refine (textR_in _ _ (by decide) (by decide)).mono ?_; rintro e w' ⟨rfl, rfl⟩)
  rw [rounds_succ]; go_wp2_with (go_at_call 28; refine (textR_in _ _ (by decide) (by decide)).mono ?_; rintro e w' ⟨rfl, rfl⟩)
  rw [rounds_succ]; go_wp2_with (go_at_call 28; refine (textR_in _ _ (by decide) (by decide)).mono ?_; rintro e w' ⟨rfl, rfl⟩)
  rw [rounds_succ]; go_wp2_with (go_at_call 28; refine (textR_in _ _ (by decide) (by decide)).mono ?_; rintro e w' ⟨rfl, rfl⟩)
  go_ret2
  exact ⟨rfl, rfl⟩
theorem textB7 : textB 7 = ⟨#[114, 119, 103]⟩ := rfl
set_option maxHeartbeats 1000000 in
theorem parseR_7 (w : World) : Calls Try.prog 12 #[.string ⟨#[114, 119, 103]⟩] w fun e w' => e = .returned (.tuple #[.int .i64 7, .int .i64 0]) ∧ w = w' := by
  have e0 := textB0
  have e1 := textB1
  have e2 := textB2
  have e3 := textB3
  have e4 := textB4
  have e5 := textB5
  have e6 := textB6
  have e7 := textB7
  go_enter Try.func12, Try.ntmps12
  go_wp2
  refine wp_loop_rounds 8 ?_
  rw [rounds_succ]; go_wp2_with (go_at_call 28; refine (textR_in _ _ (by decide) (by decide)).mono ?_; rintro e w' ⟨rfl, rfl⟩)
  rw [rounds_succ]; go_wp2_with (go_at_call 28; refine (textR_in _ _ (by decide) (by decide)).mono ?_; rintro e w' ⟨rfl, rfl⟩)
  rw [rounds_succ]; go_wp2_with (go_at_call 28; refine (textR_in _ _ (by decide) (by decide)).mono ?_; rintro e w' ⟨rfl, rfl⟩)
  rw [rounds_succ]; go_wp2_with (go_at_call 28; refine (textR_in _ _ (by decide) (by decide)).mono ?_; rintro e w' ⟨rfl, rfl⟩)
  rw [rounds_succ]; go_wp2_with (go_at_call 28; refine (textR_in _ _ (by decide) (by decide)).mono ?_; rintro e w' ⟨rfl, rfl⟩)
  rw [rounds_succ]; go_wp2_with (go_at_call 28; refine (textR_in _ _ (by decide) (by decide)).mono ?_; rintro e w' ⟨rfl, rfl⟩)
  rw [rounds_succ]; go_wp2_with (go_at_call 28; refine (textR_in _ _ (by decide) (by decide)).mono ?_; rintro e w' ⟨rfl, rfl⟩)
  rw [rounds_succ]; go_wp2_with (go_at_call 28; refine (textR_in _ _ (by decide) (by decide)).mono ?_; rintro e w' ⟨rfl, rfl⟩)
  go_ret2
  exact ⟨rfl, rfl⟩

set_option maxHeartbeats 2000000 in
theorem parseR_none (s : ByteArray) (w : World) (h : ∀ k : Nat, k ≤ 7 → s ≠ textB k) : Calls Try.prog 12 #[.string s] w fun e w' => e = .returned (.tuple #[.int .i64 0, .int .i64 5]) ∧ w = w' := by
  have e0 := textB0
  have n0 : (([45, 45, 45] : List UInt8) == s.toList) = false := beq_eq_false_iff_ne.2 (fun e => h 0 (by decide) ((bytes_of e).trans rfl))
  have e1 := textB1
  have n1 : (([114, 45, 45] : List UInt8) == s.toList) = false := beq_eq_false_iff_ne.2 (fun e => h 1 (by decide) ((bytes_of e).trans rfl))
  have e2 := textB2
  have n2 : (([45, 119, 45] : List UInt8) == s.toList) = false := beq_eq_false_iff_ne.2 (fun e => h 2 (by decide) ((bytes_of e).trans rfl))
  have e3 := textB3
  have n3 : (([114, 119, 45] : List UInt8) == s.toList) = false := beq_eq_false_iff_ne.2 (fun e => h 3 (by decide) ((bytes_of e).trans rfl))
  have e4 := textB4
  have n4 : (([45, 45, 103] : List UInt8) == s.toList) = false := beq_eq_false_iff_ne.2 (fun e => h 4 (by decide) ((bytes_of e).trans rfl))
  have e5 := textB5
  have n5 : (([114, 45, 103] : List UInt8) == s.toList) = false := beq_eq_false_iff_ne.2 (fun e => h 5 (by decide) ((bytes_of e).trans rfl))
  have e6 := textB6
  have n6 : (([45, 119, 103] : List UInt8) == s.toList) = false := beq_eq_false_iff_ne.2 (fun e => h 6 (by decide) ((bytes_of e).trans rfl))
  have e7 := textB7
  have n7 : (([114, 119, 103] : List UInt8) == s.toList) = false := beq_eq_false_iff_ne.2 (fun e => h 7 (by decide) ((bytes_of e).trans rfl))
  clear h
  go_enter Try.func12, Try.ntmps12
  go_wp2
  refine wp_loop_rounds 9 ?_
  rw [rounds_succ]; go_wp2_with (go_at_call 28; refine (textR_in _ _ (by decide) (by decide)).mono ?_; rintro e w' ⟨rfl, rfl⟩)
  rw [rounds_succ]; go_wp2_with (go_at_call 28; refine (textR_in _ _ (by decide) (by decide)).mono ?_; rintro e w' ⟨rfl, rfl⟩)
  rw [rounds_succ]; go_wp2_with (go_at_call 28; refine (textR_in _ _ (by decide) (by decide)).mono ?_; rintro e w' ⟨rfl, rfl⟩)
  rw [rounds_succ]; go_wp2_with (go_at_call 28; refine (textR_in _ _ (by decide) (by decide)).mono ?_; rintro e w' ⟨rfl, rfl⟩)
  rw [rounds_succ]; go_wp2_with (go_at_call 28; refine (textR_in _ _ (by decide) (by decide)).mono ?_; rintro e w' ⟨rfl, rfl⟩)
  rw [rounds_succ]; go_wp2_with (go_at_call 28; refine (textR_in _ _ (by decide) (by decide)).mono ?_; rintro e w' ⟨rfl, rfl⟩)
  rw [rounds_succ]; go_wp2_with (go_at_call 28; refine (textR_in _ _ (by decide) (by decide)).mono ?_; rintro e w' ⟨rfl, rfl⟩)
  rw [rounds_succ]; go_wp2_with (go_at_call 28; refine (textR_in _ _ (by decide) (by decide)).mono ?_; rintro e w' ⟨rfl, rfl⟩)
  rw [rounds_succ]; go_wp2_with (go_at_call 28; refine (textR_in _ _ (by decide) (by decide)).mono ?_; rintro e w' ⟨rfl, rfl⟩)
  go_ret2
  exact ⟨rfl, rfl⟩
theorem parse_at0 (w : World) : Calls Try.prog 11 #[.string ⟨#[45, 45, 45]⟩] w fun e w' => e = .returned (.tuple #[.int .i64 0, .int .i64 0]) ∧ w = w' :=
  parse_ddd _ w rfl (by decide) (by decide) (by decide)
theorem parse_at1 (w : World) : Calls Try.prog 11 #[.string ⟨#[114, 45, 45]⟩] w fun e w' => e = .returned (.tuple #[.int .i64 1, .int .i64 0]) ∧ w = w' :=
  parse_ldd _ w rfl (by decide) (by decide) (by decide) (by decide)
theorem parse_at2 (w : World) : Calls Try.prog 11 #[.string ⟨#[45, 119, 45]⟩] w fun e w' => e = .returned (.tuple #[.int .i64 2, .int .i64 0]) ∧ w = w' :=
  parse_dld _ w rfl (by decide) (by decide) (by decide) (by decide)
theorem parse_at3 (w : World) : Calls Try.prog 11 #[.string ⟨#[114, 119, 45]⟩] w fun e w' => e = .returned (.tuple #[.int .i64 3, .int .i64 0]) ∧ w = w' :=
  parse_lld _ w rfl (by decide) (by decide) (by decide) (by decide) (by decide)
theorem parse_at4 (w : World) : Calls Try.prog 11 #[.string ⟨#[45, 45, 103]⟩] w fun e w' => e = .returned (.tuple #[.int .i64 4, .int .i64 0]) ∧ w = w' :=
  parse_ddl _ w rfl (by decide) (by decide) (by decide) (by decide)
theorem parse_at5 (w : World) : Calls Try.prog 11 #[.string ⟨#[114, 45, 103]⟩] w fun e w' => e = .returned (.tuple #[.int .i64 5, .int .i64 0]) ∧ w = w' :=
  parse_ldl _ w rfl (by decide) (by decide) (by decide) (by decide) (by decide)
theorem parse_at6 (w : World) : Calls Try.prog 11 #[.string ⟨#[45, 119, 103]⟩] w fun e w' => e = .returned (.tuple #[.int .i64 6, .int .i64 0]) ∧ w = w' :=
  parse_dll _ w rfl (by decide) (by decide) (by decide) (by decide) (by decide)
theorem parse_at7 (w : World) : Calls Try.prog 11 #[.string ⟨#[114, 119, 103]⟩] w fun e w' => e = .returned (.tuple #[.int .i64 7, .int .i64 0]) ∧ w = w' :=
  parse_lll _ w rfl (by decide) (by decide) (by decide) (by decide) (by decide) (by decide)

theorem parse_in (r : Int) (w : World) (h0 : 0 ≤ r) (h7 : r ≤ 7) : Calls Try.prog 11 #[.string (textB r)] w fun e w' => e = .returned (.tuple #[.int .i64 r, .int .i64 0]) ∧ w = w' := by
  obtain rfl | rfl | rfl | rfl | rfl | rfl | rfl | rfl : r = 0 ∨ r = 1 ∨ r = 2 ∨ r = 3 ∨ r = 4 ∨ r = 5 ∨ r = 6 ∨ r = 7 := by omega
  · exact parse_at0 w
  · exact parse_at1 w
  · exact parse_at2 w
  · exact parse_at3 w
  · exact parse_at4 w
  · exact parse_at5 w
  · exact parse_at6 w
  · exact parse_at7 w

theorem parseR_in (r : Int) (w : World) (h0 : 0 ≤ r) (h7 : r ≤ 7) : Calls Try.prog 12 #[.string (textB r)] w fun e w' => e = .returned (.tuple #[.int .i64 r, .int .i64 0]) ∧ w = w' := by
  obtain rfl | rfl | rfl | rfl | rfl | rfl | rfl | rfl : r = 0 ∨ r = 1 ∨ r = 2 ∨ r = 3 ∨ r = 4 ∨ r = 5 ∨ r = 6 ∨ r = 7 := by omega
  · exact parseR_0 w
  · exact parseR_1 w
  · exact parseR_2 w
  · exact parseR_3 w
  · exact parseR_4 w
  · exact parseR_5 w
  · exact parseR_6 w
  · exact parseR_7 w

theorem three (s : ByteArray) (hs : s.size = 3) : s = ⟨#[s[0], s[1], s[2]]⟩ := by
  cases s with | mk d => 
    congr 1
    apply Array.ext
    · exact hs
    · intro i h1 h2
      match i, h2 with
      | 0, _ => rfl
      | 1, _ => rfl
      | 2, _ => rfl
theorem byte_of {a : UInt8} {n : UInt8} (h : ((a.toNat : Int) == (n.toNat : Int)) = true) : a = n := by
  rw [beq_iff_eq] at h
  exact UInt8.toNat_inj.1 (by omega)

/-- No right's text: refused. -/
theorem parse_none (s : ByteArray) (w : World) (hm : s.size ≤ maxLen) (h : ∀ k : Nat, k ≤ 7 → s ≠ textB k) : Calls Try.prog 11 #[.string s] w fun e w' => e = .returned (.tuple #[.int .i64 0, .int .i64 5]) ∧ w = w' := by
  by_cases hs : s.size = 3
  · have e3 := three s hs
    have d : ∀ (a : UInt8), ((a.toNat : Int) == 45) = true → a = 45 := fun a h => byte_of h
    cases a0 : ((s[0].toNat : Int) == 45)
    · cases b0 : ((s[0].toNat : Int) == (((⟨#[114, 119, 103]⟩ : ByteArray)[0]).toNat : Int))
      · exact parse_x s w hs a0 b0
      · cases a1 : ((s[1].toNat : Int) == 45)
        · cases b1 : ((s[1].toNat : Int) == (((⟨#[114, 119, 103]⟩ : ByteArray)[1]).toNat : Int))
          · exact parse_lx s w hs a0 b0 a1 b1
          · cases a2 : ((s[2].toNat : Int) == 45)
            · cases b2 : ((s[2].toNat : Int) == (((⟨#[114, 119, 103]⟩ : ByteArray)[2]).toNat : Int))
              · exact parse_llx s w hs a0 b0 a1 b1 a2 b2
              · exact absurd (e3.trans (by rw [byte_of (n := 114) b0, byte_of (n := 119) b1, byte_of (n := 103) b2]; rfl)) (h 7 (by decide))
            · exact absurd (e3.trans (by rw [byte_of (n := 114) b0, byte_of (n := 119) b1, d _ a2]; rfl)) (h 3 (by decide))
        · cases a2 : ((s[2].toNat : Int) == 45)
          · cases b2 : ((s[2].toNat : Int) == (((⟨#[114, 119, 103]⟩ : ByteArray)[2]).toNat : Int))
            · exact parse_ldx s w hs a0 b0 a1 a2 b2
            · exact absurd (e3.trans (by rw [byte_of (n := 114) b0, d _ a1, byte_of (n := 103) b2]; rfl)) (h 5 (by decide))
          · exact absurd (e3.trans (by rw [byte_of (n := 114) b0, d _ a1, d _ a2]; rfl)) (h 1 (by decide))
    · cases a1 : ((s[1].toNat : Int) == 45)
      · cases b1 : ((s[1].toNat : Int) == (((⟨#[114, 119, 103]⟩ : ByteArray)[1]).toNat : Int))
        · exact parse_dx s w hs a0 a1 b1
        · cases a2 : ((s[2].toNat : Int) == 45)
          · cases b2 : ((s[2].toNat : Int) == (((⟨#[114, 119, 103]⟩ : ByteArray)[2]).toNat : Int))
            · exact parse_dlx s w hs a0 a1 b1 a2 b2
            · exact absurd (e3.trans (by rw [d _ a0, byte_of (n := 119) b1, byte_of (n := 103) b2]; rfl)) (h 6 (by decide))
          · exact absurd (e3.trans (by rw [d _ a0, byte_of (n := 119) b1, d _ a2]; rfl)) (h 2 (by decide))
      · cases a2 : ((s[2].toNat : Int) == 45)
        · cases b2 : ((s[2].toNat : Int) == (((⟨#[114, 119, 103]⟩ : ByteArray)[2]).toNat : Int))
          · exact parse_ddx s w hs a0 a1 a2 b2
          · exact absurd (e3.trans (by rw [d _ a0, d _ a1, byte_of (n := 103) b2]; rfl)) (h 4 (by decide))
        · exact absurd (e3.trans (by rw [d _ a0, d _ a1, d _ a2]; rfl)) (h 0 (by decide))
  · exact parse_len s w hs hm

theorem parse_both (s : ByteArray) (hm : s.size ≤ maxLen) : ∃ (r c : Int), (0 ≤ c ∧ c ≤ 100) ∧ (∀ w : World, Calls Try.prog 11 #[.string s] w fun e w' => e = .returned (.tuple #[.int .i64 r, .int .i64 c]) ∧ w = w') ∧
    (∀ w : World, Calls Try.prog 12 #[.string s] w fun e w' => e = .returned (.tuple #[.int .i64 r, .int .i64 c]) ∧ w = w') := by
  by_cases h : ∃ k : Nat, k ≤ 7 ∧ s = textB k
  · obtain ⟨k, hk, rfl⟩ := h
    exact ⟨k, 0, by decide, fun w => parse_in k w (by omega) (by omega), fun w => parseR_in k w (by omega) (by omega)⟩
  · have h' : ∀ k : Nat, k ≤ 7 → s ≠ textB k := fun k hk e => h ⟨k, hk, e⟩
    exact ⟨0, 5, by decide, fun w => parse_none s w hm h', fun w => parseR_none s w h'⟩

theorem awake9 (w : World) : Calls Try.prog 10 #[] w fun e w' => e = .returned (.bool true) ∧ Below w.heap.size w w' := by
  have f1 : (maskN 7 3 == 3) = true := by decide +kernel
  have f2 : hasB 3 1 = true := by decide +kernel
  have f3 : textB 5 = ⟨#[114, 45, 103]⟩ := rfl
  go_enter Try.func10, Try.ntmps10
  go_wp2_with (first
    | (go_at_call 11; refine (parse_at2 _).mono ?_; rintro e w1 ⟨rfl, rfl⟩)
    | (go_at_call 14; refine (mask_any _ _ _ (by decide) (by decide) (by decide) (by decide)).mono ?_; rintro e w1 ⟨rfl, rfl⟩)
    | (go_at_call 15; refine (has_any _ _ _ (by decide) (by decide) (by decide) (by decide)).mono ?_; rintro e w1 ⟨rfl, rfl⟩)
    | (go_at_call 16; refine (text_in 5 _ (by decide) (by decide)).mono ?_; rintro e w1 ⟨rfl, hb⟩))
  go_ret
  exact ⟨rfl, hb⟩

theorem num9 (a : Int) (w : World) (h : 0 ≤ a) (h' : a ≤ 100) : Calls Try.prog 13 #[.int .i64 a] w fun e w' => e = .returned (.int .i64 a) ∧ w = w' := by
  go_enter Try.func13, Try.ntmps13
  go_wp2
  go_ret
  exact ⟨rfl, rfl⟩

set_option maxHeartbeats 1000000 in
theorem walk_rightsReads (a0 : ByteArray) (w0 : a0.size ≤ maxLen) (W : World) :
    Calls Try.prog 3 #[.string a0] W fun e w' => e = .returned (.bool true) ∧ Below W.heap.size W w' := by
  obtain ⟨r, c, ⟨c0, c1⟩, h1, h2⟩ := parse_both a0 w0
  have H1 := Lib.hid h1; have H2 := Lib.hid h2
  clear h1 h2
  unfold maxLen at w0
  by_cases h : 100 < a0.size
  · go_enter Try.func3, Try.ntmps3
    go_wp2_with (go_at_call 10; refine (awake9 _).mono ?_; rintro e w1 ⟨rfl, hb⟩)
    go_ret
    exact ⟨rfl, hb⟩
  · go_enter Try.func3, Try.ntmps3
    go_wp2_with (first
      | (go_at_call 11; refine (H1.out _).mono ?_; rintro e w1 ⟨rfl, rfl⟩)
      | (go_at_call 12; refine (H2.out _).mono ?_; rintro e w1 ⟨rfl, rfl⟩)
      | (go_at_call 13; refine (num9 _ _ c0 c1).mono ?_; rintro e w1 ⟨rfl, rfl⟩)
      | (go_at_call 10; refine (awake9 _).mono ?_; rintro e w1 ⟨rfl, hb⟩))
    go_ret
    exact ⟨rfl, hb⟩

set_option maxHeartbeats 1000000 in
theorem walk_rightsBack (a0 : Int) (w0 : (Lit.int .i64 a0).wf = true) (W : World) :
    Calls Try.prog 5 #[.int .i64 a0] W fun e w' => e = .returned (.bool true) ∧ Below W.heap.size W w' := by
  by_cases h : 0 ≤ a0 ∧ a0 ≤ 7
  · obtain ⟨s, hs⟩ : ∃ s, textB a0 = s := ⟨_, rfl⟩
    have hz : s.size = 3 := by rw [← hs]; rfl
    have h1 : ∀ w : World, Calls Try.prog 16 #[.int .i64 a0] w fun e w' => e = .returned (.string s) ∧ Below w.heap.size w w' := fun w => hs ▸ text_in a0 w h.1 h.2
    have h2 : ∀ w : World, Calls Try.prog 11 #[.string s] w fun e w' => e = .returned (.tuple #[.int .i64 a0, .int .i64 0]) ∧ w = w' := fun w => hs ▸ parse_in a0 w h.1 h.2
    have H1 := Lib.hid h1; have H2 := Lib.hid h2
    obtain ⟨p0, p1⟩ := h
    clear h1 h2 hs w0
    go_enter Try.func5, Try.ntmps5
    go_wp2_with (first
      | (go_at_call 16; refine (H1.out _).mono ?_; rintro e w1 ⟨rfl, hb1⟩)
      | (go_at_call 11; refine (H2.out _).mono ?_; rintro e w1 ⟨rfl, rfl⟩)
      | (go_at_call 10; refine (awake9 _).mono ?_; rintro e w1 ⟨rfl, hb⟩))
    go_ret
    exact ⟨rfl, by repeat (first | exact Below.refl _ _ | assumption | refine bgo ?_ (by assumption))⟩
  · have h' : a0 < 0 ∨ 7 < a0 := by omega
    have m : mayB a0 = false := mayB_no h'
    clear w0 h
    rcases h' with h' | h'
    all_goals
      go_enter Try.func5, Try.ntmps5
      go_wp2_with (first
        | (go_at_call 16; refine (text_out a0 _ (by omega)).mono ?_; rintro e w1 ⟨rfl, rfl⟩)
        | (go_at_call 11; refine (parse_len ⟨#[]⟩ _ (by decide) (by decide)).mono ?_; rintro e w1 ⟨rfl, rfl⟩)
        | (go_at_call 17; refine (may_any _ _).mono ?_; rintro e w1 ⟨rfl, rfl⟩)
        | (go_at_call 10; refine (awake9 _).mono ?_; rintro e w1 ⟨rfl, hb⟩))
      go_ret
      exact ⟨rfl, hb⟩

theorem low3 (a : Int) : ∃ x : Nat, x ≤ 7 ∧ bits BinOp.and IntKind.i64 a 7 = (x : Int) := by
  have h7 : (BitVec.ofInt 64 7).toNat = 7 := by decide
  have hle : (BitVec.ofInt 64 a).toNat &&& 7 ≤ 7 := Nat.and_le_right
  refine ⟨(BitVec.ofInt 64 a).toNat &&& 7, hle, ?_⟩
  show IntKind.i64.wrap ((BitVec.ofInt 64 a &&& BitVec.ofInt 64 7).toNat : Int) = _
  rw [BitVec.toNat_and, h7]
  exact IntWalk.i64_in _ (by omega)

theorem fall_facts : ∀ x : Nat, x ≤ 7 → ∀ y : Nat, y ≤ 7 → ∃ m : Nat, m ≤ 7 ∧ maskN x y = m ∧ hasB x m = true ∧ hasB y m = true ∧ (maskN m y == (m : Int)) = true ∧ (maskN y x == (m : Int)) = true ∧ (((m : Int) == (y : Int)) == hasB x y) = true := by
  intro x hx y hy
  have key : ∀ x : Nat, x ≤ 7 → ∀ y : Nat, y ≤ 7 → ((maskN x y).toNat ≤ 7 ∧ maskN x y = ((maskN x y).toNat : Nat) ∧ hasB x (maskN x y).toNat = true ∧ hasB y (maskN x y).toNat = true ∧ (maskN (maskN x y).toNat y == ((maskN x y).toNat : Int)) = true ∧ (maskN y x == ((maskN x y).toNat : Int)) = true ∧ ((((maskN x y).toNat : Int) == (y : Int)) == hasB x y) = true) := by decide +kernel
  exact ⟨_, key x hx y hy⟩

set_option maxHeartbeats 1000000 in
theorem walk_rightsFall (a0 : Int) (w0 : (Lit.int .i64 a0).wf = true) (a1 : Int) (w1 : (Lit.int .i64 a1).wf = true) (W : World) :
    Calls Try.prog 4 #[.int .i64 a0, .int .i64 a1] W fun e w' => e = .returned (.bool true) ∧ Below W.heap.size W w' := by
  obtain ⟨x, hx, ex⟩ := low3 a0
  obtain ⟨y, hy, ey⟩ := low3 a1
  obtain ⟨m, hm, e1, e2, e3, e4, e5, e6⟩ := fall_facts x hx y hy
  clear w0 w1
  go_enter Try.func4, Try.ntmps4
  go_wp2_with (first
    | (go_at_call 14; refine (mask_any _ _ _ (by omega) (by omega) (by omega) (by omega)).mono ?_; rintro e w1 ⟨rfl, rfl⟩)
    | (go_at_call 15; refine (has_any _ _ _ (by omega) (by omega) (by omega) (by omega)).mono ?_; rintro e w1 ⟨rfl, rfl⟩)
    | (go_at_call 10; refine (awake9 _).mono ?_; rintro e w1 ⟨rfl, hb⟩))
  go_ret
  exact ⟨rfl, hb⟩
end Go.Proofs.Ytenbnclalcgdkaa
