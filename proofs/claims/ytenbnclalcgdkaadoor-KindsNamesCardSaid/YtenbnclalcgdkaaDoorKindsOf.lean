/- The walks of the law KindsNames: the loops over the ten names, unrolled. -/
import Derived.Test.YtenbnclalcgdkaaDoorKinds
import Derived.Lib.Hide
namespace Go.Proofs.YtenbnclalcgdkaaDoor
set_option linter.unusedVariables false
open Go.ChangeShapes Go.WideShapes Go.ChangeAt Go.RowKit

theorem bytes_of {s : ByteArray} {l : List UInt8} (e : l = s.toList) : s = ⟨l.toArray⟩ := by
  rw [ByteArray.toList_eq] at e; subst e; cases s; simp

set_option maxHeartbeats 1000000 in
theorem of_in0 (w : World) (hN : NamesAt w) : Calls Tryd.prog 13 #[.string ⟨#[110, 111, 110, 101]⟩] w fun e w' => e = .returned (.tuple #[.int .i64 0, .bool true]) ∧ w = w' := by
  obtain ⟨t, fr, hN⟩ := hN
  go_enter Tryd.func13, Tryd.ntmps13
  go_wp2
  go_step3
  go_wp2
  go_step3
  go_wp2_with (refine wpList_load_row rfl 30 (.global 0) rfl 0 rfl t namesA fr _ hN Tryd.underlying30 rfl (by kernel_rfl) ?_)
  have i0 := idx0
  refine wp_loop_rounds 1 ?_
  rw [rounds_succ]; go_wp2
  rw [Exit.noGoto_ret]
  go_ret2
  exact ⟨rfl, rfl⟩
set_option maxHeartbeats 1000000 in
theorem ofR_in0 (w : World) : Calls Tryd.prog 14 #[.string ⟨#[110, 111, 110, 101]⟩] w fun e w' => e = .returned (.tuple #[.int .i64 0, .bool true]) ∧ w = w' := by
  go_enter Tryd.func14, Tryd.ntmps14
  go_wp2
  refine wp_loop_rounds 1 ?_
  rw [rounds_succ]; go_wp2
  go_ret2
  exact ⟨rfl, rfl⟩

set_option maxHeartbeats 1000000 in
theorem of_in1 (w : World) (hN : NamesAt w) : Calls Tryd.prog 13 #[.string ⟨#[117, 110, 116, 121, 112, 101, 100]⟩] w fun e w' => e = .returned (.tuple #[.int .i64 1, .bool true]) ∧ w = w' := by
  obtain ⟨t, fr, hN⟩ := hN
  go_enter Tryd.func13, Tryd.ntmps13
  go_wp2
  go_step3
  go_wp2
  go_step3
  go_wp2_with (refine wpList_load_row rfl 30 (.global 0) rfl 0 rfl t namesA fr _ hN Tryd.underlying30 rfl (by kernel_rfl) ?_)
  have i0 := idx0; have i1 := idx1
  refine wp_loop_rounds 2 ?_
  rw [rounds_succ]; go_wp2
  rw [rounds_succ]; go_wp2
  rw [Exit.noGoto_ret]
  go_ret2
  exact ⟨rfl, rfl⟩
set_option maxHeartbeats 1000000 in
theorem ofR_in1 (w : World) : Calls Tryd.prog 14 #[.string ⟨#[117, 110, 116, 121, 112, 101, 100]⟩] w fun e w' => e = .returned (.tuple #[.int .i64 1, .bool true]) ∧ w = w' := by
  go_enter Tryd.func14, Tryd.ntmps14
  go_wp2
  refine wp_loop_rounds 2 ?_
  rw [rounds_succ]; go_wp2
  rw [rounds_succ]; go_wp2
  go_ret2
  exact ⟨rfl, rfl⟩

set_option maxHeartbeats 1000000 in
theorem of_in2 (w : World) (hN : NamesAt w) : Calls Tryd.prog 13 #[.string ⟨#[110, 111, 100, 101]⟩] w fun e w' => e = .returned (.tuple #[.int .i64 2, .bool true]) ∧ w = w' := by
  obtain ⟨t, fr, hN⟩ := hN
  go_enter Tryd.func13, Tryd.ntmps13
  go_wp2
  go_step3
  go_wp2
  go_step3
  go_wp2_with (refine wpList_load_row rfl 30 (.global 0) rfl 0 rfl t namesA fr _ hN Tryd.underlying30 rfl (by kernel_rfl) ?_)
  have i0 := idx0; have i1 := idx1; have i2 := idx2
  refine wp_loop_rounds 3 ?_
  rw [rounds_succ]; go_wp2
  rw [rounds_succ]; go_wp2
  rw [rounds_succ]; go_wp2
  rw [Exit.noGoto_ret]
  go_ret2
  exact ⟨rfl, rfl⟩
set_option maxHeartbeats 1000000 in
theorem ofR_in2 (w : World) : Calls Tryd.prog 14 #[.string ⟨#[110, 111, 100, 101]⟩] w fun e w' => e = .returned (.tuple #[.int .i64 2, .bool true]) ∧ w = w' := by
  go_enter Tryd.func14, Tryd.ntmps14
  go_wp2
  refine wp_loop_rounds 3 ?_
  rw [rounds_succ]; go_wp2
  rw [rounds_succ]; go_wp2
  rw [rounds_succ]; go_wp2
  go_ret2
  exact ⟨rfl, rfl⟩

set_option maxHeartbeats 1000000 in
theorem of_in3 (w : World) (hN : NamesAt w) : Calls Tryd.prog 13 #[.string ⟨#[102, 114, 97, 109, 101]⟩] w fun e w' => e = .returned (.tuple #[.int .i64 3, .bool true]) ∧ w = w' := by
  obtain ⟨t, fr, hN⟩ := hN
  go_enter Tryd.func13, Tryd.ntmps13
  go_wp2
  go_step3
  go_wp2
  go_step3
  go_wp2_with (refine wpList_load_row rfl 30 (.global 0) rfl 0 rfl t namesA fr _ hN Tryd.underlying30 rfl (by kernel_rfl) ?_)
  have i0 := idx0; have i1 := idx1; have i2 := idx2; have i3 := idx3
  refine wp_loop_rounds 4 ?_
  rw [rounds_succ]; go_wp2
  rw [rounds_succ]; go_wp2
  rw [rounds_succ]; go_wp2
  rw [rounds_succ]; go_wp2
  rw [Exit.noGoto_ret]
  go_ret2
  exact ⟨rfl, rfl⟩
set_option maxHeartbeats 1000000 in
theorem ofR_in3 (w : World) : Calls Tryd.prog 14 #[.string ⟨#[102, 114, 97, 109, 101]⟩] w fun e w' => e = .returned (.tuple #[.int .i64 3, .bool true]) ∧ w = w' := by
  go_enter Tryd.func14, Tryd.ntmps14
  go_wp2
  refine wp_loop_rounds 4 ?_
  rw [rounds_succ]; go_wp2
  rw [rounds_succ]; go_wp2
  rw [rounds_succ]; go_wp2
  rw [rounds_succ]; go_wp2
  go_ret2
  exact ⟨rfl, rfl⟩

set_option maxHeartbeats 1000000 in
theorem of_in4 (w : World) (hN : NamesAt w) : Calls Tryd.prog 13 #[.string ⟨#[116, 97, 98, 108, 101]⟩] w fun e w' => e = .returned (.tuple #[.int .i64 4, .bool true]) ∧ w = w' := by
  obtain ⟨t, fr, hN⟩ := hN
  go_enter Tryd.func13, Tryd.ntmps13
  go_wp2
  go_step3
  go_wp2
  go_step3
  go_wp2_with (refine wpList_load_row rfl 30 (.global 0) rfl 0 rfl t namesA fr _ hN Tryd.underlying30 rfl (by kernel_rfl) ?_)
  have i0 := idx0; have i1 := idx1; have i2 := idx2; have i3 := idx3; have i4 := idx4
  refine wp_loop_rounds 5 ?_
  rw [rounds_succ]; go_wp2
  rw [rounds_succ]; go_wp2
  rw [rounds_succ]; go_wp2
  rw [rounds_succ]; go_wp2
  rw [rounds_succ]; go_wp2
  rw [Exit.noGoto_ret]
  go_ret2
  exact ⟨rfl, rfl⟩
set_option maxHeartbeats 1000000 in
theorem ofR_in4 (w : World) : Calls Tryd.prog 14 #[.string ⟨#[116, 97, 98, 108, 101]⟩] w fun e w' => e = .returned (.tuple #[.int .i64 4, .bool true]) ∧ w = w' := by
  go_enter Tryd.func14, Tryd.ntmps14
  go_wp2
  refine wp_loop_rounds 5 ?_
  rw [rounds_succ]; go_wp2
  rw [rounds_succ]; go_wp2
  rw [rounds_succ]; go_wp2
  rw [rounds_succ]; go_wp2
  rw [rounds_succ]; go_wp2
  go_ret2
  exact ⟨rfl, rfl⟩

set_option maxHeartbeats 1000000 in
theorem of_in5 (w : World) (hN : NamesAt w) : Calls Tryd.prog 13 #[.string ⟨#[114, 111, 111, 116]⟩] w fun e w' => e = .returned (.tuple #[.int .i64 5, .bool true]) ∧ w = w' := by
  obtain ⟨t, fr, hN⟩ := hN
  go_enter Tryd.func13, Tryd.ntmps13
  go_wp2
  go_step3
  go_wp2
  go_step3
  go_wp2_with (refine wpList_load_row rfl 30 (.global 0) rfl 0 rfl t namesA fr _ hN Tryd.underlying30 rfl (by kernel_rfl) ?_)
  have i0 := idx0; have i1 := idx1; have i2 := idx2; have i3 := idx3; have i4 := idx4; have i5 := idx5
  refine wp_loop_rounds 6 ?_
  rw [rounds_succ]; go_wp2
  rw [rounds_succ]; go_wp2
  rw [rounds_succ]; go_wp2
  rw [rounds_succ]; go_wp2
  rw [rounds_succ]; go_wp2
  rw [rounds_succ]; go_wp2
  rw [Exit.noGoto_ret]
  go_ret2
  exact ⟨rfl, rfl⟩
set_option maxHeartbeats 1000000 in
theorem ofR_in5 (w : World) : Calls Tryd.prog 14 #[.string ⟨#[114, 111, 111, 116]⟩] w fun e w' => e = .returned (.tuple #[.int .i64 5, .bool true]) ∧ w = w' := by
  go_enter Tryd.func14, Tryd.ntmps14
  go_wp2
  refine wp_loop_rounds 6 ?_
  rw [rounds_succ]; go_wp2
  rw [rounds_succ]; go_wp2
  rw [rounds_succ]; go_wp2
  rw [rounds_succ]; go_wp2
  rw [rounds_succ]; go_wp2
  rw [rounds_succ]; go_wp2
  go_ret2
  exact ⟨rfl, rfl⟩

set_option maxHeartbeats 1000000 in
theorem of_in6 (w : World) (hN : NamesAt w) : Calls Tryd.prog 13 #[.string ⟨#[112, 111, 111, 108]⟩] w fun e w' => e = .returned (.tuple #[.int .i64 6, .bool true]) ∧ w = w' := by
  obtain ⟨t, fr, hN⟩ := hN
  go_enter Tryd.func13, Tryd.ntmps13
  go_wp2
  go_step3
  go_wp2
  go_step3
  go_wp2_with (refine wpList_load_row rfl 30 (.global 0) rfl 0 rfl t namesA fr _ hN Tryd.underlying30 rfl (by kernel_rfl) ?_)
  have i0 := idx0; have i1 := idx1; have i2 := idx2; have i3 := idx3; have i4 := idx4; have i5 := idx5; have i6 := idx6
  refine wp_loop_rounds 7 ?_
  rw [rounds_succ]; go_wp2
  rw [rounds_succ]; go_wp2
  rw [rounds_succ]; go_wp2
  rw [rounds_succ]; go_wp2
  rw [rounds_succ]; go_wp2
  rw [rounds_succ]; go_wp2
  rw [rounds_succ]; go_wp2
  rw [Exit.noGoto_ret]
  go_ret2
  exact ⟨rfl, rfl⟩
set_option maxHeartbeats 1000000 in
theorem ofR_in6 (w : World) : Calls Tryd.prog 14 #[.string ⟨#[112, 111, 111, 108]⟩] w fun e w' => e = .returned (.tuple #[.int .i64 6, .bool true]) ∧ w = w' := by
  go_enter Tryd.func14, Tryd.ntmps14
  go_wp2
  refine wp_loop_rounds 7 ?_
  rw [rounds_succ]; go_wp2
  rw [rounds_succ]; go_wp2
  rw [rounds_succ]; go_wp2
  rw [rounds_succ]; go_wp2
  rw [rounds_succ]; go_wp2
  rw [rounds_succ]; go_wp2
  rw [rounds_succ]; go_wp2
  go_ret2
  exact ⟨rfl, rfl⟩

set_option maxHeartbeats 1000000 in
theorem of_in7 (w : World) (hN : NamesAt w) : Calls Tryd.prog 13 #[.string ⟨#[99, 111, 110, 116, 114, 111, 108]⟩] w fun e w' => e = .returned (.tuple #[.int .i64 7, .bool true]) ∧ w = w' := by
  obtain ⟨t, fr, hN⟩ := hN
  go_enter Tryd.func13, Tryd.ntmps13
  go_wp2
  go_step3
  go_wp2
  go_step3
  go_wp2_with (refine wpList_load_row rfl 30 (.global 0) rfl 0 rfl t namesA fr _ hN Tryd.underlying30 rfl (by kernel_rfl) ?_)
  have i0 := idx0; have i1 := idx1; have i2 := idx2; have i3 := idx3; have i4 := idx4; have i5 := idx5; have i6 := idx6; have i7 := idx7
  refine wp_loop_rounds 8 ?_
  rw [rounds_succ]; go_wp2
  rw [rounds_succ]; go_wp2
  rw [rounds_succ]; go_wp2
  rw [rounds_succ]; go_wp2
  rw [rounds_succ]; go_wp2
  rw [rounds_succ]; go_wp2
  rw [rounds_succ]; go_wp2
  rw [rounds_succ]; go_wp2
  rw [Exit.noGoto_ret]
  go_ret2
  exact ⟨rfl, rfl⟩
set_option maxHeartbeats 1000000 in
theorem ofR_in7 (w : World) : Calls Tryd.prog 14 #[.string ⟨#[99, 111, 110, 116, 114, 111, 108]⟩] w fun e w' => e = .returned (.tuple #[.int .i64 7, .bool true]) ∧ w = w' := by
  go_enter Tryd.func14, Tryd.ntmps14
  go_wp2
  refine wp_loop_rounds 8 ?_
  rw [rounds_succ]; go_wp2
  rw [rounds_succ]; go_wp2
  rw [rounds_succ]; go_wp2
  rw [rounds_succ]; go_wp2
  rw [rounds_succ]; go_wp2
  rw [rounds_succ]; go_wp2
  rw [rounds_succ]; go_wp2
  rw [rounds_succ]; go_wp2
  go_ret2
  exact ⟨rfl, rfl⟩

set_option maxHeartbeats 1000000 in
theorem of_in8 (w : World) (hN : NamesAt w) : Calls Tryd.prog 13 #[.string ⟨#[101, 110, 100, 112, 111, 105, 110, 116]⟩] w fun e w' => e = .returned (.tuple #[.int .i64 8, .bool true]) ∧ w = w' := by
  obtain ⟨t, fr, hN⟩ := hN
  go_enter Tryd.func13, Tryd.ntmps13
  go_wp2
  go_step3
  go_wp2
  go_step3
  go_wp2_with (refine wpList_load_row rfl 30 (.global 0) rfl 0 rfl t namesA fr _ hN Tryd.underlying30 rfl (by kernel_rfl) ?_)
  have i0 := idx0; have i1 := idx1; have i2 := idx2; have i3 := idx3; have i4 := idx4; have i5 := idx5; have i6 := idx6; have i7 := idx7; have i8 := idx8
  refine wp_loop_rounds 9 ?_
  rw [rounds_succ]; go_wp2
  rw [rounds_succ]; go_wp2
  rw [rounds_succ]; go_wp2
  rw [rounds_succ]; go_wp2
  rw [rounds_succ]; go_wp2
  rw [rounds_succ]; go_wp2
  rw [rounds_succ]; go_wp2
  rw [rounds_succ]; go_wp2
  rw [rounds_succ]; go_wp2
  rw [Exit.noGoto_ret]
  go_ret2
  exact ⟨rfl, rfl⟩
set_option maxHeartbeats 1000000 in
theorem ofR_in8 (w : World) : Calls Tryd.prog 14 #[.string ⟨#[101, 110, 100, 112, 111, 105, 110, 116]⟩] w fun e w' => e = .returned (.tuple #[.int .i64 8, .bool true]) ∧ w = w' := by
  go_enter Tryd.func14, Tryd.ntmps14
  go_wp2
  refine wp_loop_rounds 9 ?_
  rw [rounds_succ]; go_wp2
  rw [rounds_succ]; go_wp2
  rw [rounds_succ]; go_wp2
  rw [rounds_succ]; go_wp2
  rw [rounds_succ]; go_wp2
  rw [rounds_succ]; go_wp2
  rw [rounds_succ]; go_wp2
  rw [rounds_succ]; go_wp2
  rw [rounds_succ]; go_wp2
  go_ret2
  exact ⟨rfl, rfl⟩

set_option maxHeartbeats 1000000 in
theorem of_in9 (w : World) (hN : NamesAt w) : Calls Tryd.prog 13 #[.string ⟨#[116, 104, 114, 101, 97, 100]⟩] w fun e w' => e = .returned (.tuple #[.int .i64 9, .bool true]) ∧ w = w' := by
  obtain ⟨t, fr, hN⟩ := hN
  go_enter Tryd.func13, Tryd.ntmps13
  go_wp2
  go_step3
  go_wp2
  go_step3
  go_wp2_with (refine wpList_load_row rfl 30 (.global 0) rfl 0 rfl t namesA fr _ hN Tryd.underlying30 rfl (by kernel_rfl) ?_)
  have i0 := idx0; have i1 := idx1; have i2 := idx2; have i3 := idx3; have i4 := idx4; have i5 := idx5; have i6 := idx6; have i7 := idx7; have i8 := idx8; have i9 := idx9
  refine wp_loop_rounds 10 ?_
  rw [rounds_succ]; go_wp2
  rw [rounds_succ]; go_wp2
  rw [rounds_succ]; go_wp2
  rw [rounds_succ]; go_wp2
  rw [rounds_succ]; go_wp2
  rw [rounds_succ]; go_wp2
  rw [rounds_succ]; go_wp2
  rw [rounds_succ]; go_wp2
  rw [rounds_succ]; go_wp2
  rw [rounds_succ]; go_wp2
  rw [Exit.noGoto_ret]
  go_ret2
  exact ⟨rfl, rfl⟩
set_option maxHeartbeats 1000000 in
theorem ofR_in9 (w : World) : Calls Tryd.prog 14 #[.string ⟨#[116, 104, 114, 101, 97, 100]⟩] w fun e w' => e = .returned (.tuple #[.int .i64 9, .bool true]) ∧ w = w' := by
  go_enter Tryd.func14, Tryd.ntmps14
  go_wp2
  refine wp_loop_rounds 10 ?_
  rw [rounds_succ]; go_wp2
  rw [rounds_succ]; go_wp2
  rw [rounds_succ]; go_wp2
  rw [rounds_succ]; go_wp2
  rw [rounds_succ]; go_wp2
  rw [rounds_succ]; go_wp2
  rw [rounds_succ]; go_wp2
  rw [rounds_succ]; go_wp2
  rw [rounds_succ]; go_wp2
  rw [rounds_succ]; go_wp2
  go_ret2
  exact ⟨rfl, rfl⟩

set_option maxHeartbeats 2000000 in
theorem of_none (s : ByteArray) (w : World) (hN : NamesAt w) (h : ∀ k : Nat, k ≤ 9 → s ≠ nameN k) : Calls Tryd.prog 13 #[.string s] w fun e w' => e = .returned (.tuple #[.int .i64 0, .bool false]) ∧ w = w' := by
  obtain ⟨t, fr, hN⟩ := hN
  have n0 : (([110, 111, 110, 101] : List UInt8) == s.toList) = false := beq_eq_false_iff_ne.2 (fun e => h 0 (by decide) ((bytes_of e).trans rfl))
  have n1 : (([117, 110, 116, 121, 112, 101, 100] : List UInt8) == s.toList) = false := beq_eq_false_iff_ne.2 (fun e => h 1 (by decide) ((bytes_of e).trans rfl))
  have n2 : (([110, 111, 100, 101] : List UInt8) == s.toList) = false := beq_eq_false_iff_ne.2 (fun e => h 2 (by decide) ((bytes_of e).trans rfl))
  have n3 : (([102, 114, 97, 109, 101] : List UInt8) == s.toList) = false := beq_eq_false_iff_ne.2 (fun e => h 3 (by decide) ((bytes_of e).trans rfl))
  have n4 : (([116, 97, 98, 108, 101] : List UInt8) == s.toList) = false := beq_eq_false_iff_ne.2 (fun e => h 4 (by decide) ((bytes_of e).trans rfl))
  have n5 : (([114, 111, 111, 116] : List UInt8) == s.toList) = false := beq_eq_false_iff_ne.2 (fun e => h 5 (by decide) ((bytes_of e).trans rfl))
  have n6 : (([112, 111, 111, 108] : List UInt8) == s.toList) = false := beq_eq_false_iff_ne.2 (fun e => h 6 (by decide) ((bytes_of e).trans rfl))
  have n7 : (([99, 111, 110, 116, 114, 111, 108] : List UInt8) == s.toList) = false := beq_eq_false_iff_ne.2 (fun e => h 7 (by decide) ((bytes_of e).trans rfl))
  have n8 : (([101, 110, 100, 112, 111, 105, 110, 116] : List UInt8) == s.toList) = false := beq_eq_false_iff_ne.2 (fun e => h 8 (by decide) ((bytes_of e).trans rfl))
  have n9 : (([116, 104, 114, 101, 97, 100] : List UInt8) == s.toList) = false := beq_eq_false_iff_ne.2 (fun e => h 9 (by decide) ((bytes_of e).trans rfl))
  clear h
  go_enter Tryd.func13, Tryd.ntmps13
  go_wp2
  go_step3
  go_wp2
  go_step3
  go_wp2_with (refine wpList_load_row rfl 30 (.global 0) rfl 0 rfl t namesA fr _ hN Tryd.underlying30 rfl (by kernel_rfl) ?_)
  have i0 := idx0; have i1 := idx1; have i2 := idx2; have i3 := idx3; have i4 := idx4; have i5 := idx5; have i6 := idx6; have i7 := idx7; have i8 := idx8; have i9 := idx9
  refine wp_loop_rounds 11 ?_
  rw [rounds_succ]; go_wp2
  rw [rounds_succ]; go_wp2
  rw [rounds_succ]; go_wp2
  rw [rounds_succ]; go_wp2
  rw [rounds_succ]; go_wp2
  rw [rounds_succ]; go_wp2
  rw [rounds_succ]; go_wp2
  rw [rounds_succ]; go_wp2
  rw [rounds_succ]; go_wp2
  rw [rounds_succ]; go_wp2
  rw [rounds_succ]; go_wp2
  rw [Exit.noGoto_ret]
  go_ret2
  exact ⟨rfl, rfl⟩
set_option maxHeartbeats 2000000 in
theorem ofR_none (s : ByteArray) (w : World) (h : ∀ k : Nat, k ≤ 9 → s ≠ nameN k) : Calls Tryd.prog 14 #[.string s] w fun e w' => e = .returned (.tuple #[.int .i64 0, .bool false]) ∧ w = w' := by
  have n0 : (([110, 111, 110, 101] : List UInt8) == s.toList) = false := beq_eq_false_iff_ne.2 (fun e => h 0 (by decide) ((bytes_of e).trans rfl))
  have n1 : (([117, 110, 116, 121, 112, 101, 100] : List UInt8) == s.toList) = false := beq_eq_false_iff_ne.2 (fun e => h 1 (by decide) ((bytes_of e).trans rfl))
  have n2 : (([110, 111, 100, 101] : List UInt8) == s.toList) = false := beq_eq_false_iff_ne.2 (fun e => h 2 (by decide) ((bytes_of e).trans rfl))
  have n3 : (([102, 114, 97, 109, 101] : List UInt8) == s.toList) = false := beq_eq_false_iff_ne.2 (fun e => h 3 (by decide) ((bytes_of e).trans rfl))
  have n4 : (([116, 97, 98, 108, 101] : List UInt8) == s.toList) = false := beq_eq_false_iff_ne.2 (fun e => h 4 (by decide) ((bytes_of e).trans rfl))
  have n5 : (([114, 111, 111, 116] : List UInt8) == s.toList) = false := beq_eq_false_iff_ne.2 (fun e => h 5 (by decide) ((bytes_of e).trans rfl))
  have n6 : (([112, 111, 111, 108] : List UInt8) == s.toList) = false := beq_eq_false_iff_ne.2 (fun e => h 6 (by decide) ((bytes_of e).trans rfl))
  have n7 : (([99, 111, 110, 116, 114, 111, 108] : List UInt8) == s.toList) = false := beq_eq_false_iff_ne.2 (fun e => h 7 (by decide) ((bytes_of e).trans rfl))
  have n8 : (([101, 110, 100, 112, 111, 105, 110, 116] : List UInt8) == s.toList) = false := beq_eq_false_iff_ne.2 (fun e => h 8 (by decide) ((bytes_of e).trans rfl))
  have n9 : (([116, 104, 114, 101, 97, 100] : List UInt8) == s.toList) = false := beq_eq_false_iff_ne.2 (fun e => h 9 (by decide) ((bytes_of e).trans rfl))
  clear h
  go_enter Tryd.func14, Tryd.ntmps14
  go_wp2
  refine wp_loop_rounds 11 ?_
  rw [rounds_succ]; go_wp2
  rw [rounds_succ]; go_wp2
  rw [rounds_succ]; go_wp2
  rw [rounds_succ]; go_wp2
  rw [rounds_succ]; go_wp2
  rw [rounds_succ]; go_wp2
  rw [rounds_succ]; go_wp2
  rw [rounds_succ]; go_wp2
  rw [rounds_succ]; go_wp2
  rw [rounds_succ]; go_wp2
  rw [rounds_succ]; go_wp2
  go_ret2
  exact ⟨rfl, rfl⟩

theorem of_both (s : ByteArray) (w : World) (hN : NamesAt w) : ∃ (k : Int) (b : Bool), Calls Tryd.prog 13 #[.string s] w (fun e w' => e = .returned (.tuple #[.int .i64 k, .bool b]) ∧ w = w') ∧
    ∀ w2 : World, Calls Tryd.prog 14 #[.string s] w2 (fun e w' => e = .returned (.tuple #[.int .i64 k, .bool b]) ∧ w2 = w') := by
  rcases kind_cases s with ⟨k, hk, rfl⟩ | h
  · obtain rfl | rfl | rfl | rfl | rfl | rfl | rfl | rfl | rfl | rfl : k = 0 ∨ k = 1 ∨ k = 2 ∨ k = 3 ∨ k = 4 ∨ k = 5 ∨ k = 6 ∨ k = 7 ∨ k = 8 ∨ k = 9 := by omega
    · exact ⟨0, true, of_in0 w hN, fun w2 => ofR_in0 w2⟩
    · exact ⟨1, true, of_in1 w hN, fun w2 => ofR_in1 w2⟩
    · exact ⟨2, true, of_in2 w hN, fun w2 => ofR_in2 w2⟩
    · exact ⟨3, true, of_in3 w hN, fun w2 => ofR_in3 w2⟩
    · exact ⟨4, true, of_in4 w hN, fun w2 => ofR_in4 w2⟩
    · exact ⟨5, true, of_in5 w hN, fun w2 => ofR_in5 w2⟩
    · exact ⟨6, true, of_in6 w hN, fun w2 => ofR_in6 w2⟩
    · exact ⟨7, true, of_in7 w hN, fun w2 => ofR_in7 w2⟩
    · exact ⟨8, true, of_in8 w hN, fun w2 => ofR_in8 w2⟩
    · exact ⟨9, true, of_in9 w hN, fun w2 => ofR_in9 w2⟩
  · exact ⟨0, false, of_none s w hN h, fun w2 => ofR_none s w2 h⟩

set_option maxHeartbeats 1000000 in
theorem walk_kindsNames (a0 : ByteArray) (w0 : a0.size ≤ maxLen) (W : World) (hL : LaidV_laid_seisin_kinds_names W) :
    Calls Tryd.prog 4 #[.string a0] W fun e w' => e = .returned (.bool true) ∧ Below W.heap.size W w' := by
  obtain ⟨hN, -⟩ := hL
  unfold maxLen at w0
  obtain ⟨k, b, h1, h2⟩ := of_both a0 W hN
  have H1 := Lib.hid h1; have H2 := Lib.hid h2
  clear h1 h2
  by_cases h : 100 < a0.size
  · go_enter Tryd.func4, Tryd.ntmps4
    go_wp2_with (go_at_call 12; refine (awake10 _ hN).mono ?_; rintro e w1 ⟨rfl, rfl⟩)
    go_ret
    exact ⟨rfl, Below.refl _ _⟩
  · go_enter Tryd.func4, Tryd.ntmps4
    go_wp2_with (first
      | (go_at_call 13; refine H1.out.mono ?_; rintro e w1 ⟨rfl, rfl⟩)
      | (go_at_call 14; refine (H2.out _).mono ?_; rintro e w1 ⟨rfl, rfl⟩)
      | (go_at_call 12; refine (awake10 _ hN).mono ?_; rintro e w1 ⟨rfl, rfl⟩))
    go_ret
    exact ⟨rfl, Below.refl _ _⟩
end Go.Proofs.YtenbnclalcgdkaaDoor
