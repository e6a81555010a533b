/- Chapter 28's own forms and fits. -/
import Derived.Test.YtahagcghbeeajaaDcL
namespace Go.Proofs.Ytahagcghbeeajaa
set_option linter.unusedVariables false
set_option linter.unusedSimpArgs false
open Go.ChangeShapes Go.WideShapes Go.ChangeAt Go.RowKit Go.Shelf

/-- Chapter 28's own forms, by letters. -/
def ltr (n : Nat) : List Nat :=
  match n with
  | 1 => [97, 107, 122, 97, 105, 99]
  | 2 => [97, 97, 109]
  | 3 => [97, 97, 109, 119]
  | 4 => [97, 97]
  | 5 => [97, 97]
  | 6 => [97]
  | 7 => [97, 98]
  | 8 => [97, 97, 119]
  | 9 => [97]
  | 10 => [97, 97, 119, 109]
  | 11 => [97]
  | 12 => [97, 97]
  | 13 => [97, 97]
  | 14 => [97, 103, 119, 119, 119, 119]
  | 15 => [97, 103, 119, 119, 119, 119]
  | 16 => [97, 103]
  | 17 => [119, 119, 119, 119]
  | 18 => []
  | 19 => [97, 115, 97]
  | 20 => [97, 115]
  | 21 => [97]
  | 22 => [97]
  | 23 => [97, 112]
  | _ => [63]
def strO (l : List Nat) : ByteArray := ⟨(l.map Nat.toUInt8).toArray⟩
theorem form_1 (w : World) : Calls Try.prog 18 #[.int .u64 1] w fun e w' => e = .returned (.string ⟨#[97, 107, 122, 97, 105, 99]⟩) ∧ w = w' := by
  go_enter Try.func18, Try.ntmps18
  go_wp2
  go_ret
  exact ⟨rfl, rfl⟩
theorem form_2 (w : World) : Calls Try.prog 18 #[.int .u64 2] w fun e w' => e = .returned (.string ⟨#[97, 97, 109]⟩) ∧ w = w' := by
  go_enter Try.func18, Try.ntmps18
  go_wp2
  go_ret
  exact ⟨rfl, rfl⟩
theorem form_3 (w : World) : Calls Try.prog 18 #[.int .u64 3] w fun e w' => e = .returned (.string ⟨#[97, 97, 109, 119]⟩) ∧ w = w' := by
  go_enter Try.func18, Try.ntmps18
  go_wp2
  go_ret
  exact ⟨rfl, rfl⟩
theorem form_4 (w : World) : Calls Try.prog 18 #[.int .u64 4] w fun e w' => e = .returned (.string ⟨#[97, 97]⟩) ∧ w = w' := by
  go_enter Try.func18, Try.ntmps18
  go_wp2
  go_ret
  exact ⟨rfl, rfl⟩
theorem form_5 (w : World) : Calls Try.prog 18 #[.int .u64 5] w fun e w' => e = .returned (.string ⟨#[97, 97]⟩) ∧ w = w' := by
  go_enter Try.func18, Try.ntmps18
  go_wp2
  go_ret
  exact ⟨rfl, rfl⟩
theorem form_6 (w : World) : Calls Try.prog 18 #[.int .u64 6] w fun e w' => e = .returned (.string ⟨#[97]⟩) ∧ w = w' := by
  go_enter Try.func18, Try.ntmps18
  go_wp2
  go_ret
  exact ⟨rfl, rfl⟩
theorem form_7 (w : World) : Calls Try.prog 18 #[.int .u64 7] w fun e w' => e = .returned (.string ⟨#[97, 98]⟩) ∧ w = w' := by
  go_enter Try.func18, Try.ntmps18
  go_wp2
  go_ret
  exact ⟨rfl, rfl⟩
theorem form_8 (w : World) : Calls Try.prog 18 #[.int .u64 8] w fun e w' => e = .returned (.string ⟨#[97, 97, 119]⟩) ∧ w = w' := by
  go_enter Try.func18, Try.ntmps18
  go_wp2
  go_ret
  exact ⟨rfl, rfl⟩
theorem form_9 (w : World) : Calls Try.prog 18 #[.int .u64 9] w fun e w' => e = .returned (.string ⟨#[97]⟩) ∧ w = w' := by
  go_enter Try.func18, Try.ntmps18
  go_wp2
  go_ret
  exact ⟨rfl, rfl⟩
theorem form_10 (w : World) : Calls Try.prog 18 #[.int .u64 10] w fun e w' => e = .returned (.string ⟨#[97, 97, 119, 109]⟩) ∧ w = w' := by
  go_enter Try.func18, Try.ntmps18
  go_wp2
  go_ret
  exact ⟨rfl, rfl⟩
theorem form_11 (w : World) : Calls Try.prog 18 #[.int .u64 11] w fun e w' => e = .returned (.string ⟨#[97]⟩) ∧ w = w' := by
  go_enter Try.func18, Try.ntmps18
  go_wp2
  go_ret
  exact ⟨rfl, rfl⟩
theorem form_12 (w : World) : Calls Try.prog 18 #[.int .u64 12] w fun e w' => e = .returned (.string ⟨#[97, 97]⟩) ∧ w = w' := by
  go_enter Try.func18, Try.ntmps18
  go_wp2
  go_ret
  exact ⟨rfl, rfl⟩
theorem form_13 (w : World) : Calls Try.prog 18 #[.int .u64 13] w fun e w' => e = .returned (.string ⟨#[97, 97]⟩) ∧ w = w' := by
  go_enter Try.func18, Try.ntmps18
  go_wp2
  go_ret
  exact ⟨rfl, rfl⟩
theorem form_14 (w : World) : Calls Try.prog 18 #[.int .u64 14] w fun e w' => e = .returned (.string ⟨#[97, 103, 119, 119, 119, 119]⟩) ∧ w = w' := by
  go_enter Try.func18, Try.ntmps18
  go_wp2
  go_ret
  exact ⟨rfl, rfl⟩
theorem form_15 (w : World) : Calls Try.prog 18 #[.int .u64 15] w fun e w' => e = .returned (.string ⟨#[97, 103, 119, 119, 119, 119]⟩) ∧ w = w' := by
  go_enter Try.func18, Try.ntmps18
  go_wp2
  go_ret
  exact ⟨rfl, rfl⟩
theorem form_16 (w : World) : Calls Try.prog 18 #[.int .u64 16] w fun e w' => e = .returned (.string ⟨#[97, 103]⟩) ∧ w = w' := by
  go_enter Try.func18, Try.ntmps18
  go_wp2
  go_ret
  exact ⟨rfl, rfl⟩
theorem form_17 (w : World) : Calls Try.prog 18 #[.int .u64 17] w fun e w' => e = .returned (.string ⟨#[119, 119, 119, 119]⟩) ∧ w = w' := by
  go_enter Try.func18, Try.ntmps18
  go_wp2
  go_ret
  exact ⟨rfl, rfl⟩
theorem form_18 (w : World) : Calls Try.prog 18 #[.int .u64 18] w fun e w' => e = .returned (.string ⟨#[]⟩) ∧ w = w' := by
  go_enter Try.func18, Try.ntmps18
  go_wp2
  go_ret
  exact ⟨rfl, rfl⟩
theorem form_19 (w : World) : Calls Try.prog 18 #[.int .u64 19] w fun e w' => e = .returned (.string ⟨#[97, 115, 97]⟩) ∧ w = w' := by
  go_enter Try.func18, Try.ntmps18
  go_wp2
  go_ret
  exact ⟨rfl, rfl⟩
theorem form_20 (w : World) : Calls Try.prog 18 #[.int .u64 20] w fun e w' => e = .returned (.string ⟨#[97, 115]⟩) ∧ w = w' := by
  go_enter Try.func18, Try.ntmps18
  go_wp2
  go_ret
  exact ⟨rfl, rfl⟩
theorem form_21 (w : World) : Calls Try.prog 18 #[.int .u64 21] w fun e w' => e = .returned (.string ⟨#[97]⟩) ∧ w = w' := by
  go_enter Try.func18, Try.ntmps18
  go_wp2
  go_ret
  exact ⟨rfl, rfl⟩
theorem form_22 (w : World) : Calls Try.prog 18 #[.int .u64 22] w fun e w' => e = .returned (.string ⟨#[97]⟩) ∧ w = w' := by
  go_enter Try.func18, Try.ntmps18
  go_wp2
  go_ret
  exact ⟨rfl, rfl⟩
theorem form_23 (w : World) : Calls Try.prog 18 #[.int .u64 23] w fun e w' => e = .returned (.string ⟨#[97, 112]⟩) ∧ w = w' := by
  go_enter Try.func18, Try.ntmps18
  go_wp2
  go_ret
  exact ⟨rfl, rfl⟩
theorem form_no (n : Int) (h : n = 0 ∨ 24 ≤ n) (w : World) : Calls Try.prog 18 #[.int .u64 n] w fun e w' => e = .returned (.string ⟨#[63]⟩) ∧ w = w' := by
  have h1 : (n == 1) = false := beq_eq_false_iff_ne.2 (by omega)
  have h2 : (n == 2) = false := beq_eq_false_iff_ne.2 (by omega)
  have h3 : (n == 3) = false := beq_eq_false_iff_ne.2 (by omega)
  have h4 : (n == 4) = false := beq_eq_false_iff_ne.2 (by omega)
  have h5 : (n == 5) = false := beq_eq_false_iff_ne.2 (by omega)
  have h6 : (n == 6) = false := beq_eq_false_iff_ne.2 (by omega)
  have h7 : (n == 7) = false := beq_eq_false_iff_ne.2 (by omega)
  have h8 : (n == 8) = false := beq_eq_false_iff_ne.2 (by omega)
  have h9 : (n == 9) = false := beq_eq_false_iff_ne.2 (by omega)
  have h10 : (n == 10) = false := beq_eq_false_iff_ne.2 (by omega)
  have h11 : (n == 11) = false := beq_eq_false_iff_ne.2 (by omega)
  have h12 : (n == 12) = false := beq_eq_false_iff_ne.2 (by omega)
  have h13 : (n == 13) = false := beq_eq_false_iff_ne.2 (by omega)
  have h14 : (n == 14) = false := beq_eq_false_iff_ne.2 (by omega)
  have h15 : (n == 15) = false := beq_eq_false_iff_ne.2 (by omega)
  have h16 : (n == 16) = false := beq_eq_false_iff_ne.2 (by omega)
  have h17 : (n == 17) = false := beq_eq_false_iff_ne.2 (by omega)
  have h18 : (n == 18) = false := beq_eq_false_iff_ne.2 (by omega)
  have h19 : (n == 19) = false := beq_eq_false_iff_ne.2 (by omega)
  have h20 : (n == 20) = false := beq_eq_false_iff_ne.2 (by omega)
  have h21 : (n == 21) = false := beq_eq_false_iff_ne.2 (by omega)
  have h22 : (n == 22) = false := beq_eq_false_iff_ne.2 (by omega)
  have h23 : (n == 23) = false := beq_eq_false_iff_ne.2 (by omega)
  clear h
  go_enter Try.func18, Try.ntmps18
  go_wp2
  go_ret
  exact ⟨rfl, rfl⟩
theorem form_any (n : Nat) (w : World) : Calls Try.prog 18 #[.int .u64 n] w fun e w' => e = .returned (.string (strO (ltr n))) ∧ w = w' := by
  by_cases h : n = 0 ∨ 24 ≤ n
  · have e : ltr n = [63] := by
      rcases h with rfl | h
      · rfl
      · unfold ltr
        split
        all_goals first
          | rfl
          | omega
    rw [e]
    exact form_no n (by omega) w
  · obtain rfl | rfl | rfl | rfl | rfl | rfl | rfl | rfl | rfl | rfl | rfl | rfl | rfl | rfl | rfl | rfl | rfl | rfl | rfl | rfl | rfl | rfl | rfl : n = 1 ∨ n = 2 ∨ n = 3 ∨ n = 4 ∨ n = 5 ∨ n = 6 ∨ n = 7 ∨ n = 8 ∨ n = 9 ∨ n = 10 ∨ n = 11 ∨ n = 12 ∨ n = 13 ∨ n = 14 ∨ n = 15 ∨ n = 16 ∨ n = 17 ∨ n = 18 ∨ n = 19 ∨ n = 20 ∨ n = 21 ∨ n = 22 ∨ n = 23 := by omega
    · exact form_1 w
    · exact form_2 w
    · exact form_3 w
    · exact form_4 w
    · exact form_5 w
    · exact form_6 w
    · exact form_7 w
    · exact form_8 w
    · exact form_9 w
    · exact form_10 w
    · exact form_11 w
    · exact form_12 w
    · exact form_13 w
    · exact form_14 w
    · exact form_15 w
    · exact form_16 w
    · exact form_17 w
    · exact form_18 w
    · exact form_19 w
    · exact form_20 w
    · exact form_21 w
    · exact form_22 w
    · exact form_23 w
/-- Does a word fit its letter? -/
def fitB (t : Nat) (x : Int) : Bool :=
  if t = 97 then decide (x < 4096) else if t = 103 then decide (x ≤ 4096) else if t = 109 ∨ t = 112 then decide (x ≤ 7) else if t = 98 then decide (1 ≤ x ∧ x ≤ 64) else if t = 115 then decide (x < 3) else if t = 105 then decide (x ≤ 15) else if t = 99 then decide (1 ≤ x ∧ x ≤ 4) else true
set_option maxHeartbeats 4000000 in
theorem fits_any (t : Nat) (x : Int) (w : World) : Calls Try.prog 20 #[.int .u8 t, .int .u64 x] w fun e w' => e = .returned (.bool (fitB t x)) ∧ w = w' := by
  go_enter Try.func20, Try.ntmps20
  go_wp2
  all_goals go_ret
  all_goals refine ⟨ret_bool ?_, rfl⟩
  all_goals (simp only [beq_iff_eq, beq_eq_false_iff_ne, ne_eq] at *)
  all_goals (unfold fitB; (repeat' split) <;> first | rfl | omega | (simp; omega))
end Go.Proofs.Ytahagcghbeeajaa
