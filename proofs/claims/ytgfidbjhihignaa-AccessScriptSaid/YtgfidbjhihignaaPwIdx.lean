/- Package vaddr: Index; chapter 4: small, Index. -/
import Derived.Test.YtgfidbjhihignaaPwWord
import Derived.Deep.QuietTactic
import Derived.BigQuiet
import Derived.Lib.Hide
import Derived.Laws.BitsAllLaws
import Derived.WalkSmall
namespace Go.Proofs.Ytgfidbjhihignaa
set_option linter.unusedVariables false
set_option linter.unusedSimpArgs false
open Go.ChangeShapes Go.WideShapes Go.ChangeAt Go.RowKit
attribute [local go_sem] setCell_drewN alloc_drewN
theorem index_no (p l : Int) (w : World) (h : p < 0 ∨ 512 ≤ p ∨ l < 1 ∨ 3 < l) :
    Calls Try.prog 47 #[.int .i64 p, .int .i64 l] w fun e w' => e = .returned (.int .i64 (-1)) ∧ ∃ k, w' = w.drewN k := by
  by_cases h1 : p < 0
  · go_enter Try.func47, Try.ntmps47
    go_wp2
    go_ret
    exact ⟨rfl, 0, rfl⟩
  · by_cases h2 : 512 ≤ p
    · go_enter Try.func47, Try.ntmps47
      go_wp2
      go_ret
      exact ⟨rfl, 0, rfl⟩
    · by_cases h3 : l < 1
      · go_enter Try.func47, Try.ntmps47
        go_wp2
        go_ret
        exact ⟨rfl, 0, rfl⟩
      · have h4 : 3 < l := by omega
        go_enter Try.func47, Try.ntmps47
        go_wp2
        go_ret
        exact ⟨rfl, 0, rfl⟩
/-- The index of page p on level l. -/
def indexN (p l : Int) : Int := if l = 1 then p / 64 else if l = 2 then p / 8 % 8 else p % 8
theorem indexN_1 (p : Int) : indexN p 1 = p / 64 := rfl
theorem indexN_2 (p : Int) : indexN p 2 = p / 8 % 8 := rfl
theorem indexN_3 (p : Int) : indexN p 3 = p % 8 := rfl
theorem indexN_bd (p l : Int) (h0 : 0 ≤ p) (h : p < 512) : 0 ≤ indexN p l ∧ indexN p l < 8 := by
  unfold indexN; split <;> (try split) <;> omega
theorem field_index (p l : Int) (h0 : 0 ≤ p) (h : p < 512) (h1 : 1 ≤ l) (h2 : l ≤ 3) : fieldN p ((3 - l) * 3) 3 = indexN p l := by
  have e3 : (2 : Int) ^ (3 : Int).toNat = 8 := by decide
  have e6 : (2 : Int) ^ (6 : Int).toNat = 64 := by decide
  have e0 : (2 : Int) ^ (0 : Int).toNat = 1 := by decide
  obtain rfl | rfl | rfl : l = 1 ∨ l = 2 ∨ l = 3 := by omega
  · show fieldN p 6 3 = p / 64
    unfold fieldN; rw [e6, e3]; omega
  · show fieldN p 3 3 = p / 8 % 8
    unfold fieldN; rw [e3]
  · show fieldN p 0 3 = p % 8
    unfold fieldN; rw [e0, e3]; omega
theorem index_yes (p l : Int) (w : World) (h0 : 0 ≤ p) (h : p < 512) (h1 : 1 ≤ l) (h2 : l ≤ 3) :
    Calls Try.prog 47 #[.int .i64 p, .int .i64 l] w fun e w' => e = .returned (.int .i64 (indexN p l)) ∧ ∃ k, w' = w.drewN k := by
  have e1 := field_index p l h0 h h1 h2
  obtain ⟨b1, b2⟩ := indexN_bd p l h0 h
  go_enter Try.func47, Try.ntmps47
  go_wp2_with (go_at_call 50; refine (field_yes p ((3 - l) * 3) 3 _ (by omega) (by omega) (insideB_mk (by omega)) (by omega) (by omega)).mono ?_; rintro e w' ⟨rfl, k, rfl⟩)
  go_ret
  exact ⟨rfl, _, rfl⟩
def belowN (x n : Int) : Bool := decide (0 ≤ x ∧ x < n)
theorem smallR_any (x n : Int) (w : World) : Calls Try.prog 75 #[.int .i64 x, .int .i64 n] w fun e w' => e = .returned (.bool (belowN x n)) ∧ w = w' := by
  go_enter Try.func75, Try.ntmps75
  go_wp2
  all_goals go_ret
  all_goals refine ⟨ret_bool ?_, rfl⟩
  · by_cases h : x < n
    · rw [show belowN x n = true from decide_eq_true ⟨‹_›, h⟩]; exact decide_eq_true h
    · rw [show belowN x n = false from decide_eq_false (by omega)]; exact decide_eq_false h
  · exact (show belowN x n = false from decide_eq_false (by omega)).symm
theorem indexR_no (p l : Int) (w : World) (h : p < 0 ∨ 512 ≤ p ∨ l < 1 ∨ 3 < l) :
    Calls Try.prog 68 #[.int .i64 p, .int .i64 l] w fun e w' => e = .returned (.int .i64 (-1)) ∧ w = w' := by
  cases k : belowN p 512 with
  | false =>
    go_enter Try.func68, Try.ntmps68
    go_wp2_with (go_at_call 75; refine (smallR_any _ _ _).mono ?_; rintro e w1 ⟨rfl, rfl⟩)
    go_ret
    exact ⟨rfl, rfl⟩
  | true =>
    have e1 := of_decide_eq_true k
    have d1 : (l == 1) = false := by simp; omega
    have d2 : (l == 2) = false := by simp; omega
    have d3 : (l == 3) = false := by simp; omega
    go_enter Try.func68, Try.ntmps68
    go_wp2_with (go_at_call 75; refine (smallR_any _ _ _).mono ?_; rintro e w1 ⟨rfl, rfl⟩)
    go_ret
    exact ⟨rfl, rfl⟩
theorem indexR_yes (p l : Int) (w : World) (h0 : 0 ≤ p) (h : p < 512) (h1 : 1 ≤ l) (h2 : l ≤ 3) :
    Calls Try.prog 68 #[.int .i64 p, .int .i64 l] w fun e w' => e = .returned (.int .i64 (indexN p l)) ∧ w = w' := by
  have k : belowN p 512 = true := decide_eq_true ⟨h0, h⟩
  obtain rfl | rfl | rfl : l = 1 ∨ l = 2 ∨ l = 3 := by omega
  all_goals
    go_enter Try.func68, Try.ntmps68
    go_wp2_with (go_at_call 75; refine (smallR_any _ _ _).mono ?_; rintro e w1 ⟨rfl, rfl⟩)
    go_ret
    exact ⟨rfl, rfl⟩
end Go.Proofs.Ytgfidbjhihignaa
