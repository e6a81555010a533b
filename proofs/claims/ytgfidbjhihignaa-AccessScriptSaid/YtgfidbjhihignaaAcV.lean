/- Package vaddr: Page and Split. -/
import Derived.Test.YtgfidbjhihignaaPwIdx
namespace Go.Proofs.Ytgfidbjhihignaa
set_option linter.unusedVariables false
set_option linter.unusedSimpArgs false
open Go.ChangeShapes Go.WideShapes Go.ChangeAt Go.RowKit
attribute [local go_sem] setCell_drewN alloc_drewN
theorem page_no (va : Int) (w : World) (h : 32768 ≤ va) :
    Calls Try.prog 41 #[.int .u64 va] w fun e w' => e = .returned (.tuple #[.int .i64 0, .int .i64 3]) ∧ ∃ k, w' = w.drewN k := by
  go_enter Try.func41, Try.ntmps41
  go_wp2
  go_ret2
  exact ⟨rfl, 0, rfl⟩
theorem field_page (va : Int) (h0 : 0 ≤ va) (h : va < 32768) : fieldN va 6 9 = va / 64 := by
  unfold fieldN
  have e1 : (2 : Int) ^ (6 : Int).toNat = 64 := by decide
  have e2 : (2 : Int) ^ (9 : Int).toNat = 512 := by decide
  rw [e1, e2]; omega
theorem page_yes (va : Int) (w : World) (h0 : 0 ≤ va) (h : va < 32768) :
    Calls Try.prog 41 #[.int .u64 va] w fun e w' => e = .returned (.tuple #[.int .i64 (va / 64), .int .i64 0]) ∧ ∃ k, w' = w.drewN k := by
  have e1 := field_page va h0 h
  go_enter Try.func41, Try.ntmps41
  go_wp2_with (go_at_call 50; refine (field_yes _ 6 9 _ (by decide) (by decide) (by decide) (by omega) (by omega)).mono ?_; rintro e w' ⟨rfl, k, rfl⟩)
  go_ret2
  exact ⟨rfl, _, rfl⟩
theorem split_no (va : Int) (w : World) (h : 32768 ≤ va) :
    Calls Try.prog 39 #[.int .u64 va] w fun e w' => e = .returned (.tuple #[.agg #[.int .i64 0, .int .i64 0, .int .i64 0, .int .i64 0], .int .i64 3]) ∧ Below w.heap.size w w' := by
  go_enter Try.func39, Try.ntmps39
  go_wp2_with (go_at_call 41; refine (page_no _ _ h).mono ?_; rintro e w' ⟨rfl, k, rfl⟩)
  exact bodyPost_ret (v := .tuple #[.agg #[.int .i64 0, .int .i64 0, .int .i64 0, .int .i64 0], .int .i64 3]) (by simp [results, Try.results39, go_sem]) rfl ⟨rfl, below_drewN ((Below.refl _ _).alloc (Nat.le_refl _) _) _⟩
abbrev partsV (a b c d : Int) : Value := .agg #[.int .i64 a, .int .i64 b, .int .i64 c, .int .i64 d]
set_option maxHeartbeats 1000000 in
theorem split_yes (va : Int) (w : World) (h0 : 0 ≤ va) (h : va < 32768) :
    Calls Try.prog 39 #[.int .u64 va] w fun e w' => e = .returned (.tuple #[partsV (va / 4096) (va / 512 % 8) (va / 64 % 8) (va % 64), .int .i64 0]) ∧ Below w.heap.size w w' := by
  have e1 : indexN (va / 64) 1 = va / 4096 := by rw [indexN_1]; omega
  have e2 : indexN (va / 64) 2 = va / 512 % 8 := by rw [indexN_2]; omega
  have e3 : indexN (va / 64) 3 = va / 64 % 8 := rfl
  have e4 : bits BinOp.and IntKind.u64 va (onesN 6) = va % 64 := by
    obtain ⟨x, rfl⟩ := Int.eq_ofNat_of_zero_le h0
    rw [and_ones x 6 (by omega) (by decide) (by decide)]
    have : (2 : Nat) ^ (6 : Int).toNat = 64 := by decide
    rw [this]; simp
  go_enter Try.func39, Try.ntmps39
  go_wp2_with (first
    | (go_at_call 41; refine (page_yes _ _ h0 h).mono ?_; rintro e w' ⟨rfl, k, rfl⟩)
    | (go_at_call 47; refine (index_yes _ _ _ (by omega) (by omega) (by decide) (by decide)).mono ?_; rintro e w' ⟨rfl, k, rfl⟩)
    | (go_at_call 48; refine (ones_any 6 _).mono ?_; rintro e w' ⟨rfl, rfl⟩))
  exact bodyPost_ret (v := .tuple #[partsV (va / 4096) (va / 512 % 8) (va / 64 % 8) (va % 64), .int .i64 0]) (by simp [results, Try.results39, go_sem]) rfl ⟨rfl, below_drewN ((Below.refl _ _).alloc (Nat.le_refl _) _) _⟩
end Go.Proofs.Ytgfidbjhihignaa
