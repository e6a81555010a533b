/- Contracts of package vaddr: Page, Base, Index, Split, for every input. -/
import Derived.Test.YtdmlcbbheabdpaaDoorWord
import Derived.WalkSmall
namespace Go.Proofs.YtdmlcbbheabdpaaDoor
set_option linter.unusedVariables false
open Go.ChangeShapes Go.WideShapes Go.ChangeAt Go.RowKit

theorem bcell {W w1 : World} (hb : Below W.heap.size W w1) : (∀ b o, b < W.heap.size → w1.cell? ⟨b, o, none⟩ = W.cell? ⟨b, o, none⟩) ∧ (∀ b o, b < W.heap.size → w1.frozen? ⟨b, o, none⟩ = W.frozen? ⟨b, o, none⟩) :=
  ⟨fun b o h => hb.cell (p := ⟨b, o, none⟩) h, fun b o h => hb.frozen (p := ⟨b, o, none⟩) h⟩
theorem setCell_drewN (w : World) (k : Nat) (a : Addr) (v : Value) : (w.drewN k).setCell a v = (w.setCell a v).drewN k := rfl
theorem alloc_drewN (w : World) (k : Nat) (o : Obj) : (w.drewN k).alloc o = (w.alloc o).drewN k := rfl
attribute [local go_sem] setCell_drewN alloc_drewN
theorem below_n (w : World) (k : Nat) : Below w.heap.size w (w.drewN k) := below_drewN (Below.refl _ _) _

theorem page_no (va : Int) (w : World) (h : 32768 ≤ va) :
    Calls Tryd.prog 26 #[.int .u64 va] w fun e w' => e = .returned (.tuple #[.int .i64 0, .int .i64 3]) ∧ ∃ k, w' = w.drewN k := by
  go_enter Tryd.func26, Tryd.ntmps26
  go_wp2
  go_ret2
  exact ⟨rfl, 0, rfl⟩

theorem field_page (va : Int) (h0 : 0 ≤ va) (h : va < 32768) : fieldN va 6 9 = va / 64 := by
  unfold fieldN
  have e1 : (2 : Int) ^ (6 : Int).toNat = 64 := by decide
  have e2 : (2 : Int) ^ (9 : Int).toNat = 512 := by decide
  rw [e1, e2]; omega

theorem page_yes (va : Int) (w : World) (h0 : 0 ≤ va) (h : va < 32768) :
    Calls Tryd.prog 26 #[.int .u64 va] w fun e w' => e = .returned (.tuple #[.int .i64 (va / 64), .int .i64 0]) ∧ ∃ k, w' = w.drewN k := by
  have e1 := field_page va h0 h
  go_enter Tryd.func26, Tryd.ntmps26
  go_wp2_with (go_at_call 32; refine (field_yes _ 6 9 _ (by decide) (by decide) (by decide) (by omega) (by omega)).mono ?_; rintro e w' ⟨rfl, k, rfl⟩)
  go_ret2
  exact ⟨rfl, _, rfl⟩

theorem base_no (p : Int) (w : World) (h : p < 0 ∨ 512 ≤ p) :
    Calls Tryd.prog 20 #[.int .i64 p] w fun e w' => e = .returned (.tuple #[.int .u64 0, .int .i64 3]) ∧ w = w' := by
  rcases h with h | h
  all_goals
    go_enter Tryd.func20, Tryd.ntmps20
    go_wp2
    go_ret2
    exact ⟨rfl, rfl⟩

theorem base_yes (p : Int) (w : World) (h0 : 0 ≤ p) (h : p < 512) :
    Calls Tryd.prog 20 #[.int .i64 p] w fun e w' => e = .returned (.tuple #[.int .u64 (p * 64), .int .i64 0]) ∧ w = w' := by
  go_enter Tryd.func20, Tryd.ntmps20
  go_wp2
  go_ret2
  exact ⟨rfl, rfl⟩

theorem index_no (p l : Int) (w : World) (h : p < 0 ∨ 512 ≤ p ∨ l < 1 ∨ 3 < l) :
    Calls Tryd.prog 22 #[.int .i64 p, .int .i64 l] w fun e w' => e = .returned (.int .i64 (-1)) ∧ ∃ k, w' = w.drewN k := by
  by_cases h1 : p < 0
  · go_enter Tryd.func22, Tryd.ntmps22
    go_wp2
    go_ret
    exact ⟨rfl, 0, rfl⟩
  · by_cases h2 : 512 ≤ p
    · go_enter Tryd.func22, Tryd.ntmps22
      go_wp2
      go_ret
      exact ⟨rfl, 0, rfl⟩
    · by_cases h3 : l < 1
      · go_enter Tryd.func22, Tryd.ntmps22
        go_wp2
        go_ret
        exact ⟨rfl, 0, rfl⟩
      · have h4 : 3 < l := by omega
        go_enter Tryd.func22, Tryd.ntmps22
        go_wp2
        go_ret
        exact ⟨rfl, 0, rfl⟩

/-- The index of page p on level l. -/
def indexN (p l : Int) : Int := if l = 1 then p / 64 else if l = 2 then p / 8 % 8 else p % 8
theorem indexN_1 (p : Int) : indexN p 1 = p / 64 := rfl
theorem indexN_2 (p : Int) : indexN p 2 = p / 8 % 8 := rfl
theorem indexN_3 (p : Int) : indexN p 3 = p % 8 := rfl
theorem indexN_bd (p l : Int) (h0 : 0 ≤ p) (h : p < 512) : 0 ≤ indexN p l ∧ indexN p l < 8 := by
  unfold indexN; split <;> (try split) <;> omega

theorem field_index (p l : Int) (h0 : 0 ≤ p) (h : p < 512) (h1 : 1 ≤ l) (h2 : l ≤ 3) : fieldN p ((3 - l) * 3) 3 = indexN p l := by
  have e3 : (2 : Int) ^ (3 : Int).toNat = 8 := by decide
  have e6 : (2 : Int) ^ (6 : Int).toNat = 64 := by decide
  have e0 : (2 : Int) ^ (0 : Int).toNat = 1 := by decide
  obtain rfl | rfl | rfl : l = 1 ∨ l = 2 ∨ l = 3 := by omega
  · show fieldN p 6 3 = p / 64
    unfold fieldN; rw [e6, e3]; omega
  · show fieldN p 3 3 = p / 8 % 8
    unfold fieldN; rw [e3]
  · show fieldN p 0 3 = p % 8
    unfold fieldN; rw [e0, e3]; omega

theorem index_yes (p l : Int) (w : World) (h0 : 0 ≤ p) (h : p < 512) (h1 : 1 ≤ l) (h2 : l ≤ 3) :
    Calls Tryd.prog 22 #[.int .i64 p, .int .i64 l] w fun e w' => e = .returned (.int .i64 (indexN p l)) ∧ ∃ k, w' = w.drewN k := by
  have e1 := field_index p l h0 h h1 h2
  obtain ⟨b1, b2⟩ := indexN_bd p l h0 h
  go_enter Tryd.func22, Tryd.ntmps22
  go_wp2_with (go_at_call 32; refine (field_yes p ((3 - l) * 3) 3 _ (by omega) (by omega) (insideB_mk (by omega)) (by omega) (by omega)).mono ?_; rintro e w' ⟨rfl, k, rfl⟩)
  go_ret
  exact ⟨rfl, _, rfl⟩

theorem split_no (va : Int) (w : World) (h : 32768 ≤ va) :
    Calls Tryd.prog 25 #[.int .u64 va] w fun e w' => e = .returned (.tuple #[.agg #[.int .i64 0, .int .i64 0, .int .i64 0, .int .i64 0], .int .i64 3]) ∧ Below w.heap.size w w' := by
  go_enter Tryd.func25, Tryd.ntmps25
  go_wp2_with (go_at_call 26; refine (page_no _ _ h).mono ?_; rintro e w' ⟨rfl, k, rfl⟩)
  exact bodyPost_ret (v := .tuple #[.agg #[.int .i64 0, .int .i64 0, .int .i64 0, .int .i64 0], .int .i64 3]) (by simp [results, Tryd.results25, go_sem]) rfl ⟨rfl, below_drewN ((Below.refl _ _).alloc (Nat.le_refl _) _) _⟩

abbrev partsV (a b c d : Int) : Value := .agg #[.int .i64 a, .int .i64 b, .int .i64 c, .int .i64 d]

set_option maxHeartbeats 1000000 in
theorem split_yes (va : Int) (w : World) (h0 : 0 ≤ va) (h : va < 32768) :
    Calls Tryd.prog 25 #[.int .u64 va] w fun e w' => e = .returned (.tuple #[partsV (va / 4096) (va / 512 % 8) (va / 64 % 8) (va % 64), .int .i64 0]) ∧ Below w.heap.size w w' := by
  have e1 : indexN (va / 64) 1 = va / 4096 := by rw [indexN_1]; omega
  have e2 : indexN (va / 64) 2 = va / 512 % 8 := by rw [indexN_2]; omega
  have e3 : indexN (va / 64) 3 = va / 64 % 8 := rfl
  have e4 : bits BinOp.and IntKind.u64 va (onesN 6) = va % 64 := by
    obtain ⟨x, rfl⟩ := Int.eq_ofNat_of_zero_le h0
    rw [and_ones x 6 (by omega) (by decide) (by decide)]
    have : (2 : Nat) ^ (6 : Int).toNat = 64 := by decide
    rw [this]; simp
  go_enter Tryd.func25, Tryd.ntmps25
  go_wp2_with (first
    | (go_at_call 26; refine (page_yes _ _ h0 h).mono ?_; rintro e w' ⟨rfl, k, rfl⟩)
    | (go_at_call 22; refine (index_yes _ _ _ (by omega) (by omega) (by decide) (by decide)).mono ?_; rintro e w' ⟨rfl, k, rfl⟩)
    | (go_at_call 33; refine (ones_any 6 _).mono ?_; rintro e w' ⟨rfl, rfl⟩))
  exact bodyPost_ret (v := .tuple #[partsV (va / 4096) (va / 512 % 8) (va / 64 % 8) (va % 64), .int .i64 0]) (by simp [results, Tryd.results25, go_sem]) rfl ⟨rfl, below_drewN ((Below.refl _ _).alloc (Nat.le_refl _) _) _⟩
end Go.Proofs.YtdmlcbbheabdpaaDoor
