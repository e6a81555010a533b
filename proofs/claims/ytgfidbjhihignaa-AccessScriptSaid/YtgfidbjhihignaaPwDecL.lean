/- Numbers for pte.Decode. -/
import Derived.Test.YtgfidbjhihignaaPwMay
import Derived.Deep.QuietTactic
import Derived.BigQuiet
import Derived.Lib.Hide
import Derived.Laws.BitsAllLaws
import Derived.WalkSmall
namespace Go.Proofs.Ytgfidbjhihignaa
set_option linter.unusedVariables false
set_option linter.unusedSimpArgs false
open Go.ChangeShapes Go.WideShapes Go.ChangeAt Go.RowKit
attribute [local go_sem] setCell_drewN alloc_drewN
/-- The frame's number out of the bits below k. -/
def frameAt (w k : Nat) : Nat := if k ≤ 8 then 0 else if k ≤ 14 then w / 256 % 2 ^ (k - 8) else w / 256 % 64
def flagAt (w k j : Nat) : Bool := decide (j < k) && w.testBit j
/-- The entry's cells when the bits below k have been read. -/
def cellsAt (w k : Nat) : Array Value := #[.bool (flagAt w k 0), .bool (flagAt w k 1), .bool (flagAt w k 2), .bool (flagAt w k 3), .int .i64 (frameAt w k)]
def Allowed (w k : Nat) : Prop := ∀ i, i < k → w.testBit i = true → i < 4 ∨ (8 ≤ i ∧ i < 14)
theorem cell_blk {W : World} {b : Nat} {cs : Array Value} {t : TypeId} (h : W.heap[b]? = some (.cells cs t (0, 0))) (j : Nat) : W.cell? ⟨b, j, none⟩ = cs[j]? ∧ W.frozen? ⟨b, j, none⟩ = false := by
  constructor <;> simp [World.cell?, World.frozen?, h]
theorem allowed_step {w k : Nat} (h : Allowed w k) (hb : w.testBit k = true → k < 4 ∨ (8 ≤ k ∧ k < 14)) : Allowed w (k + 1) := fun i hi ht => by
  by_cases e : i = k
  · subst e; exact hb ht
  · exact h i (by omega) ht
theorem flag_same {w k : Nat} (j : Nat) (h : j ≠ k ∨ w.testBit k = false) : flagAt w (k + 1) j = flagAt w k j := by
  unfold flagAt
  by_cases e : j = k
  · subst e
    rcases h with h | h
    · exact absurd rfl h
    · simp [h]
  · have : (decide (j < k + 1)) = decide (j < k) := by rw [Bool.eq_iff_iff]; simp; omega
    rw [this]
theorem flag_new {w k : Nat} (h : w.testBit k = true) : flagAt w (k + 1) k = true := by simp [flagAt, h]
theorem frame_same {w k : Nat} (h : k < 8 ∨ 14 ≤ k ∨ w.testBit k = false) : frameAt w (k + 1) = frameAt w k := by
  unfold frameAt
  by_cases h8 : k < 8
  · rw [if_pos (by omega), if_pos (by omega)]
  · by_cases h14 : 14 ≤ k
    · rw [if_neg (by omega), if_neg (by omega), if_neg (by omega)]
      by_cases e : k = 14
      · subst e; rw [if_pos (by omega)]
      · rw [if_neg (by omega)]
    · have hb : w.testBit k = false := h.elim (fun e => absurd e h8) (fun e => e.elim (fun e => absurd e h14) id)
      rw [if_neg (by omega), if_pos (by omega)]
      have e1 : k + 1 - 8 = (k - 8) + 1 := by omega
      have hz : w / 256 / 2 ^ (k - 8) % 2 = 0 := by
        have : w / 256 / 2 ^ (k - 8) = w / 2 ^ k := by rw [Nat.div_div_eq_div_mul, show (256 : Nat) = 2 ^ 8 by decide, ← Nat.pow_add]; congr 2; omega
        rw [this]
        rw [Nat.testBit_eq_decide_div_mod_eq] at hb
        have := of_decide_eq_false hb
        omega
      rw [e1, Nat.mod_pow_succ, hz]
      by_cases e : k = 8
      · subst e; simp; omega
      · rw [if_neg (by omega), if_pos (by omega)]; simp
theorem frame_new {w k : Nat} (h8 : 8 ≤ k) (h14 : k < 14) (hb : w.testBit k = true) : frameAt w (k + 1) = frameAt w k ||| 2 ^ (k - 8) := by
  have h0 : frameAt w k = w / 256 % 2 ^ (k - 8) := by
    unfold frameAt
    by_cases e : k = 8
    · subst e; simp; omega
    · rw [if_neg (by omega), if_pos (by omega)]
  have h1 : frameAt w (k + 1) = w / 256 % 2 ^ (k - 8 + 1) := by
    unfold frameAt
    rw [if_neg (by omega), if_pos (by omega)]; congr 2; omega
  have hz : w / 256 / 2 ^ (k - 8) % 2 = 1 := by
    have : w / 256 / 2 ^ (k - 8) = w / 2 ^ k := by rw [Nat.div_div_eq_div_mul, show (256 : Nat) = 2 ^ 8 by decide, ← Nat.pow_add]; congr 2; omega
    rw [this]
    rw [Nat.testBit_eq_decide_div_mod_eq] at hb
    exact of_decide_eq_true hb
  have hlt : w / 256 % 2 ^ (k - 8) < 2 ^ (k - 8) := Nat.mod_lt _ (Nat.two_pow_pos _)
  rw [h0, h1, Nat.mod_pow_succ, hz, Nat.or_comm, nat_join (k - 8) _ _ (by simp) hlt]
  omega
theorem frame_lt (w k : Nat) : frameAt w k < 64 := by
  unfold frameAt
  split
  · omega
  · split
    · have : w / 256 % 2 ^ (k - 8) < 2 ^ (k - 8) := Nat.mod_lt _ (Nat.two_pow_pos _)
      have h2 : (2 : Nat) ^ (k - 8) ≤ 2 ^ 6 := Nat.pow_le_pow_right (by decide) (by omega)
      have : (2 : Nat) ^ 6 = 64 := by decide
      omega
    · omega
theorem cells_0 {w : Nat} (ht : w.testBit 0 = true) : (cellsAt w 0).setIfInBounds 0 (.bool true) = cellsAt w 1 := by
  unfold cellsAt
  rw [flag_new (k := 0) ht, flag_same (k := 0) 1 (.inl (by decide)), flag_same (k := 0) 2 (.inl (by decide)), flag_same (k := 0) 3 (.inl (by decide)), frame_same (k := 0) (.inl (by decide))]
  rfl
theorem cells_1 {w : Nat} (ht : w.testBit 1 = true) : (cellsAt w 1).setIfInBounds 1 (.bool true) = cellsAt w 2 := by
  unfold cellsAt
  rw [flag_new (k := 1) ht, flag_same (k := 1) 0 (.inl (by decide)), flag_same (k := 1) 2 (.inl (by decide)), flag_same (k := 1) 3 (.inl (by decide)), frame_same (k := 1) (.inl (by decide))]
  rfl
theorem cells_2 {w : Nat} (ht : w.testBit 2 = true) : (cellsAt w 2).setIfInBounds 2 (.bool true) = cellsAt w 3 := by
  unfold cellsAt
  rw [flag_new (k := 2) ht, flag_same (k := 2) 0 (.inl (by decide)), flag_same (k := 2) 1 (.inl (by decide)), flag_same (k := 2) 3 (.inl (by decide)), frame_same (k := 2) (.inl (by decide))]
  rfl
theorem cells_3 {w : Nat} (ht : w.testBit 3 = true) : (cellsAt w 3).setIfInBounds 3 (.bool true) = cellsAt w 4 := by
  unfold cellsAt
  rw [flag_new (k := 3) ht, flag_same (k := 3) 0 (.inl (by decide)), flag_same (k := 3) 1 (.inl (by decide)), flag_same (k := 3) 2 (.inl (by decide)), frame_same (k := 3) (.inl (by decide))]
  rfl
theorem cells_f {w k : Nat} (h8 : 8 ≤ k) (h14 : k < 14) : (cellsAt w k).setIfInBounds 4 (.int .i64 (frameAt w (k + 1))) = cellsAt w (k + 1) := by
  unfold cellsAt
  rw [flag_same (k := k) 0 (.inl (by omega)), flag_same (k := k) 1 (.inl (by omega)), flag_same (k := k) 2 (.inl (by omega)), flag_same (k := k) 3 (.inl (by omega))]
  rfl
theorem or_key : ∀ f : Nat, f < 64 → ∀ j : Nat, j < 6 → bits BinOp.or IntKind.i64 (f : Int) (wrap64 (2 ^ j)) = ((f ||| 2 ^ j : Nat) : Int) := by decide +kernel
theorem frame_or {w k : Nat} (h8 : 8 ≤ k) (h14 : k < 14) (hb : w.testBit k = true) : bits BinOp.or IntKind.i64 (frameAt w k : Int) (wrap64 (2 ^ (k - 8))) = ((frameAt w (k + 1) : Nat) : Int) := by
  rw [frame_new h8 h14 hb, or_key _ (frame_lt w k) _ (by omega)]
theorem bit_test (w k : Nat) (hw : w < 2 ^ 64) : (bits BinOp.and IntKind.u64 ((w : Int) / 2 ^ k) 1 == 0) = !w.testBit k := by
  have e : (w : Int) / 2 ^ k = ((w / 2 ^ k : Nat) : Int) := by simp
  have h1 : bits BinOp.and IntKind.u64 ((w / 2 ^ k : Nat) : Int) ((1 : Nat) : Int) = ((w / 2 ^ k &&& 1 : Nat) : Int) := u64_and_nat _ _ (Nat.lt_of_le_of_lt (Nat.div_le_self _ _) (by omega)) (by decide)
  rw [e]
  show (bits BinOp.and IntKind.u64 ((w / 2 ^ k : Nat) : Int) ((1 : Nat) : Int) == 0) = _
  rw [h1, nat_mask1, Nat.testBit_eq_decide_div_mod_eq]
  rcases Nat.mod_two_eq_zero_or_one (w / 2 ^ k) with h | h <;> rw [h] <;> rfl
theorem flag_end (w j : Nat) (h : j < 64) : flagAt w 64 j = w.testBit j := by
  unfold flagAt; rw [decide_eq_true h, Bool.true_and]
theorem frame_end (w : Nat) : frameAt w 64 = w / 256 % 64 := by
  unfold frameAt; rw [if_neg (by decide), if_neg (by decide)]
end Go.Proofs.Ytgfidbjhihignaa
