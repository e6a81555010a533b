/- Which words are entries. -/
import Derived.Test.YtgfidbjhihignaaPwRef
import Derived.Test.YtgfidbjhihignaaPwDec
import Derived.Deep.QuietTactic
import Derived.BigQuiet
import Derived.Lib.Hide
import Derived.Laws.BitsAllLaws
import Derived.WalkSmall
namespace Go.Proofs.Ytgfidbjhihignaa
set_option linter.unusedVariables false
set_option linter.unusedSimpArgs false
open Go.ChangeShapes Go.WideShapes Go.ChangeAt Go.RowKit
attribute [local go_sem] setCell_drewN alloc_drewN
/-- A word is an entry's. -/
def OkW (w : Nat) : Prop := Allowed w 64 ∧ mayE (w.testBit 0) (w.testBit 1) (w.testBit 2) (w.testBit 3) ((w / 256 % 64 : Nat) : Int) = true
def wordN (v l r x : Bool) (f : Nat) : Nat := (if v then 1 + 256 * f else 0) + (if l then 2 else 0) + (if r then 4 else 0) + (if x then 8 else 0)
theorem wordE_nat (v l r x : Bool) (f : Nat) : wordE v l r x f = (wordN v l r x f : Int) := by
  unfold wordE wordN
  cases v <;> cases l <;> cases r <;> cases x <;> simp <;> omega
def allB (w : Nat) : Bool := (List.range 64).all fun i => !w.testBit i || (decide (i < 4) || (decide (8 ≤ i) && decide (i < 14)))
theorem allB_iff {w : Nat} (h : allB w = true) : Allowed w 64 := fun i hi ht => by
  have := List.all_eq_true.1 h i (List.mem_range.2 hi)
  rw [ht] at this
  simp at this
  omega
theorem word_key : ∀ f : Nat, f < 64 → ∀ l r x : Bool, allB (wordN true l r x f) = true ∧ (wordN true l r x f).testBit 0 = true ∧ (wordN true l r x f).testBit 1 = l ∧ (wordN true l r x f).testBit 2 = r ∧
    (wordN true l r x f).testBit 3 = x ∧ wordN true l r x f / 256 % 64 = f := by decide +kernel
theorem okW_zero : OkW 0 := ⟨fun i hi h => by simp at h, by decide⟩
/-- The word of an entry is an entry's, and gives its fields. -/
theorem okW_word {v l r x : Bool} {f : Nat} (h : mayE v l r x f = true) : OkW (wordN v l r x f) ∧ (wordN v l r x f).testBit 0 = v ∧ (wordN v l r x f).testBit 1 = l ∧ (wordN v l r x f).testBit 2 = r ∧
    (wordN v l r x f).testBit 3 = x ∧ wordN v l r x f / 256 % 64 = f := by
  have hf := mayE_f h
  cases v with
  | true =>
    obtain ⟨k0, k1, k2, k3, k4, k5⟩ := word_key f (by omega) l r x
    exact ⟨⟨allB_iff k0, by rw [k1, k2, k3, k4, k5]; exact h⟩, k1, k2, k3, k4, k5⟩
  | false =>
    simp [mayE] at h
    obtain ⟨⟨⟨rfl, rfl⟩, rfl⟩, h4⟩ := h
    obtain rfl : f = 0 := by omega
    exact ⟨okW_zero, by decide⟩
theorem wordN_lt {v l r x : Bool} {f : Nat} (hf : f < 64) : wordN v l r x f < 2 ^ 64 := by
  unfold wordN
  cases v <;> cases l <;> cases r <;> cases x <;> simp <;> omega
theorem bit_mod (w i : Nat) : (if w.testBit i then 1 else 0) = w / 2 ^ i % 2 := by
  rw [Nat.testBit_eq_decide_div_mod_eq]
  rcases Nat.mod_two_eq_zero_or_one (w / 2 ^ i) with h | h <;> rw [h] <;> rfl
/-- A word that is an entry's is its entry's word. -/
theorem okW_back {w : Nat} (hw : w < 2 ^ 64) (h : OkW w) : wordN (w.testBit 0) (w.testBit 1) (w.testBit 2) (w.testBit 3) (w / 256 % 64) = w := by
  obtain ⟨hA, hm⟩ := h
  have hlt : w < 2 ^ 14 := Nat.lt_pow_two_of_testBit w fun i hi => by
    by_cases h64 : i < 64
    · cases ht : w.testBit i
      · rfl
      · have := hA i h64 ht; omega
    · exact Nat.testBit_lt_two_pow (Nat.lt_of_lt_of_le hw (Nat.pow_le_pow_right (by decide) (by omega)))
  have hmid : w / 16 % 16 = 0 := by
    have b : ∀ j, j < 4 → w / 2 ^ (4 + j) % 2 = 0 := fun j hj => by
      have e := bit_mod w (4 + j)
      cases ht : w.testBit (4 + j)
      · rw [ht] at e; simpa using e.symm
      · have := hA (4 + j) (by omega) ht; omega
    have b0 := b 0 (by decide); have b1 := b 1 (by decide); have b2 := b 2 (by decide); have b3 := b 3 (by decide)
    simp at b0 b1 b2 b3
    omega
  have e0 := bit_mod w 0; have e1 := bit_mod w 1; have e2 := bit_mod w 2; have e3 := bit_mod w 3
  simp only [Nat.reducePow, Nat.div_one] at e0 e1 e2 e3
  have hlt' : w < 16384 := hlt
  have hf : w / 256 % 64 = w / 256 := by omega
  revert hm e0 e1 e2 e3
  rw [hf]
  generalize w.testBit 0 = t0; generalize w.testBit 1 = t1; generalize w.testBit 2 = t2; generalize w.testBit 3 = t3
  intro hm e0 e1 e2 e3
  unfold wordN
  cases t0
  · simp [mayE] at hm
    obtain ⟨⟨⟨rfl, rfl⟩, rfl⟩, h4⟩ := hm
    simp at e0 e1 e2 e3 ⊢
    omega
  · cases t1 <;> cases t2 <;> cases t3 <;> simp at e0 e1 e2 e3 ⊢ <;> omega
theorem bitB_test (w i : Nat) (k : Int) (hk : k = ((2 ^ i : Nat) : Int)) : bitB w k = w.testBit i := by
  unfold bitB
  subst hk
  have e := bit_mod w i
  rw [show ((w : Int) / ((2 ^ i : Nat) : Int) % 2) = ((w / 2 ^ i % 2 : Nat) : Int) by simp]
  rw [← e]
  cases w.testBit i <;> rfl
theorem okD_eq {w : Nat} : okD w = (mayE true (w.testBit 1) (w.testBit 2) (w.testBit 3) ((w / 256 % 64 : Nat) : Int) && decide (wordN true (w.testBit 1) (w.testBit 2) (w.testBit 3) (w / 256 % 64) = w)) := by
  unfold okD
  rw [bitB_test w 1 2 rfl, bitB_test w 2 4 rfl, bitB_test w 3 8 rfl, show ((w : Int) / 256 % 64) = ((w / 256 % 64 : Nat) : Int) by omega, wordE_nat]
  congr 1
  rw [Bool.eq_iff_iff, beq_iff_eq, decide_eq_true_iff]
  omega
theorem okW_bit0 {w : Nat} (hw : w < 2 ^ 64) (hz : w ≠ 0) (h : OkW w) : w.testBit 0 = true := by
  have hb := okW_back hw h
  obtain ⟨-, hm⟩ := h
  cases ht : w.testBit 0
  · rw [ht] at hm hb
    simp [mayE] at hm
    obtain ⟨⟨⟨h1, h2⟩, h3⟩, -⟩ := hm
    rw [h1, h2, h3] at hb
    simp [wordN] at hb
    omega
  · rfl
theorem okD_ok {w : Nat} (hw : w < 2 ^ 64) (hz : w ≠ 0) (h : OkW w) : okD w = true := by
  have h0 := okW_bit0 hw hz h
  have hb := okW_back hw h
  obtain ⟨-, hm⟩ := h
  rw [h0] at hm hb
  rw [okD_eq, hm, hb]
  simp
theorem ok_okD {w : Nat} (h : okD w = true) : OkW w := by
  rw [okD_eq, Bool.and_eq_true, decide_eq_true_iff] at h
  have := (okW_word h.1).1
  rw [h.2] at this
  exact this
theorem decR_both_yes (w : Nat) (W : World) (hw : w < 2 ^ 64) (h : OkW w) : Calls Try.prog 60 #[.int .u64 w] W fun e W' =>
    e = .returned (.tuple #[entV (w.testBit 0) (w.testBit 1) (w.testBit 2) (w.testBit 3) ((w / 256 % 64 : Nat) : Int), .int .i64 0]) ∧ Below W.heap.size W W' := by
  by_cases hz : w = 0
  · subst hz
    exact decR_zero W
  · have := decR_yes w W (by omega) (by omega) (by omega) (okD_ok hw hz h)
    rw [bitB_test w 1 2 rfl, bitB_test w 2 4 rfl, bitB_test w 3 8 rfl, show ((w : Int) / 256 % 64) = ((w / 256 % 64 : Nat) : Int) by omega, ← okW_bit0 hw hz h] at this
    exact this
theorem decR_both_no (w : Nat) (W : World) (hw : w < 2 ^ 64) (h : ¬ OkW w) : Calls Try.prog 60 #[.int .u64 w] W fun e W' =>
    e = .returned (.tuple #[entV false false false false 0, .int .i64 5]) ∧ Below W.heap.size W W' := by
  have hz : w ≠ 0 := fun e => h (e ▸ okW_zero)
  refine decR_no w W (by omega) (by omega) (by omega) ?_
  cases ho : okD w
  · rfl
  · exact absurd (ok_okD ho) h
end Go.Proofs.Ytgfidbjhihignaa
