/- Plain facts on the bits of a number. -/
import Derived.Lib.TrailingZeros
import Derived.Laws.BitsAllLaws
import Derived.WalkKit
namespace Go.Proofs.YtplanbihejodoaaDoor
set_option linter.unusedVariables false

theorem low_facts (x : Nat) (h0 : x ≠ 0) (h : x < 2 ^ 64) : Lib.ctz 64 x < 64 ∧ x.testBit (Lib.ctz 64 x) = true ∧ (∀ i, i < Lib.ctz 64 x → x.testBit i = false) ∧
    (∀ i, (x &&& (x - 1)).testBit i = (x.testBit i && decide (i ≠ Lib.ctz 64 x))) := by
  have e : Lib.ctz 64 x = Lib.ctzFrom 64 x := by simp [Lib.ctz, h0]
  obtain ⟨m, hm, hk⟩ := Lib.ctzFrom_spec 64 x (by omega) h
  rw [e]
  generalize Lib.ctzFrom 64 x = k at *
  have hp : 0 < 2 ^ k := Nat.two_pow_pos k
  have e1 : x = 2 ^ k * (2 * m + 1) + 0 := by omega
  have e2 : x - 1 = 2 ^ k * (2 * m) + (2 ^ k - 1) := by rw [hm, Nat.mul_add]; omega
  have b1 : ∀ i, x.testBit i = if i < k then false else (2 * m + 1).testBit (i - k) := fun i => by
    rw [e1, Nat.testBit_two_pow_mul_add _ hp]; simp
  have b2 : ∀ i, (x - 1).testBit i = if i < k then true else (2 * m).testBit (i - k) := fun i => by
    rw [e2, Nat.testBit_two_pow_mul_add _ (by omega)]
    by_cases hi : i < k
    · simp [hi, Nat.testBit_two_pow_sub_one]
    · simp [hi]
  refine ⟨hk, ?_, fun i hi => ?_, fun i => ?_⟩
  · rw [b1]; simp [Nat.testBit_zero]
  · rw [b1]; simp [hi]
  · rw [Nat.testBit_and, b1, b2]
    by_cases hi : i < k
    · simp [hi]
    · by_cases hik : i = k
      · subst hik; simp [Nat.testBit_zero]
      · obtain ⟨j, rfl⟩ : ∃ j, i = k + (j + 1) := ⟨i - k - 1, by omega⟩
        have e3 : k + (j + 1) - k = j + 1 := by omega
        have d1 : (2 * m + 1) / 2 = m := by omega
        have d2 : 2 * m / 2 = m := by omega
        simp only [hi, if_false, e3, Nat.testBit_succ, d1, d2]
        simp

theorem lt_pow_of_bits {v n : Nat} (h : ∀ i, v.testBit i = true → i < n) : v < 2 ^ n :=
  Nat.lt_pow_two_of_testBit v fun i hi => by
    cases hb : v.testBit i with
    | false => rfl
    | true => have := h i hb; omega
theorem bits_of_lt_pow {v n i : Nat} (h : v < 2 ^ n) (hb : v.testBit i = true) : i < n := by
  apply Nat.lt_of_not_le
  intro hle
  rw [Nat.testBit_lt_two_pow (Nat.lt_of_lt_of_le h (Nat.pow_le_pow_right (by decide) hle))] at hb
  cases hb

/-- What the iterator over the places of v's ones has told (pre) and has left (rest). -/
def SetInv (v : Nat) (pre : List Nat) (rest : Nat) : Prop :=
  (∀ k ∈ pre, v.testBit k = true) ∧ (∀ k, v.testBit k = true → k ∈ pre ∨ rest.testBit k = true) ∧ (∀ k, rest.testBit k = true → v.testBit k = true) ∧ (∀ k, k < pre.length → rest.testBit k = false)
def SetAll (v : Nat) (ys : List Nat) : Prop := (∀ k ∈ ys, v.testBit k = true) ∧ (∀ k, v.testBit k = true → k ∈ ys)
def SetPart (v : Nat) (ys : List Nat) : Prop := ∀ k ∈ ys, v.testBit k = true

theorem SetInv.start (v : Nat) : SetInv v [] v := ⟨by simp, fun k h => .inr h, fun k h => h, by simp⟩
theorem SetInv.done {v : Nat} {pre : List Nat} (h : SetInv v pre 0) : SetAll v pre :=
  ⟨h.1, fun k hk => (h.2.1 k hk).elim id (fun e => by simp at e)⟩
theorem SetInv.len {v rest : Nat} {pre : List Nat} (h : SetInv v pre rest) (h0 : rest ≠ 0) (hr : rest < 2 ^ 64) : pre.length < 64 := by
  obtain ⟨hk, hb, _, _⟩ := low_facts rest h0 hr
  apply Nat.lt_of_not_le
  intro hle
  rw [h.2.2.2 _ (Nat.lt_of_lt_of_le hk hle)] at hb
  cases hb
theorem SetInv.part {v rest : Nat} {pre : List Nat} (h : SetInv v pre rest) (h0 : rest ≠ 0) (hr : rest < 2 ^ 64) : SetPart v (pre ++ [Lib.ctz 64 rest]) := by
  obtain ⟨_, hb, _, _⟩ := low_facts rest h0 hr
  intro k hk
  rcases List.mem_append.1 hk with h' | h'
  · exact h.1 k h'
  · simp at h'; subst h'; exact h.2.2.1 _ hb
theorem SetInv.step {v rest : Nat} {pre : List Nat} (h : SetInv v pre rest) (h0 : rest ≠ 0) (hr : rest < 2 ^ 64) : SetInv v (pre ++ [Lib.ctz 64 rest]) (rest &&& (rest - 1)) := by
  have hp := h.part h0 hr
  obtain ⟨hk, hb, hlow, hstep⟩ := low_facts rest h0 hr
  refine ⟨hp, fun k hv => ?_, fun k hv => ?_, fun k hkl => ?_⟩
  · by_cases e : k = Lib.ctz 64 rest
    · left; simp [e]
    · rcases h.2.1 k hv with h' | h'
      · left; simp [h']
      · right; rw [hstep, h']; simp [e]
  · rw [hstep, Bool.and_eq_true] at hv
    exact h.2.2.1 k hv.1
  · rw [hstep]
    by_cases e : k = Lib.ctz 64 rest
    · simp [e]
    · simp only [List.length_append, List.length_cons, List.length_nil] at hkl
      by_cases hl : k < pre.length
      · rw [h.2.2.2 k hl]; rfl
      · have hpl : ¬ Lib.ctz 64 rest < pre.length := fun hlt => by rw [h.2.2.2 _ hlt] at hb; cases hb
        rw [hlow k (by omega)]; rfl
theorem step_lt {rest : Nat} (h0 : rest ≠ 0) : rest &&& (rest - 1) < rest := by
  have := Nat.and_le_right (n := rest) (m := rest - 1); omega
end Go.Proofs.YtplanbihejodoaaDoor
