/- word.With, for every input. -/
import Derived.Test.YtbhaagofckgbhaaDoorWord
import Derived.Test.YtbhaagofckgbhaaDoorFits
import Derived.WalkSmall
namespace Go.Proofs.YtbhaagofckgbhaaDoor
set_option linter.unusedVariables false
open Go.ChangeShapes Go.WideShapes Go.ChangeAt Go.RowKit

/-- w with its n bits from a on in the place of which v's stand. -/
def withN (w a n v : Nat) : Nat := (w &&& (18446744073709551615 - (2 ^ n - 1) * 2 ^ a % 18446744073709551616)) ||| (v * 2 ^ a % 18446744073709551616)

theorem test_shl (v a i : Nat) : (v * 2 ^ a % 18446744073709551616).testBit i = (decide (i < 64) && (decide (a ≤ i) && v.testBit (i - a))) := by
  rw [show (18446744073709551616 : Nat) = 2 ^ 64 by decide, Nat.testBit_mod_two_pow, Nat.mul_comm, Nat.testBit_two_pow_mul]
theorem test_compl (x i : Nat) (hx : x < 18446744073709551616) : (18446744073709551615 - x).testBit i = (decide (i < 64) && !x.testBit i) := by
  have e : 18446744073709551615 - x = 2 ^ 64 - (x + 1) := by omega
  rw [e, Nat.testBit_two_pow_sub_succ (by omega)]
theorem test_withN (w a n v i : Nat) (hw : w < 18446744073709551616) (h : a + n ≤ 64) (hv : v < 2 ^ n) :
    (withN w a n v).testBit i = if a ≤ i ∧ i < a + n then v.testBit (i - a) else w.testBit i := by
  unfold withN
  rw [Nat.testBit_or, Nat.testBit_and, test_compl _ _ (Nat.mod_lt _ (by decide)), test_shl, test_shl, Nat.testBit_two_pow_sub_one]
  by_cases hi : i < 64
  · by_cases h1 : a ≤ i
    · by_cases h2 : i < a + n
      · have e1 : i - a < n := by omega
        simp [hi, h1, h2, e1]
      · have e1 : ¬ i - a < n := by omega
        have e2 : v.testBit (i - a) = false := by
          cases hb : v.testBit (i - a) with
          | false => rfl
          | true => exact absurd (bits_of_lt_pow hv hb) e1
        simp [hi, h1, h2, e1, e2]
    · simp [hi, h1]
  · have e1 : w.testBit i = false := Nat.testBit_lt_two_pow (Nat.lt_of_lt_of_le hw (by rw [show (18446744073709551616 : Nat) = 2 ^ 64 by decide]; exact Nat.pow_le_pow_right (by decide) (by omega)))
    have e2 : ¬ i < a + n := by omega
    simp [hi, e1, e2]
theorem withN_lt (w a n v : Nat) (hw : w < 18446744073709551616) : withN w a n v < 18446744073709551616 := by
  unfold withN
  rw [show (18446744073709551616 : Nat) = 2 ^ 64 by decide]
  exact Nat.or_lt_two_pow (Nat.lt_of_le_of_lt Nat.and_le_left (by simpa using hw)) (Nat.mod_lt _ (by decide))

theorem with_bits (w v : Nat) (a n : Int) (hw : w < 18446744073709551616) (hv : v < 18446744073709551616) (h0 : 0 ≤ a) (ha : a < 64) (h1 : 1 ≤ n) (h2 : n ≤ 64) :
    bits BinOp.or IntKind.u64 (bits BinOp.andNot IntKind.u64 (w : Int) (IntKind.u64.wrap (onesN n * 2 ^ a.toNat))) (IntKind.u64.wrap ((v : Int) * 2 ^ a.toNat)) = (withN w a.toNat n.toNat v : Int) := by
  have e1 : IntKind.u64.wrap (onesN n * 2 ^ a.toNat) = (((2 ^ n.toNat - 1) * 2 ^ a.toNat % 18446744073709551616 : Nat) : Int) := by
    rw [ones_toNat n h1 h2, IntKind.wrap_u64]; simp
  have e2 : IntKind.u64.wrap ((v : Int) * 2 ^ a.toNat) = ((v * 2 ^ a.toNat % 18446744073709551616 : Nat) : Int) := by
    rw [IntKind.wrap_u64]; simp
  rw [e1, e2, u64_andNot_nat w _ hw (Nat.mod_lt _ (by decide)), u64_or_nat _ _ (Nat.lt_of_le_of_lt Nat.and_le_left hw) (Nat.mod_lt _ (by decide))]
  rfl

theorem with_no (w a n v : Int) (W : World) (ha : -9223372036854775808 ≤ a) (ha' : a ≤ 9223372036854775807) (h : insideB a n = false) :
    Calls Tryd.prog 12 #[.int .u64 w, .int .i64 a, .int .i64 n, .int .u64 v] W fun e W' => e = .returned (.tuple #[.int .u64 0, .int .i64 2]) ∧ W = W' := by
  go_enter Tryd.func12, Tryd.ntmps12
  go_wp2_with (go_at_call 19; refine (inside_any _ _ _ ha ha').mono ?_; rintro e w' ⟨rfl, rfl⟩)
  go_ret2
  exact ⟨rfl, rfl⟩

theorem with_nofit (w a n : Int) (v : Nat) (W : World) (ha : -9223372036854775808 ≤ a) (ha' : a ≤ 9223372036854775807) (h : insideB a n = true) (hf : fitsB v n = false) (hv : v < 2 ^ 64) (hT : TabAt W) (hg : 0 < W.heap.size) :
    Calls Tryd.prog 12 #[.int .u64 w, .int .i64 a, .int .i64 n, .int .u64 v] W fun e W' => e = .returned (.tuple #[.int .u64 0, .int .i64 3]) ∧ Below W.heap.size W W' := by
  go_enter Tryd.func12, Tryd.ntmps12
  go_wp2_with (first | (go_at_call 19; refine (inside_any _ _ _ ha ha').mono ?_; rintro e w' ⟨rfl, rfl⟩) | (go_at_call 16; refine (fits_any v n _ hv hT hg).mono ?_; rintro e w' ⟨rfl, hb⟩))
  go_ret2
  exact ⟨rfl, hb⟩

theorem with_yes (w : Nat) (a n : Int) (v : Nat) (W : World) (h : insideB a n = true) (hf : fitsB v n = true) (hw : w < 18446744073709551616) (hv : v < 2 ^ 64) (hT : TabAt W) (hg : 0 < W.heap.size) :
    Calls Tryd.prog 12 #[.int .u64 w, .int .i64 a, .int .i64 n, .int .u64 v] W fun e W' => e = .returned (.tuple #[.int .u64 (withN w a.toNat n.toNat v : Nat), .int .i64 0]) ∧ Below W.heap.size W W' := by
  obtain ⟨h1, h2, h3, h4⟩ := insideB_true h
  have hwb := Lib.hid (with_bits w v a n hw (by simpa using hv) h1 h2 h3 (by omega))
  go_enter Tryd.func12, Tryd.ntmps12
  go_wp2_with (first | (go_at_call 19; refine (inside_any _ _ _ (by omega) (by omega)).mono ?_; rintro e w' ⟨rfl, rfl⟩) | (go_at_call 16; refine (fits_any v n _ hv hT hg).mono ?_; rintro e w' ⟨rfl, hb⟩))
  go_quiet ((go_at_call 14; exact Calls.quiet_of_same (same_q (ones_any _ _))))
  go_wp2
  go_ret2
  refine ⟨?_, below_drewN hb _⟩
  rw [← hwb.out]; rfl
end Go.Proofs.YtbhaagofckgbhaaDoor
