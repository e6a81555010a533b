/- Package word: Field, Ones (the older stock over Base). -/
import Derived.Test.YtgfidbjhihignaaNil
import Derived.Deep.QuietTactic
import Derived.BigQuiet
import Derived.Lib.Hide
import Derived.Laws.BitsAllLaws
import Derived.WalkSmall
namespace Go.Proofs.Ytgfidbjhihignaa
set_option linter.unusedVariables false
set_option linter.unusedSimpArgs false
open Go.ChangeShapes Go.WideShapes Go.ChangeAt Go.RowKit

def insideB (a n : Int) : Bool := decide (0 ≤ a ∧ a < 64 ∧ 1 ≤ n ∧ n ≤ 64 - a)
theorem insideB_true {a n : Int} (h : insideB a n = true) : 0 ≤ a ∧ a < 64 ∧ 1 ≤ n ∧ n ≤ 64 - a := by
  unfold insideB at h; exact of_decide_eq_true h
theorem insideB_mk {a n : Int} (h : 0 ≤ a ∧ a < 64 ∧ 1 ≤ n ∧ n ≤ 64 - a) : insideB a n = true := by
  unfold insideB; exact decide_eq_true h
theorem insideB_no {a n : Int} (h : ¬ (0 ≤ a ∧ a < 64 ∧ 1 ≤ n ∧ n ≤ 64 - a)) : insideB a n = false := by
  unfold insideB; exact decide_eq_false h
theorem inside_any (a n : Int) (w : World) (ha : -9223372036854775808 ≤ a) (ha' : a ≤ 9223372036854775807) :
    Calls Try.prog 55 #[.int .i64 a, .int .i64 n] w fun e w' => e = .returned (.bool (insideB a n)) ∧ w = w' := by
  go_enter Try.func55, Try.ntmps55
  go_wp2
  all_goals go_ret
  all_goals refine ⟨ret_bool ?_, rfl⟩
  · by_cases h : n ≤ 64 - a
    · rw [insideB_mk ⟨‹_›, ‹_›, ‹_›, h⟩]; exact decide_eq_true h
    · rw [insideB_no (by omega)]; exact decide_eq_false h
  all_goals (symm; apply insideB_no; omega)
/-- ones n -/
def onesN (n : Int) : Int := if n ≤ 0 then 0 else if 64 ≤ n then 18446744073709551615 else 2 ^ n.toNat - 1
theorem wrap_pow (k : Nat) (h : k < 64) : IntKind.u64.wrap (IntKind.u64.wrap (2 ^ k) - 1) = 2 ^ k - 1 := by
  have h1 : (2 : Int) ^ k < 18446744073709551616 := by
    have : (2 : Nat) ^ k < 2 ^ 64 := Nat.pow_lt_pow_right (by omega) h
    have e : ((2 ^ k : Nat) : Int) = (2 : Int) ^ k := by simp
    omega
  have h2 : (1 : Int) ≤ 2 ^ k := by
    have : 1 ≤ (2 : Nat) ^ k := Nat.one_le_two_pow
    have e : ((2 ^ k : Nat) : Int) = (2 : Int) ^ k := by simp
    omega
  rw [IntWalk.u64_in (2 ^ k) (by omega), IntWalk.u64_in _ (by omega)]
theorem ones_any (n : Int) (w : World) :
    Calls Try.prog 48 #[.int .i64 n] w fun e w' => e = .returned (.int .u64 (onesN n)) ∧ w = w' := by
  go_enter Try.func48, Try.ntmps48
  go_wp2
  all_goals go_ret
  all_goals refine ⟨ret_int ?_, rfl⟩
  · unfold onesN; rw [if_pos ‹_›]
  · unfold onesN; rw [if_neg (by omega), if_pos ‹_›]
  · unfold onesN; rw [if_neg (by omega), if_neg (by omega)]; exact wrap_pow _ (by omega)
theorem field_no (v a n : Int) (w : World) (ha : -9223372036854775808 ≤ a) (ha' : a ≤ 9223372036854775807) (h : insideB a n = false) :
    Calls Try.prog 50 #[.int .u64 v, .int .i64 a, .int .i64 n] w fun e w' => e = .returned (.tuple #[.int .u64 0, .int .i64 2]) ∧ w = w' := by
  go_enter Try.func50, Try.ntmps50
  go_wp2_with (go_at_call 55; refine (inside_any _ _ _ ha ha').mono ?_; rintro e w' ⟨rfl, rfl⟩)
  go_ret2
  exact ⟨rfl, rfl⟩
/-- The n bits from a on. -/
def fieldN (v a n : Int) : Int := v / 2 ^ a.toNat % 2 ^ n.toNat
theorem ones_toNat (n : Int) (h1 : 1 ≤ n) (h2 : n ≤ 64) : onesN n = ((2 ^ n.toNat - 1 : Nat) : Int) := by
  have hp : 1 ≤ (2 : Nat) ^ n.toNat := Nat.one_le_two_pow
  have e : ((2 ^ n.toNat : Nat) : Int) = (2 : Int) ^ n.toNat := by simp
  unfold onesN
  rw [if_neg (by omega)]
  by_cases h : 64 ≤ n
  · obtain rfl : n = 64 := by omega
    simp
  · rw [if_neg h]; omega
theorem and_ones (x : Nat) (n : Int) (hx : x < 18446744073709551616) (h1 : 1 ≤ n) (h2 : n ≤ 64) : bits BinOp.and IntKind.u64 (x : Int) (onesN n) = ((x % 2 ^ n.toNat : Nat) : Int) := by
  have hlt : 2 ^ n.toNat - 1 < 18446744073709551616 := by
    have : (2 : Nat) ^ n.toNat ≤ 2 ^ 64 := Nat.pow_le_pow_right (by decide) (by omega)
    have e : (2 : Nat) ^ 64 = 18446744073709551616 := by decide
    have hp : 1 ≤ (2 : Nat) ^ n.toNat := Nat.one_le_two_pow
    omega
  rw [ones_toNat n h1 h2, u64_and_nat x _ hx hlt, Nat.and_two_pow_sub_one_eq_mod]
theorem field_bits (v a n : Int) (hv : 0 ≤ v) (hv' : v ≤ 18446744073709551615) (h1 : 1 ≤ n) (h2 : n ≤ 64) : bits BinOp.and IntKind.u64 (v / 2 ^ a.toNat) (onesN n) = fieldN v a n := by
  obtain ⟨x, rfl⟩ := Int.eq_ofNat_of_zero_le hv
  have e : (x : Int) / 2 ^ a.toNat = ((x / 2 ^ a.toNat : Nat) : Int) := by simp
  have hlt : x / 2 ^ a.toNat < 18446744073709551616 := Nat.lt_of_le_of_lt (Nat.div_le_self _ _) (by omega)
  unfold fieldN
  rw [e, and_ones _ _ hlt h1 h2]
  simp
theorem field_yes (v a n : Int) (w : World) (ha : -9223372036854775808 ≤ a) (ha' : a ≤ 9223372036854775807) (h : insideB a n = true) (hv : 0 ≤ v) (hv' : v ≤ 18446744073709551615) :
    Calls Try.prog 50 #[.int .u64 v, .int .i64 a, .int .i64 n] w fun e w' => e = .returned (.tuple #[.int .u64 (fieldN v a n), .int .i64 0]) ∧ ∃ k, w' = w.drewN k := by
  have hb := insideB_true h
  obtain ⟨h1, h2, h3, h4⟩ := hb
  have hf := Lib.hid (field_bits v a n hv hv' h3 (by omega))
  go_enter Try.func50, Try.ntmps50
  go_wp2_with (go_at_call 55; refine (inside_any _ _ _ ha ha').mono ?_; rintro e w' ⟨rfl, rfl⟩)
  go_quiet ((go_at_call 48; exact Calls.quiet_of_same (same_q (ones_any _ _))))
  go_wp2
  go_ret2
  exact ⟨by rw [hf.out]; rfl, _, rfl⟩
theorem setCell_drewN (w : World) (k : Nat) (a : Addr) (v : Value) : (w.drewN k).setCell a v = (w.setCell a v).drewN k := rfl
theorem alloc_drewN (w : World) (k : Nat) (o : Obj) : (w.drewN k).alloc o = (w.alloc o).drewN k := rfl
theorem below_n (w : World) (k : Nat) : Below w.heap.size w (w.drewN k) := below_drewN (Below.refl _ _) _
end Go.Proofs.Ytgfidbjhihignaa
