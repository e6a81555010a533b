/- chapter 35: names of kinds; a word's decimal digits, by the own answer. -/
import Derived.Test.YthgmanncmekeeaaDoorBase
import Derived.Test.YthgmanncmekeeaaDoorSc0
namespace Go.Proofs.YthgmanncmekeeaaDoor
set_option linter.unusedVariables false
set_option linter.unusedSimpArgs false
open Go.ChangeShapes Go.WideShapes Go.ChangeAt Go.RowKit

namespace Sc
/-- Bytes as a string. -/
def bs (l : Bs) : ByteArray := ⟨l.toArray⟩
theorem bs_append (a b : Bs) : bs a ++ bs b = bs (a ++ b) := by
  apply ByteArray.ext
  simp [bs, ByteArray.data_append]
theorem bs_inj {a b : Bs} (h : bs a = bs b) : a = b := by
  unfold bs at h
  injection h with h
  simpa using h
theorem bs_size (a : Bs) : (bs a).size = a.length := by simp [bs, ByteArray.size]
theorem bs_data (s : ByteArray) : bs s.data.toList = s := by
  apply ByteArray.ext
  simp [bs]
/-- Two strings put together. -/
theorem add_bs (a b : Bs) (h : a.length + b.length ≤ 9223372036854775807) (w : World) : (binOp .add 9 (.string (bs a)) (.string (bs b))).run Tryd.prog w = .ok (.string (bs (a ++ b))) w := by
  have e : ¬ (((bs a).size + (bs b).size : Nat) : Int) > IntKind.i64.max := by rw [bs_size, bs_size]; show ¬ ((a.length + b.length : Nat) : Int) > 9223372036854775807; omega
  rw [binOp_string_add]
  simp only [Op.stringOp, if_neg e]
  rw [bs_append]
  rfl
theorem bs_toList (a : Bs) : (bs a).toList = a := ByteArray.toList_mk a
theorem beq_dec (a b : Bs) : (a == b) = decide (a = b) := by
  by_cases h : a = b
  · subst h; simp
  · simp [h]
theorem eql_bs (a b : Bs) (w : World) : (binOp .eql 9 (.string (bs a)) (.string (bs b))).run Tryd.prog w = .ok (.bool (decide (a = b))) w := by
  rw [binOp_string_eql, bs_toList, bs_toList, beq_dec]; rfl
theorem neq_bs (a b : Bs) (w : World) : (binOp .neq 9 (.string (bs a)) (.string (bs b))).run Tryd.prog w = .ok (.bool (!decide (a = b))) w := by
  rw [binOp_string_neq, bs_toList, bs_toList, beq_dec]; rfl
theorem idx_bs (l : Bs) (k : Nat) (h : k < l.length) (w : World) : (Instr.index 9 (.string (bs l)) (.int .i64 k)).run Tryd.prog w = .ok (.int .u8 (l[k]'h).toNat) w := by
  rw [run_index_string _ _ _ _ _ Tryd.underlying9, dif_pos ⟨by omega, by rw [bs_size]; omega⟩]
  rfl
set_option maxRecDepth 100000 in
set_option maxHeartbeats 1000000 in
theorem nameOf_any (k : Int) (w : World) : Calls Tryd.prog 22 #[.int .i64 k] w fun e w' => e = .returned (.string (bs (nm k))) ∧ w = w' := by
  go_enter Tryd.func22, Tryd.ntmps22
  go_wp2
  all_goals go_ret
  all_goals refine ⟨?_, rfl⟩
  all_goals (simp only [beq_iff_eq, beq_eq_false_iff_ne, ne_eq] at *)
  all_goals unfold nm
  all_goals (first | subst_vars | skip)
  all_goals (first | rfl | (simp_all; done) | (simp_all; rfl))
theorem dec_piece : ∀ n : Nat, n < 10 → (bs [48, 49, 50, 51, 52, 53, 54, 55, 56, 57]).extract n (n + 1) = bs (Lib.decDigits n) := by
  intro n h
  rw [dd_small h]
  obtain rfl | rfl | rfl | rfl | rfl | rfl | rfl | rfl | rfl | rfl : n = 0 ∨ n = 1 ∨ n = 2 ∨ n = 3 ∨ n = 4 ∨ n = 5 ∨ n = 6 ∨ n = 7 ∨ n = 8 ∨ n = 9 := by omega
  all_goals decide
theorem dec_slice (n : Nat) (h : n < 10) : ∀ w, (Instr.slice 9 (.string { data := #[48, 49, 50, 51, 52, 53, 54, 55, 56, 57] }) (some (.int .u64 n)) (some (.int .u64 ((n : Int) + 1))) none).run Tryd.prog w = .ok (.string (bs (Lib.decDigits n))) w := by
  intro w
  rw [← dec_piece n h]
  obtain rfl | rfl | rfl | rfl | rfl | rfl | rfl | rfl | rfl | rfl : n = 0 ∨ n = 1 ∨ n = 2 ∨ n = 3 ∨ n = 4 ∨ n = 5 ∨ n = 6 ∨ n = 7 ∨ n = 8 ∨ n = 9 := by omega
  all_goals kernel_rfl
set_option maxRecDepth 100000 in
set_option maxHeartbeats 1000000 in
theorem decimal_any (n : Nat) (hn : n < 18446744073709551616) (w : World) : Calls Tryd.prog 27 #[.int .u64 n] w fun e w' => e = .returned (.string (bs (Lib.decDigits n))) ∧ w = w' := by
  induction n using Nat.strongRecOn generalizing w with
  | _ n ih =>
    by_cases h : n < 10
    · have hI : (n : Int) < 10 := by omega
      have hsl := dec_slice n h
      go_enter Tryd.func27, Tryd.ntmps27
      go_wp2
      go_ret
      exact ⟨rfl, rfl⟩
    · have hI : ((n : Int) < 10) = False := by rw [eq_iff_iff, iff_false]; omega
      have h1 : ∀ w, Calls Tryd.prog 27 #[.int .u64 ((n : Int) / 10)] w fun e w' => e = .returned (.string (bs (Lib.decDigits (n / 10)))) ∧ w = w' := fun w => ih (n / 10) (by omega) (by omega) w
      have h2 : ∀ w, Calls Tryd.prog 27 #[.int .u64 ((n : Int) % 10)] w fun e w' => e = .returned (.string (bs (Lib.decDigits (n % 10)))) ∧ w = w' := fun w => ih (n % 10) (by omega) (by omega) w
      have HE := Lib.hid (show bs (Lib.decDigits (n / 10)) ++ bs (Lib.decDigits (n % 10)) = bs (Lib.decDigits n) by rw [bs_append, dd_big h, dd_small (Nat.mod_lt n (by decide : 0 < 10))])
      have H1 := Lib.hid h1
      have H2 := Lib.hid h2
      clear ih h1 h2
      go_enter Tryd.func27, Tryd.ntmps27
      go_wp2_with (first
        | (go_at_call 27; (with_reducible refine (H1.out _).mono ?_); rintro e w1 ⟨rfl, rfl⟩)
        | (go_at_call 27; (with_reducible refine (H2.out _).mono ?_); rintro e w1 ⟨rfl, rfl⟩))
      · rename_i hbig
        exfalso
        have h1 := nd20 (show n / 10 < 18446744073709551616 by omega)
        have h2 := nd20 (show n % 10 < 18446744073709551616 by omega)
        rw [bs_size, bs_size] at hbig
        omega
      · rw [HE.out]
        go_ret
        exact ⟨rfl, rfl⟩
end Sc
end Go.Proofs.YthgmanncmekeeaaDoor
