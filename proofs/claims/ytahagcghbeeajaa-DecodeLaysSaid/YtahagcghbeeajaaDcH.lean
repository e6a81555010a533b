/- The law DecodeStrict, at the statement's arguments. -/
import Derived.Test.YtahagcghbeeajaaDcG
namespace Go.Proofs.Ytahagcghbeeajaa
set_option linter.unusedVariables false
set_option linter.unusedSimpArgs false
open Go.ChangeShapes Go.WideShapes Go.ChangeAt Go.RowKit Go.Shelf

/-- The words of a call. -/
def CallX.w (x : CallX) : Nat → Int
  | 0 => x.b | 1 => x.c | 2 => x.d | 3 => x.e | 4 => x.f | _ => x.g
theorem CallX.Ok.words {x : CallX} (h : x.Ok) : ∀ j < 6, 0 ≤ x.w j ∧ x.w j ≤ 18446744073709551615 := by
  obtain ⟨h0, h1, h2, h3, h4, h5, h6⟩ := h
  intro j hj
  obtain rfl | rfl | rfl | rfl | rfl | rfl : j = 0 ∨ j = 1 ∨ j = 2 ∨ j = 3 ∨ j = 4 ∨ j = 5 := by omega
  all_goals assumption
theorem CallX.val_eq (x : CallX) (n : Nat) (h : x.a = n) : x.val = .agg (callA n x.w) := by
  show Value.agg #[.int .u64 x.a, _, _, _, _, _, _] = _
  rw [h]
  rfl
theorem u64_of28 {n : Int} (h : (Lit.int .u64 n).wf = true) : 0 ≤ n ∧ n ≤ 18446744073709551615 := by
  simp [Lit.wf, IntKind.min, IntKind.max, IntKind.signed, IntKind.bits] at h
  exact ⟨by omega, by omega⟩
theorem i64_of28 {n : Int} (h : (Lit.int .i64 n).wf = true) : -9223372036854775808 ≤ n ∧ n ≤ 9223372036854775807 := by
  simp [Lit.wf, IntKind.min, IntKind.max, IntKind.signed, IntKind.bits] at h
  exact ⟨by omega, by omega⟩
theorem walk_decodeStrict (a0 : CallX) (w0 : a0.Ok) (a1 : Int) (w1 : (Lit.int .i64 a1).wf = true) (a2 : Int) (w2 : (Lit.int .u64 a2).wf = true) (W : World) :
    Calls Try.prog 6 #[a0.val, .int .i64 a1, .int .u64 a2] W fun e w' => e = .returned (.bool true) ∧ Below W.heap.size W w' := by
  obtain ⟨n, hn⟩ := Int.eq_ofNat_of_zero_le w0.1.1
  rw [a0.val_eq n hn]
  exact strict_any n a0.w a1 a2 (by have := w0.1.2; omega) w0.words (i64_of28 w1) (u64_of28 w2) W
end Go.Proofs.Ytahagcghbeeajaa
