/- Chapter 28's laws: two orders compared; Decode of anything; awake. -/
import Derived.Test.YtahagcghbeeajaaDcD
import Derived.Test.YtahagcghbeeajaaStructs
import Derived.ChangeKeysEq
namespace Go.Proofs.Ytahagcghbeeajaa
set_option linter.unusedVariables false
set_option linter.unusedSimpArgs false
open Go.ChangeShapes Go.WideShapes Go.ChangeAt Go.RowKit Go.Shelf

def eqB (o p : Nat → Int) : Bool := decide (o 0 = p 0 ∧ o 1 = p 1 ∧ o 2 = p 2 ∧ o 3 = p 3 ∧ o 4 = p 4 ∧ o 5 = p 5 ∧ o 6 = p 6 ∧ o 7 = p 7 ∧ o 8 = p 8 ∧ o 9 = p 9 ∧ o 10 = p 10 ∧ o 11 = p 11)
theorem eqB_iff (o p : Nat → Int) : eqB o p = true ↔ ∀ i, i < 12 → o i = p i := by
  unfold eqB
  rw [decide_eq_true_iff]
  constructor
  · rintro ⟨h0, h1, h2, h3, h4, h5, h6, h7, h8, h9, h10, h11⟩ i hi
    obtain rfl | rfl | rfl | rfl | rfl | rfl | rfl | rfl | rfl | rfl | rfl | rfl : i = 0 ∨ i = 1 ∨ i = 2 ∨ i = 3 ∨ i = 4 ∨ i = 5 ∨ i = 6 ∨ i = 7 ∨ i = 8 ∨ i = 9 ∨ i = 10 ∨ i = 11 := by omega
    all_goals assumption
  · intro h
    exact ⟨h 0 (by decide), h 1 (by decide), h 2 (by decide), h 3 (by decide), h 4 (by decide), h 5 (by decide), h 6 (by decide), h 7 (by decide), h 8 (by decide), h 9 (by decide), h 10 (by decide), h 11 (by decide)⟩
theorem eq3 (a b c a' b' c' : Int) (w : World) : (Op.equalIn 9999 26 (.agg #[.int .i64 a, .int .i64 b, .int .i64 c]) (.agg #[.int .i64 a', .int .i64 b', .int .i64 c'])).run Try.prog w = .ok (a == a' && (b == b' && c == c')) w := by
  obtain ⟨i, hi⟩ : ∃ i, Try.prog.info? 3 = some i := Option.isSome_iff_exists.1 (by kernel_rfl)
  have hc : Try.prog.cellsOf 3 = 1 := by kernel_rfl
  rw [run_equalIn_array (P := Try.prog) w 9998 _ _ Try.underlying26 hi]
  simp [Op.eqItems, hc, go_sem, List.range, List.range.loop]
  repeat (split <;> simp_all)
theorem eq4 (a b c d a' b' c' d' : Int) (w : World) : (Op.equalIn 9999 27 (.agg #[.int .u64 a, .int .u64 b, .int .u64 c, .int .u64 d]) (.agg #[.int .u64 a', .int .u64 b', .int .u64 c', .int .u64 d'])).run Try.prog w = .ok (a == a' && (b == b' && (c == c' && d == d'))) w := by
  obtain ⟨i, hi⟩ : ∃ i, Try.prog.info? 22 = some i := Option.isSome_iff_exists.1 (by kernel_rfl)
  have hc : Try.prog.cellsOf 22 = 1 := by kernel_rfl
  rw [run_equalIn_array (P := Try.prog) w 9998 _ _ Try.underlying27 hi]
  simp [Op.eqItems, hc, go_sem, List.range, List.range.loop]
  repeat (split <;> simp_all)
attribute [go_sem] eq3 eq4
set_option maxHeartbeats 1000000 in
theorem eqO (o p : Nat → Int) (w : World) : (binOp .eql 29 (ordV o) (ordV p)).run Try.prog w = .ok (.bool (eqB o p)) w := by
  unfold eqB ordV ordA
  go_simp
  repeat (split <;> simp_all)
theorem decode_any (n : Nat) (a : Nat → Int) (w : World) : Calls Try.prog 7 #[.agg (callA n a)] w fun e w' => e = .returned (.tuple #[ordV (decM n a).1, .int .i64 (decM n a).2]) ∧ Below w.heap.size w w' := by
  cases hL : formsL n with
  | none =>
    have e : decM n a = (zO, 2) := by unfold decM; rw [hL]
    rw [e]
    exact decode_none n a w hL
  | some L =>
    by_cases h1 : n = 1
    · subst h1
      by_cases hk : framesN (wrap64 (a 1)) (wrap64 (a 2)) = 0
      · have e : decM 1 a = (zO, 2) := by
          unfold decM
          rw [hL]
          show (if _ then _ else _) = _
          rw [if_pos ⟨rfl, hk⟩]
        rw [e]
        exact decode_ret0 a w hk
      · exact callsIn_wide.1 (decode_in1 a L w hL hk)
    · exact callsIn_wide.1 (decode_inn n a L w hL h1)
def aA : Nat → Int
  | 0 => 3 | 1 => 9 | 2 => 1 | _ => 0
def aB : Nat → Int
  | 0 => 3 | 1 => 4096 | 2 => 1 | _ => 0
set_option maxRecDepth 100000 in
set_option maxHeartbeats 2000000 in
theorem awake28 (w : World) : Calls Try.prog 10 #[] w fun e w' => e = .returned (.bool true) ∧ Below w.heap.size w w' := by
  have d1 : ∀ w, Calls Try.prog 7 #[.agg #[.int .u64 2, .int .u64 3, .int .u64 9, .int .u64 1, .int .u64 0, .int .u64 0, .int .u64 0]] w fun e w' => e = .returned (.tuple #[.agg #[.int .i64 2, .int .i64 3, .int .i64 9, .int .i64 0, .int .i64 1, .int .i64 0, .int .i64 0, .int .u64 0, .int .u64 0, .int .u64 0, .int .u64 0, .int .u64 0], .int .i64 0]) ∧ Below w.heap.size w w' := fun w => by
    have h := decode_any 2 aA w
    have e : Value.tuple #[ordV (decM 2 aA).1, .int .i64 (decM 2 aA).2] = .tuple #[.agg #[.int .i64 2, .int .i64 3, .int .i64 9, .int .i64 0, .int .i64 1, .int .i64 0, .int .i64 0, .int .u64 0, .int .u64 0, .int .u64 0, .int .u64 0, .int .u64 0], .int .i64 0] := by kernel_rfl
    rw [e] at h
    exact h
  have d2 : ∀ w, Calls Try.prog 7 #[.agg #[.int .u64 2, .int .u64 3, .int .u64 4096, .int .u64 1, .int .u64 0, .int .u64 0, .int .u64 0]] w fun e w' => e = .returned (.tuple #[.agg #[.int .i64 0, .int .i64 0, .int .i64 0, .int .i64 0, .int .i64 0, .int .i64 0, .int .i64 0, .int .u64 0, .int .u64 0, .int .u64 0, .int .u64 0, .int .u64 0], .int .i64 3]) ∧ Below w.heap.size w w' := fun w => by
    have h := decode_any 2 aB w
    have e : Value.tuple #[ordV (decM 2 aB).1, .int .i64 (decM 2 aB).2] = .tuple #[.agg #[.int .i64 0, .int .i64 0, .int .i64 0, .int .i64 0, .int .i64 0, .int .i64 0, .int .i64 0, .int .u64 0, .int .u64 0, .int .u64 0, .int .u64 0, .int .u64 0], .int .i64 3] := by kernel_rfl
    rw [e] at h
    exact h
  have D1 := Lib.hid d1
  have D2 := Lib.hid d2
  clear d1 d2
  go_enter Try.func10, Try.ntmps10
  go_wp2_with (first
    | (go_at_call 7; with_reducible refine (D1.out _).mono ?_; rintro e w1 ⟨rfl, hb1⟩)
    | (go_at_call 7; with_reducible refine (D2.out _).mono ?_; rintro e w2 ⟨rfl, hb2⟩; obtain ⟨hc2, hf2⟩ := bcell hb2; have hz2 : w1.heap.size < w2.heap.size := (by have := hb2.size; simp at this; omega)))
  go_ret
  exact ⟨rfl, bal (bgo (bal hb1 _) hb2) _⟩
end Go.Proofs.Ytahagcghbeeajaa
