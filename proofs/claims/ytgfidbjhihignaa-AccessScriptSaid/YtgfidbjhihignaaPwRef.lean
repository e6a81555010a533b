/- Chapter 3: Word, Decode. -/
import Derived.Test.YtgfidbjhihignaaPwMayR
import Derived.Deep.QuietTactic
import Derived.BigQuiet
import Derived.Lib.Hide
import Derived.Laws.BitsAllLaws
import Derived.WalkSmall
namespace Go.Proofs.Ytgfidbjhihignaa
set_option linter.unusedVariables false
set_option linter.unusedSimpArgs false
open Go.ChangeShapes Go.WideShapes Go.ChangeAt Go.RowKit
attribute [local go_sem] setCell_drewN alloc_drewN
/-- The word of an entry that may be. -/
def wordE (v l r w : Bool) (f : Int) : Int := (if v then 1 + 256 * f else 0) + (if l then 2 else 0) + (if r then 4 else 0) + (if w then 8 else 0)
set_option maxHeartbeats 2000000 in
theorem wordR_any (v l r w : Bool) (f : Int) (W : World) (f0 : 0 ≤ f) (f1 : f < 64) : Calls Try.prog 70 #[entV v l r w f] W fun e W' => e = .returned (.int .u64 (wordE v l r w f)) ∧ Below W.heap.size W W' := by
  cases v <;> cases l <;> cases r <;> cases w
  all_goals
    go_enter Try.func70, Try.ntmps70
    go_wp2
    go_ret
    exact ⟨ret_int (by simp [wordE] <;> omega), (Below.refl _ _).alloc (Nat.le_refl _) _⟩
/-- The fields of a word: its bits 1, 2, 3, and those from 8 to 13. -/
def bitB (w k : Int) : Bool := w / k % 2 == 1
def okD (w : Int) : Bool := mayE true (bitB w 2) (bitB w 4) (bitB w 8) (w / 256 % 64) && wordE true (bitB w 2) (bitB w 4) (bitB w 8) (w / 256 % 64) == w
theorem decR_zero (W : World) : Calls Try.prog 60 #[.int .u64 0] W fun e W' => e = .returned (.tuple #[entV false false false false 0, .int .i64 0]) ∧ Below W.heap.size W W' := by
  go_enter Try.func60, Try.ntmps60
  go_wp2
  exact bodyPost_ret (v := .tuple #[entV false false false false 0, .int .i64 0]) (by simp [results, Try.results60, go_sem]) rfl ⟨rfl, (Below.refl _ _).alloc (Nat.le_refl _) _⟩
set_option maxHeartbeats 2000000 in
theorem decR_no (w : Int) (W : World) (w0 : 0 ≤ w) (w1 : w ≤ 18446744073709551615) (hz : w ≠ 0) (h : okD w = false) : Calls Try.prog 60 #[.int .u64 w] W fun e W' => e = .returned (.tuple #[entV false false false false 0, .int .i64 5]) ∧ Below W.heap.size W W' := by
  have z : (w == 0) = false := by simp; omega
  obtain ⟨l, hl⟩ : ∃ l, bitB w 2 = l := ⟨_, rfl⟩
  obtain ⟨r, hr⟩ : ∃ l, bitB w 4 = l := ⟨_, rfl⟩
  obtain ⟨x, hx⟩ : ∃ l, bitB w 8 = l := ⟨_, rfl⟩
  obtain ⟨f, hf⟩ : ∃ f, w / 256 % 64 = f := ⟨_, rfl⟩
  have f0 : 0 ≤ f := by omega
  have f1 : f < 64 := by omega
  unfold okD at h
  rw [hl, hr, hx, hf] at h
  unfold bitB at hl hr hx
  cases hm : mayE true l r x f with
  | false =>
    go_enter Try.func60, Try.ntmps60
    go_wp2_with (first
      | (go_at_call 69; refine (mayR_any true l r x f _).mono ?_; rintro e w1 ⟨rfl, hb1⟩; obtain ⟨hc1, hf1⟩ := bcell hb1; have hz1 : W.heap.size + 1 < w1.heap.size := (by have := hb1.size; simp at this; omega); have hy1 : W.heap.size < w1.heap.size := (by omega))
      | (go_at_call 70; refine (wordR_any true l r x f _ f0 f1).mono ?_; rintro e w2 ⟨rfl, hb2⟩))
    have q0 : w1.cell? ⟨W.heap.size, 0, none⟩ = some (.bool false) := (hc1 _ _ (by simp; omega)).trans (cell_more _ (by simp))
    have q1 : w1.cell? ⟨W.heap.size, 1, none⟩ = some (.bool false) := (hc1 _ _ (by simp; omega)).trans (cell_more _ (by simp))
    have q2 : w1.cell? ⟨W.heap.size, 2, none⟩ = some (.bool false) := (hc1 _ _ (by simp; omega)).trans (cell_more _ (by simp))
    have q3 : w1.cell? ⟨W.heap.size, 3, none⟩ = some (.bool false) := (hc1 _ _ (by simp; omega)).trans (cell_more _ (by simp))
    have q4 : w1.cell? ⟨W.heap.size, 4, none⟩ = some (.int .i64 0) := (hc1 _ _ (by simp; omega)).trans (cell_more _ (by simp))
    exact bodyPost_ret (v := .tuple #[entV false false false false 0, .int .i64 5]) (by simp [results, Try.results60, go_sem, q0, q1, q2, q3, q4]) rfl ⟨rfl, by repeat (first | exact Below.refl _ _ | assumption | refine below_drewN ?_ _ | refine Below.setCell ?_ (by first | exact Nat.le_refl _ | (simp; done) | (simp; omega)) _ | refine bal ?_ _ | refine bgo ?_ (by assumption))⟩
  | true =>
    have hne : (wordE true l r x f != w) = true := by
      rw [hm, Bool.true_and] at h
      rw [bne, h]; rfl
    go_enter Try.func60, Try.ntmps60
    go_wp2_with (first
      | (go_at_call 69; refine (mayR_any true l r x f _).mono ?_; rintro e w1 ⟨rfl, hb1⟩; obtain ⟨hc1, hf1⟩ := bcell hb1; have hz1 : W.heap.size + 1 < w1.heap.size := (by have := hb1.size; simp at this; omega); have hy1 : W.heap.size < w1.heap.size := (by omega))
      | (go_at_call 70; refine (wordR_any true l r x f _ f0 f1).mono ?_; rintro e w2 ⟨rfl, hb2⟩; obtain ⟨hc2, hf2⟩ := bcell hb2; have hz2 : W.heap.size + 1 < w2.heap.size := (by have := hb2.size; omega); have hy2 : W.heap.size < w2.heap.size := (by omega)))
    have q0 : w1.cell? ⟨W.heap.size, 0, none⟩ = some (.bool false) := (hc1 _ _ (by simp; omega)).trans (cell_more _ (by simp))
    have q1 : w1.cell? ⟨W.heap.size, 1, none⟩ = some (.bool false) := (hc1 _ _ (by simp; omega)).trans (cell_more _ (by simp))
    have q2 : w1.cell? ⟨W.heap.size, 2, none⟩ = some (.bool false) := (hc1 _ _ (by simp; omega)).trans (cell_more _ (by simp))
    have q3 : w1.cell? ⟨W.heap.size, 3, none⟩ = some (.bool false) := (hc1 _ _ (by simp; omega)).trans (cell_more _ (by simp))
    have q4 : w1.cell? ⟨W.heap.size, 4, none⟩ = some (.int .i64 0) := (hc1 _ _ (by simp; omega)).trans (cell_more _ (by simp))
    have p0 : w2.cell? ⟨W.heap.size, 0, none⟩ = some (.bool false) := (hc2 _ _ hy1).trans q0
    have p1 : w2.cell? ⟨W.heap.size, 1, none⟩ = some (.bool false) := (hc2 _ _ hy1).trans q1
    have p2 : w2.cell? ⟨W.heap.size, 2, none⟩ = some (.bool false) := (hc2 _ _ hy1).trans q2
    have p3 : w2.cell? ⟨W.heap.size, 3, none⟩ = some (.bool false) := (hc2 _ _ hy1).trans q3
    have p4 : w2.cell? ⟨W.heap.size, 4, none⟩ = some (.int .i64 0) := (hc2 _ _ hy1).trans q4
    exact bodyPost_ret (v := .tuple #[entV false false false false 0, .int .i64 5]) (by simp [results, Try.results60, go_sem, p0, p1, p2, p3, p4]) rfl ⟨rfl, by repeat (first | exact Below.refl _ _ | assumption | refine below_drewN ?_ _ | refine Below.setCell ?_ (by first | exact Nat.le_refl _ | (simp; done) | (simp; omega)) _ | refine bal ?_ _ | refine bgo ?_ (by assumption))⟩
set_option maxHeartbeats 2000000 in
theorem decR_yes (w : Int) (W : World) (w0 : 0 ≤ w) (w1 : w ≤ 18446744073709551615) (hz : w ≠ 0) (h : okD w = true) : Calls Try.prog 60 #[.int .u64 w] W fun e W' => e = .returned (.tuple #[entV true (bitB w 2) (bitB w 4) (bitB w 8) (w / 256 % 64), .int .i64 0]) ∧ Below W.heap.size W W' := by
  have z : (w == 0) = false := by simp; omega
  obtain ⟨l, hl⟩ : ∃ l, bitB w 2 = l := ⟨_, rfl⟩
  obtain ⟨r, hr⟩ : ∃ l, bitB w 4 = l := ⟨_, rfl⟩
  obtain ⟨x, hx⟩ : ∃ l, bitB w 8 = l := ⟨_, rfl⟩
  obtain ⟨f, hf⟩ : ∃ f, w / 256 % 64 = f := ⟨_, rfl⟩
  have f0 : 0 ≤ f := by omega
  have f1 : f < 64 := by omega
  rw [hl, hr, hx, hf]
  unfold okD at h
  rw [hl, hr, hx, hf, Bool.and_eq_true] at h
  unfold bitB at hl hr hx
  obtain ⟨hm, he⟩ := h
  have hne : (wordE true l r x f != w) = false := by rw [bne, he]; rfl
  clear he
  go_enter Try.func60, Try.ntmps60
  go_wp2_with (first
    | (go_at_call 69; refine (mayR_any true l r x f _).mono ?_; rintro e w1 ⟨rfl, hb1⟩; obtain ⟨hc1, hf1⟩ := bcell hb1; have hz1 : W.heap.size + 1 < w1.heap.size := (by have := hb1.size; simp at this; omega); have hy1 : W.heap.size < w1.heap.size := (by omega))
    | (go_at_call 70; refine (wordR_any true l r x f _ f0 f1).mono ?_; rintro e w2 ⟨rfl, hb2⟩; obtain ⟨hc2, hf2⟩ := bcell hb2; have hz2 : W.heap.size + 1 < w2.heap.size := (by have := hb2.size; omega); have hy2 : W.heap.size < w2.heap.size := (by omega)))
  have q0 : w1.cell? ⟨W.heap.size, 0, none⟩ = some (.bool false) := (hc1 _ _ (by simp; omega)).trans (cell_more _ (by simp))
  have q1 : w1.cell? ⟨W.heap.size, 1, none⟩ = some (.bool false) := (hc1 _ _ (by simp; omega)).trans (cell_more _ (by simp))
  have q2 : w1.cell? ⟨W.heap.size, 2, none⟩ = some (.bool false) := (hc1 _ _ (by simp; omega)).trans (cell_more _ (by simp))
  have q3 : w1.cell? ⟨W.heap.size, 3, none⟩ = some (.bool false) := (hc1 _ _ (by simp; omega)).trans (cell_more _ (by simp))
  have q4 : w1.cell? ⟨W.heap.size, 4, none⟩ = some (.int .i64 0) := (hc1 _ _ (by simp; omega)).trans (cell_more _ (by simp))
  have p0 : w2.cell? ⟨W.heap.size, 0, none⟩ = some (.bool false) := (hc2 _ _ hy1).trans q0
  have p1 : w2.cell? ⟨W.heap.size, 1, none⟩ = some (.bool false) := (hc2 _ _ hy1).trans q1
  have p2 : w2.cell? ⟨W.heap.size, 2, none⟩ = some (.bool false) := (hc2 _ _ hy1).trans q2
  have p3 : w2.cell? ⟨W.heap.size, 3, none⟩ = some (.bool false) := (hc2 _ _ hy1).trans q3
  have p4 : w2.cell? ⟨W.heap.size, 4, none⟩ = some (.int .i64 0) := (hc2 _ _ hy1).trans q4
  exact bodyPost_ret (v := .tuple #[entV true l r x f, .int .i64 0]) (by simp [results, Try.results60, go_sem, p0, p1, p2, p3, p4]) rfl ⟨rfl, by repeat (first | exact Below.refl _ _ | assumption | refine below_drewN ?_ _ | refine Below.setCell ?_ (by first | exact Nat.le_refl _ | (simp; done) | (simp; omega)) _ | refine bal ?_ _ | refine bgo ?_ (by assumption))⟩
end Go.Proofs.Ytgfidbjhihignaa
