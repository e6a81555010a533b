/- Package access: locate. -/
import Derived.Test.YtgfidbjhihignaaAc1
import Derived.Deep.QuietTactic
import Derived.BigQuiet
namespace Go.Proofs.Ytgfidbjhihignaa
set_option linter.unusedVariables false
set_option linter.unusedSimpArgs false
open Go.ChangeShapes Go.WideShapes Go.ChangeAt Go.RowKit Go.Shelf

/-- The three cells of a fault. -/
structure FltAt (w : World) (q : Nat) (a b c : Value) : Prop where
  c0 : w.cell? ⟨q, 0, none⟩ = some a
  c1 : w.cell? ⟨q, 1, none⟩ = some b
  c2 : w.cell? ⟨q, 2, none⟩ = some c
  fr : ∀ j, w.frozen? ⟨q, j, none⟩ = false
  lt : q < w.heap.size
theorem FltAt.new (w : World) (t : TypeId) (a b c : Value) : FltAt (w.alloc (.cells #[a, b, c] t)) w.heap.size a b c :=
  ⟨by rw [cellE]; rfl, by rw [cellE]; rfl, by rw [cellE]; rfl, fun j => frozE _ _ _ j, by simp⟩
theorem FltAt.call {w w' : World} {q : Nat} {a b c : Value} (h : FltAt w q a b c) (k : Below w.heap.size w w') : FltAt w' q a b c :=
  ⟨(k.cell (p := ⟨q, 0, none⟩) h.lt).trans h.c0, (k.cell (p := ⟨q, 1, none⟩) h.lt).trans h.c1, (k.cell (p := ⟨q, 2, none⟩) h.lt).trans h.c2, fun j => (k.frozen (p := ⟨q, j, none⟩) h.lt).trans (h.fr j), Nat.lt_of_lt_of_le h.lt k.size⟩
set_option maxRecDepth 100000 in
set_option maxHeartbeats 1000000 in
theorem locate_range (w : World) (c m : Option Addr) (k va : Int) (wr : Bool) (h : 32768 ≤ va) :
    Calls Try.prog 30 #[.pointer c, .pointer m, .int .i64 k, .int .u64 va, .bool wr] w fun e w' => e = .returned (.tuple #[.int .u64 0, faultV 1 va wr]) ∧ Below w.heap.size w w' := by
  go_enter Try.func30, Try.ntmps30
  go_wp2
  go_step3
  go_wp2_with (first
    | (go_at_call 39; refine (split_no _ _ h).mono ?_; rintro e w1 ⟨rfl, hb1⟩; obtain ⟨hc, hf⟩ := bcell hb1; have hz : w.heap.size < w1.heap.size := (by have := hb1.size; simp at this; omega)))
  go_step3
  go_wp2
  rw [Exit.noGoto_ret]
  exact bodyPost_ret (v := .tuple #[.int .u64 0, faultV 1 va wr]) (by simp [results, Try.results30, go_sem, hc, hz]) rfl ⟨rfl, bal (Below.setCell (Below.setCell (Below.setCell (bgo (bal (Below.refl _ _) _) hb1) (Nat.le_refl _) _) (Nat.le_refl _) _) (Nat.le_refl _) _) _⟩
set_option maxRecDepth 100000 in
set_option maxHeartbeats 1000000 in
theorem locate_align (w : World) (c m : Option Addr) (k va : Int) (wr : Bool) (h0 : 0 ≤ va) (h : va < 32768) (ha : ¬ va % 8 = 0) :
    Calls Try.prog 30 #[.pointer c, .pointer m, .int .i64 k, .int .u64 va, .bool wr] w fun e w' => e = .returned (.tuple #[.int .u64 0, faultV 2 va wr]) ∧ Below w.heap.size w w' := by
  have hab : (va % 8 == 0) = false := beq_eq_false_iff_ne.2 ha
  go_enter Try.func30, Try.ntmps30
  go_wp2
  go_step3
  go_wp2_with (first
    | (go_at_call 39; refine (split_yes _ _ h0 h).mono ?_; rintro e w1 ⟨rfl, hb1⟩; obtain ⟨hc, hf⟩ := bcell hb1; have hz : w.heap.size < w1.heap.size := (by have := hb1.size; simp at this; omega)))
  go_step3
  go_wp2
  rw [Exit.noGoto_ret]
  exact bodyPost_ret (v := .tuple #[.int .u64 0, faultV 2 va wr]) (by simp [results, Try.results30, go_sem, hc, hz]) rfl ⟨rfl, bal (Below.setCell (Below.setCell (Below.setCell (bgo (bal (Below.refl _ _) _) hb1) (Nat.le_refl _) _) (Nat.le_refl _) _) (Nat.le_refl _) _) _⟩
set_option maxRecDepth 100000 in
set_option maxHeartbeats 1000000 in
theorem locate_space (w : World) (c m : Option Addr) (k va : Int) (wr : Bool) (h0 : 0 ≤ va) (h : va < 32768) (ha : va % 8 = 0)
    (hw : ∀ w1, Below w.heap.size w w1 → Calls Try.prog 40 #[.pointer c, .pointer m, .int .i64 k] w1 fun e w' => e = .returned (.bool false) ∧ Below w1.heap.size w1 w') :
    Calls Try.prog 30 #[.pointer c, .pointer m, .int .i64 k, .int .u64 va, .bool wr] w fun e w' => e = .returned (.tuple #[.int .u64 0, faultV 3 va wr]) ∧ Below w.heap.size w w' := by
  have hab : (va % 8 == 0) = true := beq_iff_eq.2 ha
  have HW := Lib.hid hw
  clear hw
  go_enter Try.func30, Try.ntmps30
  go_wp2
  go_step3
  go_wp2_with (first
    | (go_at_call 39; refine (split_yes _ _ h0 h).mono ?_; rintro e w1 ⟨rfl, hb1⟩; obtain ⟨hc, hf⟩ := bcell hb1; have hz : w.heap.size < w1.heap.size := (by have := hb1.size; simp at this; omega)))
  go_step3
  go_wp2_with (first
    | (go_at_call 40; refine (HW.out _ (bal (bgo (bal (Below.refl _ _) _) hb1) _)).mono ?_; rintro e w2 ⟨rfl, hb2⟩; obtain ⟨r0, r1, r2, rf, rl⟩ := (((FltAt.new w 40 (.int .i64 0) (.int .u64 0) (.bool false)).call hb1).call (bal (Below.refl _ _) _)).call hb2))
  rw [Exit.noGoto_ret]
  exact bodyPost_ret (v := .tuple #[.int .u64 0, faultV 3 va wr]) (by simp [results, Try.results30, go_sem, r0, r1, r2]) rfl ⟨rfl, Below.setCell (Below.setCell (Below.setCell (bgo (bal (bgo (bal (Below.refl _ _) _) hb1) _) hb2) (Nat.le_refl _) _) (Nat.le_refl _) _) (Nat.le_refl _) _⟩
end Go.Proofs.Ytgfidbjhihignaa
