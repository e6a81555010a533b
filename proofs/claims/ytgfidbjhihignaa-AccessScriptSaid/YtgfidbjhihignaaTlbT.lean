/- package tlb: a cache of four sets. -/
import Derived.Test.YtgfidbjhihignaaTlbF
import Derived.StillTailTactics
import Derived.Deep.RegionWith
import Derived.Outline
namespace Go.Proofs.Ytgfidbjhihignaa
set_option linter.unusedVariables false
set_option linter.unusedSimpArgs false
open Go.ChangeShapes Go.WideShapes Go.ChangeAt Go.RowKit

theorem of_any (w : World) (b : Nat) (p : Int) (h0 : 0 ≤ p) (h1 : p < 512) : Calls Try.prog 63 #[.pointer (some ⟨b, 0, none⟩), .int .i64 p] w fun e w' => e = .returned (.pointer (some ⟨b, 11 * (p % 4).toNat, none⟩)) ∧ w = w' := by
  have h4 : p % 4 = 0 ∨ p % 4 = 1 ∨ p % 4 = 2 ∨ p % 4 = 3 := by omega
  rcases h4 with h4 | h4 | h4 | h4
  all_goals
    rw [h4]
    go_enter Try.func63, Try.ntmps63
    go_wp2
    go_ret
    exact ⟨rfl, rfl⟩
theorem mayT_any (w : World) (a c : Int) : Calls Try.prog 62 #[.int .i64 a, .int .i64 c] w fun e w' => e = .returned (.bool (decide (1 ≤ a ∧ 0 ≤ c ∧ c < 512))) ∧ w = w' := by
  go_enter Try.func62, Try.ntmps62
  go_wp2
  all_goals go_ret
  all_goals refine ⟨ret_bool ?_, rfl⟩
  all_goals (rw [Bool.eq_iff_iff]; simp; omega)
/-- A cache in a block of its own: four sets. -/
structure TlbAt (w : World) (b : Nat) (S : Nat → TransX × TransX × Int) : Prop where
  at_ : ∀ i, i < 4 → setAt w b (11 * i) (S i).1 (S i).2.1 (S i).2.2
  free : ∀ j, w.frozen? ⟨b, j, none⟩ = false
  lt : b < w.heap.size
def SetOk (s : TransX × TransX × Int) : Prop := OkT s.1 ∧ OkT s.2.1 ∧ (s.2.2 = 0 ∨ s.2.2 = 1)
theorem TlbAt.call {w w' : World} {b : Nat} {S : Nat → TransX × TransX × Int} (h : TlbAt w b S) (k : Below w.heap.size w w') : TlbAt w' b S :=
  ⟨fun i hi => (h.at_ i hi).call h.lt k, fun j => (k.frozen (p := ⟨b, j, none⟩) h.lt).trans (h.free j), Nat.lt_of_lt_of_le h.lt k.size⟩
theorem setAt.far {w w' : World} {b o o' : Nat} {x y : TransX} {due : Int} (h : setAt w b o x y due) (hb : b < w.heap.size) (k : SetOnly b o' w w') (hf : o + 11 ≤ o' ∨ o' + 11 ≤ o) : setAt w' b o x y due := by
  obtain ⟨⟨c0, c1, c2, c3, c4⟩, ⟨c5, c6, c7, c8, c9⟩, c10⟩ := h
  have e : ∀ j, o ≤ j → j < o + 11 → w'.cell? ⟨b, j, none⟩ = w.cell? ⟨b, j, none⟩ := fun j h1 h2 => k.cell j hb (by omega)
  exact ⟨⟨(e _ (by omega) (by omega)).trans c0, (e _ (by omega) (by omega)).trans c1, (e _ (by omega) (by omega)).trans c2, (e _ (by omega) (by omega)).trans c3, (e _ (by omega) (by omega)).trans c4⟩, ⟨(e _ (by omega) (by omega)).trans c5, (e _ (by omega) (by omega)).trans c6, (e _ (by omega) (by omega)).trans c7, (e _ (by omega) (by omega)).trans c8, (e _ (by omega) (by omega)).trans c9⟩, (e _ (by omega) (by omega)).trans c10⟩
/-- One set is another. -/
def setS (S : Nat → TransX × TransX × Int) (k : Nat) (s : TransX × TransX × Int) : Nat → TransX × TransX × Int := fun i => if i = k then s else S i
theorem TlbAt.put {w w' : World} {b k : Nat} {S : Nat → TransX × TransX × Int} {s : TransX × TransX × Int} (h : TlbAt w b S) (hs : setAt w' b (11 * k) s.1 s.2.1 s.2.2) (ho : SetOnly b (11 * k) w w') : TlbAt w' b (setS S k s) := by
  refine ⟨fun i hi => ?_, fun j => (ho.frozen j h.lt).trans (h.free j), Nat.lt_of_lt_of_le h.lt ho.size⟩
  unfold setS
  by_cases hk : i = k
  · subst hk; rw [if_pos rfl]; exact hs
  · rw [if_neg hk]; exact (h.at_ i hi).far h.lt ho (by omega)
/-- What a call on a cache keeps: every other block. -/
structure TlbOnly (b : Nat) (w w' : World) : Prop where
  os : w'.os = w.os
  tape : w'.tape = w.tape
  output : w'.output = w.output
  size : w.heap.size ≤ w'.heap.size
  block : ∀ k, k < w.heap.size → k ≠ b → w'.heap[k]? = w.heap[k]?
theorem SetOnly.tlb {b o : Nat} {w w' : World} (h : SetOnly b o w w') : TlbOnly b w w' := ⟨h.os, h.tape, h.output, h.size, h.block⟩
theorem TlbOnly.refl (b : Nat) (w : World) : TlbOnly b w w := (SetOnly.refl b 0 w).tlb
theorem TlbOnly.of_below {b : Nat} {w w' : World} (h : Below w.heap.size w w') : TlbOnly b w w' := (SetOnly.below (o := 0) h).tlb
theorem TlbOnly.trans {b : Nat} {a c d : World} (h : TlbOnly b a c) (k : TlbOnly b c d) : TlbOnly b a d := ⟨k.os.trans h.os, k.tape.trans h.tape, k.output.trans h.output, Nat.le_trans h.size k.size, fun i hi hj => (k.block i (Nat.lt_of_lt_of_le hi h.size) hj).trans (h.block i hi hj)⟩
theorem TlbOnly.below {b B : Nat} {w w' : World} (h : TlbOnly b w w') (hB : B ≤ b) (hb : b < w.heap.size) : Below B w w' := ⟨h.os, h.tape, h.output, h.size, fun k hk => h.block k (by omega) (by omega)⟩
def setNo (p : Int) : Nat := (p % 4).toNat
theorem setNo_lt {p : Int} (h : 0 ≤ p) : setNo p < 4 := by unfold setNo; omega
set_option maxRecDepth 100000 in
set_option maxHeartbeats 1000000 in
theorem tfill_yes (w : World) (b : Nat) (S : Nat → TransX × TransX × Int) (s p f : Int) (r q : Bool) (h : TlbAt w b S) (hS : ∀ i, i < 4 → SetOk (S i)) (s0 : 1 ≤ s) (p0 : 0 ≤ p) (p1 : p < 512) (f0 : 0 ≤ f) (f1 : f < 64) (hrq : r = true ∨ r = false ∧ q = true) :
    Calls Try.prog 58 #[.pointer (some ⟨b, 0, none⟩), trV s p f r q] w fun e w' => e = .returned (.int .i64 0) ∧ TlbAt w' b (setS S (setNo p) (fillR (S (setNo p)).1 (S (setNo p)).2.1 (S (setNo p)).2.2 ⟨s, p, f, r, q⟩)) ∧ TlbOnly b w w' := by
  have hk := setNo_lt p0
  obtain ⟨ok1, ok2, ok3⟩ := hS _ hk
  have hm : decide (1 ≤ s ∧ 0 ≤ p ∧ p < 512) = true := decide_eq_true ⟨s0, p0, p1⟩
  have hkk : (p % 4).toNat = setNo p := rfl
  generalize setNo p = k at *
  have H := Lib.hid h
  have HM := Lib.hid hm
  have HK := Lib.hid hkk
  clear h hm hS hkk
  rcases hrq with rfl | ⟨rfl, rfl⟩
  · go_enter Try.func58, Try.ntmps58
    go_wp2_with (first
      | (go_at_call 62; refine (mayT_any _ _ _).mono ?_; rw [HM.out]; rintro e w1 ⟨rfl, rfl⟩))
    obtain ⟨w1, hw1⟩ : ∃ x, x = w.alloc (Obj.cells #[Value.int .i64 s, Value.int .i64 p, Value.int .i64 f, Value.bool true, Value.bool q] 104) := ⟨_, rfl⟩
    rw [← hw1]
    have x0 : w1.cell? ⟨w.heap.size, 0, none⟩ = some (.int .i64 s) := by rw [hw1]; simp
    have x1 : w1.cell? ⟨w.heap.size, 1, none⟩ = some (.int .i64 p) := by rw [hw1]; simp
    have x2 : w1.cell? ⟨w.heap.size, 2, none⟩ = some (.int .i64 f) := by rw [hw1]; simp
    have x3 : w1.cell? ⟨w.heap.size, 3, none⟩ = some (.bool true) := by rw [hw1]; simp
    have x4 : w1.cell? ⟨w.heap.size, 4, none⟩ = some (.bool q) := by rw [hw1]; simp
    have hb1 : Below w.heap.size w w1 := hw1 ▸ bal (Below.refl _ _) _
    clear hw1
    have h1 := H.out.call hb1
    have h2 := h1.at_ _ hk
    have H1 := Lib.hid h1
    have H2 := Lib.hid h2
    clear h1 h2
    have hfi : Calls Try.prog 67 #[.pointer (some ⟨b, 11 * k, none⟩), trV s p f true q] w1.drew fun e w' => e = .returned (.tuple #[]) ∧ setAt w' b (11 * k) (fillR (S k).1 (S k).2.1 (S k).2.2 ⟨s, p, f, true, q⟩).1 (fillR (S k).1 (S k).2.1 (S k).2.2 ⟨s, p, f, true, q⟩).2.1 (fillR (S k).1 (S k).2.1 (S k).2.2 ⟨s, p, f, true, q⟩).2.2 ∧ SetOnly b (11 * k) w1.drew w' := fill_any w1.drew b (11 * k) (S k).1 (S k).2.1 (S k).2.2 ⟨s, p, f, true, q⟩ H1.out.lt H2.out.drew H1.out.free ok1 ok2 ok3
    have HFI := Lib.hid hfi
    clear hfi
    go_region_with (first
      | (go_at_call 63; refine (of_any _ b p p0 p1).mono ?_; rw [HK.out]; rintro e w3 ⟨rfl, rfl⟩)
      | (go_at_call 67; refine HFI.out.mono ?_; rintro e w3 ⟨rfl, hs3, ho3⟩))
    all_goals go_wp2
    all_goals go_ret
    all_goals exact ⟨rfl, H1.out.put hs3 ⟨ho3.os, ho3.tape, ho3.output, ho3.size, ho3.block, ho3.cell, ho3.frozen⟩, (TlbOnly.of_below hb1).trans ⟨ho3.os, ho3.tape, ho3.output, ho3.size, ho3.block⟩⟩
  · go_enter Try.func58, Try.ntmps58
    go_wp2_with (first
      | (go_at_call 62; refine (mayT_any _ _ _).mono ?_; rw [HM.out]; rintro e w1 ⟨rfl, rfl⟩))
    obtain ⟨w1, hw1⟩ : ∃ x, x = w.alloc (Obj.cells #[Value.int .i64 s, Value.int .i64 p, Value.int .i64 f, Value.bool false, Value.bool true] 104) := ⟨_, rfl⟩
    rw [← hw1]
    have x0 : w1.cell? ⟨w.heap.size, 0, none⟩ = some (.int .i64 s) := by rw [hw1]; simp
    have x1 : w1.cell? ⟨w.heap.size, 1, none⟩ = some (.int .i64 p) := by rw [hw1]; simp
    have x2 : w1.cell? ⟨w.heap.size, 2, none⟩ = some (.int .i64 f) := by rw [hw1]; simp
    have x3 : w1.cell? ⟨w.heap.size, 3, none⟩ = some (.bool false) := by rw [hw1]; simp
    have x4 : w1.cell? ⟨w.heap.size, 4, none⟩ = some (.bool true) := by rw [hw1]; simp
    have hb1 : Below w.heap.size w w1 := hw1 ▸ bal (Below.refl _ _) _
    clear hw1
    have h1 := H.out.call hb1
    have h2 := h1.at_ _ hk
    have H1 := Lib.hid h1
    have H2 := Lib.hid h2
    clear h1 h2
    have hfi : Calls Try.prog 67 #[.pointer (some ⟨b, 11 * k, none⟩), trV s p f false true] w1.drew fun e w' => e = .returned (.tuple #[]) ∧ setAt w' b (11 * k) (fillR (S k).1 (S k).2.1 (S k).2.2 ⟨s, p, f, false, true⟩).1 (fillR (S k).1 (S k).2.1 (S k).2.2 ⟨s, p, f, false, true⟩).2.1 (fillR (S k).1 (S k).2.1 (S k).2.2 ⟨s, p, f, false, true⟩).2.2 ∧ SetOnly b (11 * k) w1.drew w' := fill_any w1.drew b (11 * k) (S k).1 (S k).2.1 (S k).2.2 ⟨s, p, f, false, true⟩ H1.out.lt H2.out.drew H1.out.free ok1 ok2 ok3
    have HFI := Lib.hid hfi
    clear hfi
    go_region_with (first
      | (go_at_call 63; refine (of_any _ b p p0 p1).mono ?_; rw [HK.out]; rintro e w3 ⟨rfl, rfl⟩)
      | (go_at_call 67; refine HFI.out.mono ?_; rintro e w3 ⟨rfl, hs3, ho3⟩))
    all_goals go_wp2
    all_goals go_ret
    all_goals exact ⟨rfl, H1.out.put hs3 ⟨ho3.os, ho3.tape, ho3.output, ho3.size, ho3.block, ho3.cell, ho3.frozen⟩, (TlbOnly.of_below hb1).trans ⟨ho3.os, ho3.tape, ho3.output, ho3.size, ho3.block⟩⟩
end Go.Proofs.Ytgfidbjhihignaa
